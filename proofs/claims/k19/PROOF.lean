import PyProof.Rows.All
import Wide.All
import OpenK.AllK
import Wide.FinOn
import Lean
import PyProof.EqAt
import PyProof.EqKinds
import PyProof.TupleCall
import KE.KDictList
import PyProof.SetKind
import PyProof.IsRules
import KE.KSortTup
import PyProof.Rows.SetFrom
import PyProof.MinMaxWalk
import PyProof.WalkInts
import PyProof.ZipIter
import PyProof.Draws
import PyProof.EnumMake
import PyProof.WalksEnum
import PySem.Challenge.RW_layworld_k19_what_two_have_in_common
noncomputable section
open Option renaming some->ba,none->gV
set_option hygiene false
local macro_rules|`(abbrev $i:declId $s:optDeclSig $v:declVal)=>`(noncomputable def $i:declId $s:optDeclSig $v:declVal)|`(def $i:declId $b* :$t $v:declVal)=>`(theorem $i:declId $b* :$t $v:declVal)|`(tactic|omega)=>`(tactic|first|lia|omega (config:={}))|`(tactic|left)=>`(tactic|dsimp only[wS,wE,wA,wV,wG,List.set])|`(tactic|nofun)=>`(tactic|refine aC λK hK=>?_)
local macro_rules|`(#v[])=>`((by decide))|`(#v[$x:term])=>`(.cons $x .nil)|`(#v[$x:term,$y:term,*])=>`(.cons $x #v[$y,*])
local macro_rules|`(#[$x:term])=>`(⟨$x⟩)|`(#[$x:term,$y:term,*])=>`(⟨$x,$y,*⟩)
local macro_rules|`(∅)=>`((by omega))
open _root_ renaming List->Hr,Option->HA,Nat->HB,Int->HM,decide_eq_true_eq->HQ,if_pos->Ic,Array->Ik,Bool->Il,if_neg->Im,decide_eq_false->Iz,of_decide_eq_true->IQ,beq_self_eq_true->IS,if_false->Jn,False->Jt,String->Jy,or_false->JH,decide_eq_true->JL,of_decide_eq_false->JO,if_true->JP,DecidableEq->Lf,beq_eq_false_iff_ne->Ly,decide_eq_false_iff_not->LO,not_or->NP,True->Oi,bne_self_eq_false->OS,decide_true->Pl,decide_false->Qv,dif_pos->Re,Unit->Rt
open PySem renaming wpAny_bind->Hs,Value->Hu,Shared->Hw,wpAny_pure->Hx,Addr->HD,Str->HY,Expr->Ii,Program->Iw,Around->IB,World->IE,wpAny_newObj_type->IH,Heap->IJ,wpAny_callSpecial?_slot->IV,sizeLine_eq->IX,wpAny_call_entry->Jb,codeAny_builtin->Jf,wpAny_holding->Jg,SetTable->Jl,wpAny_setState_of->Js,wpAny_seqItems->JD,Obj->JJ,wpAny_field->JK,wpAny_mono->J0,NameKind->J2,plainId_quiet->J4,wpAny_typeNameOfWhole_keyiter->Kg,wpAny_truthy_bool->Ki,DictEntry->Kj,Spec->Kq,Pos->Kr,FuncData->Ks,wpAny_setField_rec->Ku,wpAny_passesOwn->KA,Builtin->KI,wpAny_pyIter_list->KJ,wpAny_typeNameOf_keyiter->KN,Stmt->KO,mem_of_lookup->KP,wpAny_askSetting->KU,wpAny_isInstance->KW,codeAny_mono->K5,wpAny_typeOf->K6,wpAny_ite_split->K8,wpAny_attempt->La,Scope->Ld,wpAny_runValue->Lj,wpAny_letGo->Ln,wpAny_forIn_list->Ls,wpAny_updateSeq->LH,wpAny_Call_Name_kw->LI,wpAny_of_eq->LN,wpAny_dictEntries->LW,IsPair->L6,wpAny_standAt->L7,wpAny_loadPart'->Mb,codeAny_of_tree->Mc,wpAny_setEntries_of->Mm,wpAny_rule->Mv,IsPart->Mx,call_meets->Mz,isSubtype_stop->MB,wpAny_fieldsOf->MC,wpAny_newTuple->MD,wpAny_setField->MJ,wpAny_tryCatch->MK,wpAny_pyIter_tuple->MN,wpAny_pyIter_slot->MY,wpAny_newList->M7,wpAny_comprehension_free->M8,noFill_tuple_add->Na,Paired->Nf,wpAny_load->Nh,ItemsOf->Nm,wpAny_execs_nil->Np,wpAny_specialOf->Nu,wpAny_dictEpoch->Nv,builtinLookup_eq_fast->NB,wpAny_isSame_ref_self->ND,weight_type_call_type->NE,wpAny_isOneOf_keyiter->NH,GenState->NL,codeAny_call_builtin->NO,wpAny_pyIter_keyiter->NR,wpAny_updateSeq_pair->NV,PassesOwn->N1,rangeSize_one->N9,seq_tuple_add->Oa,wpAny_handled->Oc,IsZip->Oe,Params->Oo,sub_set_self->Op,Env->OA,wpAny_assign_Name->OB,Operator->OD,BindsTo->OE,concat_meets->OF,wpAny_sequenceKey->OG,seqIndex_neg->OH,list_append->OI,wpAny_setEpoch_of->OO,wpAny_pyIter_enum->OU,wpAny_pyHash_int->OW,wpAny_pyHash_str->OX,Result->OZ,check_set_init_1->O6,wpAny_pyIter_zip->Pb,seqIndex_of->Ph,wpAny_throw->Pi,Walks->Pj,wpAny_mkInt->Pk,typeLookup_type->Pq,Keyword->Pw,wpAny_Name->Px,wpAny_bindName->Py,wpAny_call->PB,typeIs_int->PD,fitsIndex_both->PH,call->PK,isSubtype_type->PN,entryFor_alias->PP,callType_newIn->PY,intBits_le_64->P5,evalPart_none->P7,call_list_seq->P8,wpAny_onRaise->Qi,small_one->Qo,CmpOp->Qp,call_range_1->Qs,IsRangeIter->QD,wpAny_alloc->QL,Sem->QP,BoolOp->Q9,IsEnum->Ra,IsRange->Rf,Fin->Rk,Drawn->Rr,Model->Rs,Tok->RC
open PySem.Heap renaming get?_push_of_some->Ht,get?_push_size->HI,lt_size->HP,get?_update_other->IM,size_push->Ju,get?_update_self->JF,SameBut->JW,get?_update_ne->LA,ExtBut->NQ,size_update->O8
open List renaming length_map->Hv,getElem?_eq_getElem->HC,getElem?_map->HF,getElem?_eq_some_iff->HH,mem_singleton->HJ,length_append->HK,size_toArray->HL,set->HN,zipWith->HR,mem_cons->HW,mem_map->HX,mem_of_getElem?->HZ,all_eq_true->Ig,mem_append->Io,mem_append_right->Iq,map_append->Ir,range->Ix,not_mem_nil->Iy,getElem_mem->IC,take_add_one->IG,replicate->II,length_range->IL,getElem?_append_left->IN,getElem?_eq_none_iff->IT,mem_range->IU,length_cons->IW,all_cons->IY,map_cons->IZ,append_assoc->Ja,mem_cons_of_mem->Ji,length_take->Jj,take_length->Jk,mem_cons_self->Jm,length_eq_zero_iff->Jo,append_nil->Jp,mem_append_left->Jr,mem_filter->JB,length_singleton->JG,mem_iff_getElem->JM,lookup_cons->JQ,replicate_succ->JR,length_zipWith->JS,getElem?_set->J5,map_map->J6,map_congr_left->J7,length_nil->J8,map_singleton->Kd,mem_of_mem_take->Kf,nodup_append->Kk,getElem?_range->Kl,take_of_length_le->Kn,any_cons->Ko,getElem?_append_right->Kt,getD_eq_getElem?_getD->Kv,nodup_iff_pairwise_ne->Kx,pairwise_iff_getElem->Kz,nodup_cons->KC,flatten_cons->KG,length_drop->KS,foldlM_cons->KZ,zip_cons_cons->K7,find?_cons->K9,getElem?_eq_none->Lb,length_filter_le->Lc,getElem_take->Le,length_eraseIdx_of_lt->Li,mem_of_mem_drop->Lm,pairwise_append->Lo,getElem_inj->Lq,filterMap_cons->Lz,mem_map_of_mem->LB,drop_of_length_le->LV,pairwise_map->LX,ext_getElem->L4,forIn_cons->Mf,range_succ->Mk,dropLast_concat_getLast->Ml,flatMap_append->Mp,mem_filterMap->Mw,pairwise_cons->MM,filter_append->MQ,extract_eq_take_drop->MS,rel_of_pairwise_cons->MT,ext_getElem?->MZ,mem_flatMap->Nd,getElem?_set_self->Ng,range_succ_eq_map->Nk,of_mem_zip->Nq,find?_some->Ny,length_replicate->NA,getElem?_zipWith->NJ,take_append_drop->NK,getElem?_set_ne->NM,forIn_nil->NT,nodup_nil->NU,length_dropLast->NW,eraseDups_cons->N6,length_pos_iff->N8,map_take->Of,mem_eraseDups->Ox,zip_nil_left->OM,any_toArray->O7,getElem_map->O9,nodup_range->Pa,isEmpty_iff->Pd,cons_append->Pf,any_eq_true->Pg,foldr_cons->Pu,foldl->PF,drop_zero->PR,all_map->Qt,extract->Qz,length->QE,map->QM,Nodup->Rb
open Option renaming map_eq_some_iff->Hy,map_some->IK,isSome_iff_exists->Jh,map_eq_none_iff->LS,getD_none->O1,getD_some->Pc,map_map->PQ,toList->Qj
open Bool renaming and_eq_true->Hz,false_ne_true->Ih,false_eq_true->Ij,or_eq_true->JY,not_true->KM,and_true->LD,true_and->LF,and_false->MA,not_eq_true'->M0,false_or->M5,and_eq_false_iff->NC,not_false->NN,and_eq_true_iff->NX,or_false->Ob,false_and->Pz
open Nat renaming le_refl->HE,ne_of_lt->HV,lt_of_lt_of_le->Iu,le_trans->ID,lt_succ_self->Jq,lt_irrefl->Jw,zero_le->Jx,ne_of_gt->Jz,lt_succ_of_lt->JT,le_add_right->Kc,div_lt_of_lt_mul->Kh,le_succ->KH,le_of_lt->K4,pow_le_pow_right->Lp,mul_comm->Lr,le_of_ble_eq_true->LZ,succ_le_succ->L3,lt_of_le_of_lt->MO,eq_zero_or_pos->MP,mod_lt->Nl,mul_zero->No,pow_le_pow_left->N7,not_lt->Os,lt_or_gt_of_ne->Ov,succ_mul->OL,le_of_not_lt->O4,succ_ne_zero->O5,min_eq_right->Pe,min_eq_left->Pv,mul_le_mul->PZ,add_assoc->Qd,min_self->Qu,pow_succ->QA,ble->RE
open PySem.W renaming Frag->HG,look_both->IR,keepIn->JC,fnOf->Ke,kia_one->KD,codeIn->KR,kas_sort->K1,nsIn->Lu,methodObj->MV,cellsFrom_some->Ni,OpenLaw->Nr,kat_nil->Nx,KdlSrc->NS,WalkO->P9,Looks->Qh,mg_of->Qm,recOk->Qn,xlAt->QC
open Array renaming length_toList->HS,getElem?_toList->Jd,size_map->Jv,getElem?_eq_some_iff->JN,getElem?_eq_getElem->Kb,map->KY,mem_toList_iff->Lk,toList_extract->Ll,getD->LJ,forIn_toList->LK,mem_of_getElem?->LY,getElem_toList->L8,toList_append->Mn,getElem?_map->MF,perm_iff_toList_perm->ML,toList_push->MX,toList_map->Nc,append_assoc->Oj,filterMap->Pr,map_map->Qe,toList->Qr
open Int renaming toNat_natCast->HU,natCast_nonneg->Ip,emod_lt_of_pos->Kw,emod_nonneg->KF,ediv_nonneg->Mj,zero_add->Ms,natCast_mul->Nt,toNat_of_nonneg->N4
open Option.some renaming injEq->Iv,inj->Je
open PySem.Value renaming ref->IA,none->IP,type->JE,bool->Lg,str->L0,int->M9
open PySem.SetTable renaming insertAt->IF,below->KT,grown->LU,Probe->ME,sizeAbove->MG,layClean->OT,fits->Qb,sameMemory->QZ,relaid->Rp,laid->Rz
open PySem.Around renaming under_plainId->Jc,under_plain->Ot
open PySem.Obj renaming mapSeq->JA,data_mapFields->LL,isFreed_of_fields->NI,cls_mapFields->OQ,mapFields->Qg
open PySem.Builtin.List renaming listExtendWith->JI,listTooLong->KL,listLengthHint->Mq,listSameRef->M4,listFitsIndex->PJ
open PySem.Builtin.Tuple renaming tupleExact->JU,tupleItemsOf->Lh,tupleHashOf->Lw,tupleCompareSizes->OV,tupleIsExact->PL
open PySem.Builtin.SmallTypes renaming ownedTupleIsFree->JV,ownedTupleHandOut->Km,nextOf->MU
open PySem.Str renaming ofString->JX,length->Q6,join->Rx
open ForInStep renaming yield->JZ
open PySem.Builtin.Range renaming rangeSize->J1,small->Mo
open PyProof.Rows renaming callWith_type1->J3,slot_tuple_getitem->J9,subscriptTail_builtinR->LR,assignInOrder_cons->Mu,AllBare->MW,listUpdate_at->M6,SortKind->Nb,IntsAre->Nj,get?_update_seq->Nw,entry_tuple_getitem->N3,lt_int->N5,args_tuple_getitem->Om,IsTup->Oz,assignInOrder_nil->OC,listItems_at->OR,callWith_builtin1->O0,seqEpoch_at->Pn,entry_list_sort->Ps,slicePart_none->PC,slot_list_sort->PU,args_list_sort->PV,step_dedup->P0,tupleItemsOf_->P6,firstMet_succ->Qk,plain_sorted->Qw,entry_sorted->Qx,args_sorted1->Qy,kind_sorted->QN,Call_->Ru
open PySem.Builtin.Slice renaming slicePlaces->Ky,sliceAdjust->Lv,sliceApplied->My,slicePartIndex->Po,sliceFields->P1
open PySem.Heap.SameBut renaming update->KQ,refl->OP
open PySem.Calls renaming call_function_entry->Lx,Name_function_global->Mt,Constant_str->Ol
open PySem.F renaming args_tuple_add_2->LC,entry_tuple_add->LM,plainAttrs_list->LP,slot_tuple_add->LQ,slot_dict_get->NF
open PySem.NameKind renaming free->LG,cell->RA
open PySem.SeqAt renaming EqAt->L1,notIn_listAt->On,in_tupleAt->O2,in_listAt->Pp
open True renaming intro->L5
open PySem.Challenge renaming pw_layworld_k19_what_two_have_in_common->L9,rw_layworld_k19_what_two_have_in_common->Ma
open PySem.Builtin.Frozenset renaming updateFrom->Mg,newClass->PM,sizeOf->Qc
open PySem.Builtin.Dict_items renaming ownsTuple->Mh
open PySem.Builtin.Builtins renaming bindParams->Mr
open PySem.Code renaming quiet_builtin->MH
open Classical renaming byContradiction->MR,propDecidable->Qq
open PySem.SetTable.probe renaming go->M1
open Function renaming comp_def->M2
open PySem.Paired renaming length->M3
open PySem.Env renaming kindOf->Nn
open List.cons renaming injEq->Nz
open PySem.Builtin.Dict renaming showsAll->NG,dictSlotNone->P3,pendingCount->P4
open Sum renaming inl->NY,inr->NZ
open PySem.Expr renaming Name->N2
open PySem.Moved renaming eq_with->Od
open PySem.SeqAt.EqAt renaming int_str->Og,str_int->Oh,none_bool->QG,bool_none->QH,bool_bool->QI,none_int->QQ,none_str->QR,bool_int->QS,bool_str->QT,int_none->QU,int_bool->QV,str_none->QX,str_bool->QY,int_int->Q7,str_str->Q8,same->Ro
open PUnit renaming unit->Oq
open PySem.Walks renaming list->Ou
open PySem.ScopeKind renaming function->Ow
open PySem.AutoListH renaming list___mul___list_int_3->Oy
open PySem.AutoSeq1 renaming list_extend_list_list_0->OJ,sub_tuple_tuple->Qa
open PySem.SetTable.below renaming go->ON
open PyProof.Rows.IsTup renaming new->OY
open PySem.IsL renaming update->O3
open PyProof.Rows.IntsAre renaming int_at->PX
open PySem.Builtin.Str renaming tooLong->P2,glued->Rg
open PySem.Shared renaming TypeIs->Qf
open Prod.mk renaming injEq->Ql
open Prod renaming ext->QF
open PySem.MeetsSeq renaming list_pop_at->QJ
open PySem.Txt renaming join->QK,mul->RD
open PySem.Heap.IsSliceOf renaming new->Q1
open List.Pairwise renaming nil->Rc,imp->Ri
open List.Sublist renaming refl->Rh
open PySem.Flow renaming next->Rj
open PySem.W.Looks renaming ld->Rl
open List.Perm renaming nil_eq->Rm,swap->Rw,map->Ry
open PySem.W.XL renaming keeps->Rn
open PySem.PassesOwn renaming never->Rq
open Or renaming inr->Rv
open Int.ofNat renaming inj->RB
set_option genSizeOf false
namespace ZZ.Lean
set_option Elab.async false
set_option linter.all false
set_option maxRecDepth 100000
namespace L2
open PySem PySem.Spec PyProof.Rows
noncomputable abbrev lJ:=Sum HM HY
abbrev AJ:lJ->Hu->Il
 | .inl k,v=>Value.isInt k v
 | .inr x,v=>Value.isStrOf x v
abbrev Fw (w:IE):lJ->HM
 | .inl k=>hashInt k
 | .inr x=>hashStr w x
def aZ:∀ {k:lJ} {v:Hu},AJ k v=true->(∃i t,k=NY i/\v=M9 i t)\/(∃x t,k=NZ x/\v=L0 x t)
 | .inl i,v,h=>by
  obtain⟨t,e⟩:=Value.isInt_shape (k:=i) (v:=v) h;exact .inl #[i,t,rfl,e]
 | .inr x,v,h=>by
  obtain⟨t,e⟩:=Value.isStrOf_shape (x:=x) (v:=v) h;exact .inr #[x,t,rfl,e]
def Bn (a b:HM):decide ((NY a:lJ)=NY b)=(a==b):=by
 by_cases e:a=b
 ·subst e; simp
 ·have h:¬ (NY a:lJ)=NY b:=λq=>e (Sum.inl.inj q)
  rw[Iz h];exact(Ly.mpr e).symm
def Bo (a b:HY):decide ((NZ a:lJ)=NZ b)=decide (a=b):=by
 by_cases e:a=b
 ·subst e; simp
 ·have h:¬ (NZ a:lJ)=NZ b:=λq=>e (Sum.inr.inj q)
  rw[Iz h,Iz e]
def Bp (a:HM)(b:HY):decide ((NY a:lJ)=NZ b)=false:=Iz (λq=>nomatch q)
def Bq (a:HY)(b:HM):decide ((NZ a:lJ)=NY b)=false:=Iz (λq=>nomatch q)
abbrev lK (prog:Iw)(w:IE):PySem.KeyKind prog w lJ where
 is:=AJ
 hash:=Fw w
 inj:=λv a b ha hb=>by
  rcases aZ ha with⟨i,t,rfl,rfl⟩|⟨x,t,rfl,rfl⟩
  ·rcases aZ hb with⟨j,u,rfl,e⟩|⟨y,u,rfl,e⟩
   ·injection e with e1 _; rw[e1]
   ·exact nomatch e
  ·rcases aZ hb with⟨j,u,rfl,e⟩|⟨y,u,rfl,e⟩
   ·exact nomatch e
   ·injection e with e1 _; rw[e1]
 byValue:=λk v h=>by
  rcases aZ h with⟨i,t,rfl,rfl⟩|⟨x,t,rfl,rfl⟩ <;> rfl
 pyHash:=λhv h=>by
  rcases aZ hv with⟨i,t,rfl,rfl⟩|⟨x,t,rfl,rfl⟩
  ·exact OW h
  ·exact OX h
 eqBool:=λhu hv h=>by
  rcases aZ hu with⟨i,t,rfl,rfl⟩|⟨x,t,rfl,rfl⟩
  ·rcases aZ hv with⟨j,u,rfl,rfl⟩|⟨y,u,rfl,rfl⟩
   ·rw[Bn]at h; exact wpAny_eqBool_int h
   ·rw[Bp]at h; exact Og i t y u _ _ _ _ h
  ·rcases aZ hv with⟨j,u,rfl,rfl⟩|⟨y,u,rfl,rfl⟩
   ·rw[Bq]at h; exact Oh x t j u _ _ _ _ h
   ·rw[Bo]at h; exact wpAny_eqBool_str h
 «strs»:=λk x t v h=>by
  rcases aZ h with⟨i,u,rfl,e⟩|⟨y,u,rfl,e⟩
  ·exact nomatch e
  ·injection e with e1 _
   subst e1;cases v <;> rfl
inductive V where
 | non|bl (b:Il)|int (i:HM)|str (x:HY)|byt (b:Ik UInt8)|flt (b:UInt64)|ref (a:HD)|ty (n:Jy)
 deriving Lf
abbrev RelV:V->Hu->Prop
 | .non,u=>u=IP
 | .bl b,u=>u=Lg b
 | .int i,u=>∃t,u=M9 i t
 | .str x,u=>∃t,u=L0 x t
 | .byt b,u=>∃t,u=Value.bytes b t
 | .flt b,u=>∃t,u=Value.float b t
 | .ref a,u=>u=IA a
 | .ty n,u=>u=JE n
noncomputable abbrev Vals:Hr V->Hr Hu->Prop:=Nf RelV
def Vals.length {xs:Hr V}{us:Hr Hu}(r:Vals xs us):xs.length=us.length:=M3 r
def Vals.get:∀ {xs:Hr V} {us:Hr Hu} {i:HB} {x:V},Vals xs us->xs[i]?=ba x->∃u,us[i]?=ba u/\RelV x u
 | _,_,_,_,.nil,e=>by simp at e
 | _,_,0,_,.cons r _,e=>by simp at e; subst e; exact#[_,rfl,r]
 | _,_,i+1,x,.cons _ t,e=>by
  obtain⟨u,h1,h2⟩:=Vals.get (i:=i) (x:=x) t (by simpa using e)
  exact#[u,by simpa using h1,h2]
def Vals.set {x:V}{u:Hu}(r:RelV x u):∀ {xs:Hr V} {us:Hr Hu} (i:HB),Vals xs us->Vals (xs.set i x) (us.set i u)
 | _,_,_,.nil=>.nil
 | _,_,0,.cons _ t=>.cons r t
 | _,_,i+1,.cons q t=>.cons q (Vals.set r i t)
def Vals.append:∀ {xs ys:Hr V} {us ws:Hr Hu},Vals xs us->Vals ys ws->Vals (xs++ys) (us++ws)
 | _,_,_,_,.nil,s=>s
 | _,_,_,_,.cons r t,s=>.cons r (Vals.append t s)
def Vals.take:∀ {xs:Hr V} {us:Hr Hu} (n:HB),Vals xs us->Vals (xs.take n) (us.take n)
 | _,_,0,_=>.nil
 | _,_,_+1,.nil=>.nil
 | _,_,n+1,.cons r t=>.cons r (Vals.take n t)
def Vals.drop:∀ {xs:Hr V} {us:Hr Hu} (n:HB),Vals xs us->Vals (xs.drop n) (us.drop n)
 | _,_,0,r=>r
 | _,_,_+1,.nil=>.nil
 | _,_,n+1,.cons _ t=>Vals.drop n t
abbrev Dv:HA V->HA Hu->Prop
 | some v,ba u=>RelV v u
 | none,gV=>Oi
 | _,_=>Jt
abbrev KV {κ:Type}:Hr (κ×V)->Hr (κ×Hu)->Prop:=Nf λ(p:κ×V) (q:κ×Hu)=>p.1=q.1/\RelV p.2 q.2
abbrev kV:lJ->V
 | .inl i=>.int i
 | .inr x=>.str x
inductive HO where
 | lst (xs:Hr V)
 | tup (xs:Hr V)
 | dK (U:Hr (lJ×V))|dT (U:Hr (Hr lJ×V))
 | set (S:HM->Il) (n:HB)
 | ins (C dx:HD) (fs:Hr (HY×V))
 | own (x:HD)
 | xd (fs:Hr (HY×V))
 | met (f x:HD)
 | rng (lo hi:HM)
 | frz (o:JJ) (u:HO)
 | tbl (ps:Ik Hu)
 | ext (φ:IJ->Prop)
noncomputable abbrev Hp:=HD->HA HO
abbrev bc (H:Hp)(a:HD)(o:HO):Hp:=λb=>if b=a then ba o else H b
def aA {H:Hp}{a:HD}{o:HO}:bc H a o a=ba o:=by unfold bc; rw[Ic rfl]
def ay {H:Hp}{a b:HD}{o:HO}(h:b≠a):bc H a o b=H b:=by unfold bc; rw[Im h]
def dq {H:Hp}{a b:HD}{o:HO}(h:H a=ba o)(h':H b=gV):a≠b:=by
 intro e; subst e; rw[h]at h'; cases h'
section
variable (P:Iw) (w:IE)
abbrev ObjOk (H:Hp)(h:IJ)(a:HD):HO->Prop
 | .lst xs=>xs.length<=sizeLine/\∃(its:Hr Hu) (n:HB),Vals xs its/\h.get? a=ba { cls:=.type "list",data:=.seq its.toArray n }
 | .tup xs=>xs.length<=sizeLine/\∃its:Hr Hu,Vals xs its/\Oz h a its.toArray
 | .dK U=>U.length<=sizeLine/\(a==sysModules)=false/\∃vs,KV U vs/\h.DictOf (lK P w) a vs
 | .dT U=>U.length<=sizeLine/\(a==sysModules)=false/\∃xs:Hr (Hr lJ×HD×Hu),
   Nf (λ(p:Hr lJ×V) (q:Hr lJ×HD×Hu)=>p.1=q.1/\H q.2.1=ba (.tup (p.1.map kV))/\RelV p.2 q.2.2) U xs/\
   ∃o es ep,h.get? a=ba o/\o.ExactDict/\o.data=.dict es ep/\es.toList=xs.map (entryOfKey (tupleKind (lK P w)))/\(xs.map (·.1)).Nodup
 | .set S n=>h.SetOf (intKind P w) a S n
 | .ins C dx fs=>H dx=ba (.own a)/\fs.length<=1000/\dx≠a/\h.get? a=ba (PySem.W.instObj C dx)/\
   ∃mA,h.Ns1 dx mA/\(∀f,Dv (fs.lookup f) (mA f))/\PySem.Within mA (fs.map (·.1))
 | .own _=>∃o,h.get? a=ba o
 | .xd fs=>∃mA,h.Ns1 a mA/\∀f,Dv (fs.lookup f) (mA f)
 | .rng lo hi=>∃t u v,h.get? a=ba { cls:=.type "range",data:=.fields [.int lo t,.int hi u,.int 1 v].toArray }
 | .frz o u=>h.get? a=ba o/\ObjOk H h a u
 | .tbl ps=>h.get? a=ba { cls:=.none,data:=.fields ps }
 | .met f x=>h.get? a=ba (MV (.ref f) (.ref x))
 | .ext φ=>φ h/\(∃o,h.get? a=ba o)/\∀h1 h2:IJ,φ h1->(∀o,h1.get? a=ba o->h2.get? a=ba o)->φ h2
abbrev HOk (H:Hp)(h:IJ):Prop:=∀a o,H a=ba o->ObjOk P w H h a o
end
section
variable{P:Iw}{w:IE}{H H':Hp}{h h':IJ}{a:HD}{o:HO}
def ObjOk.lt (x:ObjOk P w H h a o):a < h.objs.size:=by
 cases o with
 | lst xs=>obtain⟨_,_,_,_,e⟩:=x; exact HP e
 | tup xs=>obtain⟨_,_,_,p⟩:=x; exact p.lt
 | dK U=>obtain⟨_,_,_,_,o,_,_,e,_⟩:=x; exact HP e
 | dT U=>obtain⟨_,_,_,_,o,_,_,e,_⟩:=x; exact HP e
 | set S n=>obtain⟨o,_,_,_,e,_⟩:=x; exact HP e
 | ins C dx fs=>obtain⟨_,_,_,e,_⟩:=x; exact HP e
 | own y=>obtain⟨_,e⟩:=x; exact HP e
 | xd fs=>obtain⟨_,⟨_,_,_,e,_⟩,_⟩:=x; exact HP e
 | rng lo hi=>obtain⟨_,_,_,e⟩:=x; exact HP e
 | frz ob u=>obtain⟨e,_⟩:=x; exact HP e
 | tbl ps=>exact HP (show h.get? a=ba _ from x)
 | met f y=>exact HP (show h.get? a=ba _ from x)
 | ext φ=>obtain⟨_,⟨_,e⟩,_⟩:=x; exact HP e
def Paired.mapP {α β:Type}{F G:α->β->Prop}:∀ {l₁:Hr α} {l₂:Hr β},Nf F l₁ l₂->(∀a b,F a b->G a b)->Nf G l₁ l₂
 | _,_,.nil,_=>.nil
 | _,_,.cons r t,f=>.cons (f _ _ r) (Paired.mapP t f)
def ObjOk.stay (x:ObjOk P w H h a o)(k:∀b u,(b=a\/H b=ba (.own a))->h.get? b=ba u->h'.get? b=ba u)
  (ho:∀b,H b=ba (.own a)->H' b=ba (.own a)) (ht:∀b xs,H b=ba (.tup xs)->H' b=ba (.tup xs)):ObjOk P w H' h' a o:=by
 induction o with
 | lst xs=>obtain⟨z,its,n,r,e⟩:=x; exact#[z,its,n,r,k _ _ (.inl rfl) e]
 | tup xs=>obtain⟨z,its,r,ob,e,c⟩:=x; exact#[z,its,r,ob,k _ _ (.inl rfl) e,c]
 | dK U=>obtain⟨z,y,vs,r,ob,es,ep,e,c⟩:=x; exact#[z,y,vs,r,ob,es,ep,k _ _ (.inl rfl) e,c]
 | dT U=>
  obtain⟨z,y,xs,r,ob,es,ep,e,c⟩:=x;exact#[z,y,xs,Paired.mapP r λp q z=>#[z.1,ht _ _ z.2.1,z.2.2],ob,es,ep,k _ _ (.inl rfl) e,c]
 | set S n=>obtain⟨ob,es,ep,t,e,c⟩:=x; exact#[ob,es,ep,t,k _ _ (.inl rfl) e,c]
 | ins C dx fs=>
  obtain⟨d,z,ne,e,mA,⟨od,es,ep,e2,c⟩,r⟩:=x;exact#[ho _ d,z,ne,k _ _ (.inl rfl) e,mA,#[od,es,ep,k _ _ (.inr d) e2,c],r]
 | own y=>obtain⟨ob,e⟩:=x; exact#[ob,k _ _ (.inl rfl) e]
 | xd fs=>obtain⟨mA,⟨od,es,ep,e,c⟩,r⟩:=x; exact#[mA,#[od,es,ep,k _ _ (.inl rfl) e,c],r]
 | rng lo hi=>obtain⟨t,u,v,e⟩:=x; exact#[t,u,v,k _ _ (.inl rfl) e]
 | frz ob u ih=>obtain⟨e,q⟩:=x; exact#[k _ _ (.inl rfl) e,ih q]
 | tbl ps=>
  have e:h.get? a=ba { cls:=.none,data:=.fields ps }:=x;show h'.get? a=ba { cls:=.none,data:=.fields ps };exact k a _ (.inl rfl) e
 | met f y=>
  have e:h.get? a=ba (MV (.ref f) (.ref y)):=x;show h'.get? a=ba (MV (.ref f) (.ref y));exact k a _ (.inl rfl) e
 | ext φ=>obtain⟨p,⟨o,e⟩,st⟩:=x; exact#[st _ _ p λo q=>k _ _ (.inl rfl) q,#[o,k _ _ (.inl rfl) e],st]
def HOk.lt (x:HOk P w H h)(e:H a=ba o):a < h.objs.size:=(x a o e).lt
def HOk.fresh (x:HOk P w H h)(e:h.objs.size<=a):H a=gV:=by
 cases q:H a with
 | none=>rfl
 | some u=>exact absurd (Iu (x.lt q) e) (Jw _)
def HOk.kept (x:HOk P w H h)(k:∀b u,h.get? b=ba u->h'.get? b=ba u):HOk P w H h':=λa o e=>
 (x a o e).stay (λb u _ q=>k b u q) (λ_ q=>q) λ_ _ q=>q
def HOk.laid (x:HOk P w H h)(k:∀b u,h.get? b=ba u->h'.get? b=ba u)(hp:h.objs.size<=a)(new:ObjOk P w (bc H a o) h' a o):HOk P w (bc H a o) h':=λb u e=>by
 have hn:=x.fresh hp
 by_cases hb:b=a
 ·subst hb; rw[aA]at e; cases e; exact new
 ·rw[ay hb]at e;exact(x b u e).stay (λc v _ q=>k c v q) (λc q=>by rw[ay (dq q hn)]; exact q) λc xs q=>by rw[ay (dq q hn)]; exact q
end
abbrev Rd (H:Hp)(a:HD)(u:HO):Prop:=H a=ba u\/∃o,H a=ba (.frz o u)
def Rd.ok {P:Iw}{w:IE}{H:Hp}{h:IJ}{a:HD}{u:HO}(r:Rd H a u)(x:HOk P w H h):ObjOk P w H h a u:=by
 rcases r with r|⟨o,r⟩
 ·exact x a u r
 ·obtain⟨_,q⟩:=x a _ r;exact q
abbrev Dw:HA HO->Prop
 | some (.lst _)=>Oi
 | some (.dK _)=>Oi
 | some (.dT _)=>Oi
 | some (.set _ _)=>Oi
 | some (.ins _ _ _)=>Oi
 | some (.ext _)=>Oi
 | _=>Jt
section
variable{P:Iw}{w:IE}{H:Hp}{h h':IJ}{x e:HD}{o':HO}
def HOk.write (ok:HOk P w H h)(mu:Dw (H x))(he:e=x\/H e=ba (.own x))(k:∀b u,b≠e->h.get? b=ba u->h'.get? b=ba u)(heo:∃u,h'.get? e=ba u)
  (new:ObjOk P w (bc H x o') h' x o'):HOk P w (bc H x o') h':=λb u q=>by
 have nown:∀c y,H c=ba (.own y)->c≠x:=λc y r z=>by subst z; rw[r]at mu; exact mu
 have ntup:∀c xs,H c=ba (.tup xs)->c≠x:=λc xs r z=>by subst z; rw[r]at mu; exact mu
 by_cases hb:b=x
 ·subst hb; rw[aA]at q; cases q; exact new
 ·rw[ay hb]at q
  by_cases hbe:b=e
  ·have q':H b=ba (.own x):=by
    rcases he with z|z
    ·exact absurd (hbe.trans z) hb
    ·rw[hbe]; exact z
   rw[q]at q'; cases q'
   obtain⟨v,hv⟩:=heo;exact#[v,by rw[hbe]; exact hv]
  ·refine(ok b u q).stay (λc v hc r=>k c v ?_ r) (λc r=>by rw[ay (nown c b r)]; exact r) λc xs r=>by rw[ay (ntup c xs r)]; exact r
   rcases hc with rfl|hc
   ·exact hbe
   ·rintro rfl;rcases he with z|z
    ·exact nown c b hc z
    ·rw[hc]at z; cases z; exact hb rfl
end
structure Un (fs ex:Hr HD)(H H':Hp)(h h':IJ):Prop where
 keep:∀b o,h.get? b=ba o->H b=gV->b∉fs->b∉ex->h'.get? b=ba o
 slot:∀b o,h.get? b=ba o->H b=gV->b∈fs->b∉ex->∃sl,h'.get? b=ba { o with slots:=sl }
 free:∀b o,h.get? b=ba o->H b=gV->b∉ex->H' b=gV
 there:∀b o,h.get? b=ba o->b∉ex->∃o',h'.get? b=ba o'
 tups:∀b xs,H b=ba (.tup xs)->H' b=ba (.tup xs)
 frzs:∀b o u,H b=ba (.frz o u)->H' b=ba (.frz o u)
 tbls:∀b ps,H b=ba (.tbl ps)->∃more,H' b=ba (.tbl (ps++more))
section
variable{fs fs' ex ex':Hr HD}{H H1 H2:Hp}{h h1 h2 h':IJ}{a x e:HD}{o:HO}
def Un.any (u:Un fs ex H H1 h h1){b:HD}{ob:JJ}(q:h.get? b=ba ob)(n:H b=gV)(hx:b∉ex):∃sl,h1.get? b=ba { ob with slots:=sl }:=by
 by_cases hb:b∈fs
 ·exact u.slot b ob q n hb hx
 ·exact#[ob.slots,u.keep b ob q n hb hx]
def Un.trans (a:Un fs ex H H1 h h1)(b:Un fs ex H1 H2 h1 h2):Un fs ex H H2 h h2 where
 keep:=λc ob q n hc hx=>b.keep c ob (a.keep c ob q n hc hx) (a.free c ob q n hx) hc hx
 slot:=λc ob q n hc hx=>by
  obtain⟨sl,e1⟩:=a.slot c ob q n hc hx;obtain⟨sl',e2⟩:=b.slot c _ e1 (a.free c ob q n hx) hc hx;exact#[sl',e2]
 free:=λc ob q n hx=>by
  obtain⟨o',e1⟩:=a.there c ob q hx;exact b.free c o' e1 (a.free c ob q n hx) hx
 there:=λc ob q hx=>by
  obtain⟨o',e1⟩:=a.there c ob q hx;exact b.there c o' e1 hx
 tups:=λc xs q=>b.tups c xs (a.tups c xs q)
 frzs:=λc ob xs q=>b.frzs c ob xs (a.frzs c ob xs q)
 tbls:=λc ps q=>by
  obtain⟨m1,e1⟩:=a.tbls c ps q;obtain⟨m2,e2⟩:=b.tbls c _ e1;exact#[m1++m2,by rw[e2,Oj]]
def Un.kept (k:∀b u,h.get? b=ba u->h'.get? b=ba u):Un fs ex H H h h':=
 #[λb ob q _ _ _=>k b ob q,λb ob q _ _ _=>#[ob.slots,k b ob q],λ_ _ _ n _=>n,λb ob q _=>#[ob,k b ob q],λ_ _ q=>q,λ_ _ _ q=>q,λ_ ps q=>#[#[],by rw[q]; simp]]
def Un.refl:Un fs ex H H h h:=Un.kept λ_ _ q=>q
def Un.laid (k:∀b u,h.get? b=ba u->h'.get? b=ba u)(hp:h.objs.size<=a)(hn:H a=gV):Un fs ex H (bc H a o) h h' where
 keep:=λb u q _ _ _=>k b u q
 slot:=λb u q _ _ _=>#[u.slots,k b u q]
 free:=λb u q n _=>by rw[ay (HV (Iu (HP q) hp))]; exact n
 there:=λb u q _=>#[u,k b u q]
 tups:=λb xs q=>by rw[ay (dq q hn)]; exact q
 frzs:=λb u xs q=>by rw[ay (dq q hn)]; exact q
 tbls:=λb ps q=>#[#[],by rw[ay (dq q hn),q]; simp]
def Un.write (mu:Dw (H x))(he:e=x\/H e=ba (.own x))(k:∀b u,b≠e->h.get? b=ba u->h'.get? b=ba u)(heo:∃u,h'.get? e=ba u):Un fs ex H (bc H x o) h h':=by
 have hx:∀b,H b=gV->b≠x:=λb n z=>by subst z; rw[n]at mu; exact mu
 have hb:∀b,H b=gV->b≠e:=λb n z=>by
  subst z;rcases he with r|r
  ·exact hx b n r
  ·rw[n]at r; cases r
 have hm:∀b u,H b=ba u->¬ Dw (ba u)->b≠x:=λb u q nm z=>by subst z; rw[q]at mu; exact nm mu
 refine#[λb u q n _ _=>k b u (hb b n) q,λb u q n _ _=>#[u.slots,k b u (hb b n) q],λb u q n _=>by rw[ay (hx b n)]; exact n,λb u q _=>?_,
  λb xs q=>by rw[ay (hm b _ q λz=>z)]; exact q,λb u xs q=>by rw[ay (hm b _ q λz=>z)]; exact q,λb ps q=>#[#[],by rw[ay (hm b _ q λz=>z),q]; simp]]
 by_cases hbe:b=e
 ·subst hbe; exact heo
 ·exact#[u,k b u hbe q]
end
abbrev Fg (h:IJ)(H:Hp):Hr HD:=(Ix h.objs.size).filter λa=>(H a).isSome
abbrev lL (h:IJ)(H:Hp):IJ:=PySem.W.hideAll h (Fg h H)
def sD (h:IJ)(H:Hp):(lL h H).objs.size=h.objs.size:=PySem.W.hideAll_size _ _
def uG {h:IJ}{H:Hp}{b:HD}{o:JJ}(e:h.get? b=ba o)(n:H b=gV):(lL h H).get? b=ba o:=
 PySem.W.hideAll_get _ e λhm=>by
  have q:(H b).isSome=true:=(JB.mp hm).2;rw[n]at q; simp at q
def ym {h:IJ}{H:Hp}{b:HD}{o:JJ}(e:(lL h H).get? b=ba o):h.get? b=ba o/\H b=gV:=by
 have e':h.get? b=ba o:=PySem.W.of_hideAll (Fg h H) e;refine#[e',?_];cases q:H b with
 | none=>rfl
 | some x=>
  have hm:b∈Fg h H:=JB.mpr #[IU.mpr (HP e'),by simp[q]]
  have z:(lL h H).get? b=gV:=PySem.W.hideAll_none (Fg h H) hm;rw[z]at e; cases e
abbrev yn (g h:IJ)(L:HD):Hr (HD×JJ):=(Ix h.objs.size).filterMap λa=>if a=L\/(g.get? a).isSome=true then gV else(h.get? a).map λo=>(a,o)
abbrev be (g h:IJ)(L d:HD):Hr (HD×JJ):=(yn g h L).filter λp=>decide (p.1≠d)
structure Mod (K:HG)(mg:HY->HA Hu)(base:IJ):Prop where
 kin:K.In base
 glob:base.Ns mainGlobals mg
 blt:∃mb,base.Ns builtinsNs mb/\∀x:HY,x≠"__name__"->mb x=bootBuiltins x
 nolimit:base.NoLimit
structure Cx where
 prog:Iw
 w:IE
 K:HG
 mg:HY->HA Hu
 base:IJ
 A:IB
 N:Hr HY
 s₀:Hw
 H₀:Hp
 env:OA
 outer:Hr OA
 stack:Hr OA
 ex:Hr HD
 fn:HY->Il
 calm:Il
 pn:Hr (HD×JJ)
 xe:Hu->Hw->Prop
abbrev pL (l:Hr OA):Hr HD:=l.filterMap (·.frame)
noncomputable abbrev Cx.fs (X:Cx):Hr HD:=pL X.outer
abbrev Fh (sc:Ld)(x:HY):Prop:=sc.names.lookup x=ba .local\/sc.names.lookup x=ba .cell\/sc.names.lookup x=ba .free
abbrev yo (sc:Ld)(x:HY):Prop:=sc.names.lookup x=ba .local\/sc.names.lookup x=ba .cell
abbrev Fx (env:OA)(h:IJ)(m:HY->HA Hu)(x:HY)(u:Hu):Prop:=
 (env.kindOf x=ba .local/\m x=ba u)\/((env.kindOf x=ba .cell\/env.kindOf x=ba .free)/\∃c,env.cells.lookup x=ba c/\h.IsCell c (ba u))
structure Cx.Ok (X:Cx):Prop where
 mod:Mod X.K X.mg X.base
 kind:X.env.scope.kind=.function
 glob:X.env.globals=mainGlobals
 blt:X.env.builtins=builtinsNs
 above:X.s₀.heap.objs.size<=X.env.locals
 inj:∀x y c,X.env.cells.lookup x=ba c->X.env.cells.lookup y=ba c->x=y
 has:∀x,(X.env.kindOf x=ba .cell\/X.env.kindOf x=ba .free)->∃c,X.env.cells.lookup x=ba c
 cab:∀x c,X.fn x=true->X.env.cells.lookup x=ba c->X.s₀.heap.objs.size<=c
 hd:X.calm=true->X.A.handled=gV
 frames:X.A.frames=ba X.stack
 stk:X.stack=X.outer\/(X.stack=X.env::X.outer/\X.env.frame=ba X.env.locals)
 exf:∀b∈X.ex,b≠X.env.locals/\∀x c,X.env.cells.lookup x=ba c->c≠b
 bs:∀b o,X.base.get? b=ba o->X.s₀.heap.get? b=ba o/\X.H₀ b=gV
 bsz:X.base.objs.size<=X.s₀.heap.objs.size
 noex:∀b o,X.base.get? b=ba o->b∉X.ex
 exfs:∀b∈X.ex,b∉X.fs
 funs:X.s₀.heap.FunFrames X.base X.outer
 frf:∀b∈X.fs,X.H₀ b=gV
structure Inv (X:Cx)(J:Hr (HD×JJ))(Y:Hr (HA V))(H:Hp)(s:Hw):Prop where
 ok:X.Ok
 os:s.os=X.s₀.os
 bare:MW s.gens
 base:Un X.fs X.ex X.H₀ H X.s₀.heap s.heap
 loc:∃m,s.heap.Ns X.env.locals m/\∀(i:HB) (x:HY) (v:V),X.N[i]?=ba x->Y[i]?=ba (ba v)->Fh X.env.scope x->∃u,RelV v u/\Fx X.env s.heap m x u
 cell:∀x c,X.env.cells.lookup x=ba c->∃v,s.heap.IsCell c v
 free:H X.env.locals=gV
 freeC:∀x c,X.env.cells.lookup x=ba c->H c=gV
 pin:∀p∈X.pn++J,s.heap.get? p.1=ba p.2/\H p.1=gV/\p.1≠X.env.locals/\p.1∉X.fs/\∀v,p.2.data≠.cell v
 hok:HOk X.prog X.w H s.heap
 len:Y.length=X.N.length
section
variable{X:Cx}{J:Hr (HD×JJ)}{Y:Hr (HA V)}{H H':Hp}{s:Hw}{h':IJ}
def Cx.Ok.nofr (ok:X.Ok){b:HD}{o:JJ}(e:X.base.get? b=ba o):b∉X.fs:=λhb=>by
 have:=(ok.funs.mem hb).1;rw[e]at this; cases this
def Inv.bs (I:Inv X J Y H s):∀b o,X.base.get? b=ba o->s.heap.get? b=ba o/\H b=gV:=λb o e=>
 #[I.base.keep b o (I.ok.bs b o e).1 (I.ok.bs b o e).2 (I.ok.nofr e) (I.ok.noex b o e),I.base.free b o (I.ok.bs b o e).1 (I.ok.bs b o e).2 (I.ok.noex b o e)]
def Inv.bk (I:Inv X J Y H s):∀b o,X.base.get? b=ba o->s.heap.get? b=ba o:=λb o e=>(I.bs b o e).1
def Inv.mod (I:Inv X J Y H s):Mod X.K X.mg X.base:=I.ok.mod
def Inv.kIn (I:Inv X J Y H s):X.K.In s.heap:=I.ok.mod.kin.keeps I.bk
def Inv.lt (I:Inv X J Y H s):X.env.locals < s.heap.objs.size:=let ⟨_,hn,_⟩:=I.loc; hn.lt
def Inv.sz (I:Inv X J Y H s):X.s₀.heap.objs.size<=s.heap.objs.size:=ID I.ok.above (K4 I.lt)
def Inv.nofs (I:Inv X J Y H s){a:HD}(h:s.heap.objs.size<=a):a∉X.fs:=λhb=>by
 obtain⟨_,o,ho,_⟩:=I.ok.funs.mem hb;exact absurd (Iu (HP ho) (ID I.sz h)) (Jw _)
def Inv.cne (I:Inv X J Y H s):∀x c,X.env.cells.lookup x=ba c->c≠X.env.locals:=λx c e z=>by
 obtain⟨v,o,ho,hd⟩:=I.cell x c e;obtain⟨m,⟨o',es,ep,ho',hd',_⟩,_⟩:=I.loc;rw[z,ho']at ho; cases ho; rw[hd']at hd; cases hd
def Inv.funs (I:Inv X J Y H s):s.heap.FunFrames X.base X.outer:=by
 have all:∀(l:Hr OA),(∀b∈pL l,b∈X.fs)->X.s₀.heap.FunFrames X.base l->s.heap.FunFrames X.base l:=by
  intro l
  induction l with
  | nil=>intro _ _; trivial
  | cons env r ih=>
   intro hs hl;obtain⟨hk,⟨L,o,hf,hn,ho,hd⟩,hr⟩:=hl;have hL:L∈X.fs:=hs L (by unfold pL; rw[Lz,hf]; exact Jm)
   obtain⟨sl,e⟩:=I.base.slot L o ho (I.ok.frf L hL) hL λz=>I.ok.exfs L z hL
   exact#[hk,#[L,_,hf,hn,e,hd],ih (λb hb=>hs b (by unfold pL; rw[Lz,hf]; exact Ji _ hb)) hr]
 exact all X.outer (λ_ hb=>hb) I.ok.funs
def Inv.stack (I:Inv X J Y H s):s.heap.FunFrames X.base X.stack:=by
 rcases I.ok.stk with e|⟨e,hf⟩
 ·rw[e]; exact I.funs
 ·rw[e];obtain⟨m,hn,_⟩:=I.loc;refine .cons (by rw[I.ok.kind]; decide) hf hn ?_ I.funs
  exact Heap.get?_none_of_le (ID I.ok.bsz I.ok.above)
def Inv.stkSub (I:Inv X J Y H s):∀b∈pL X.stack,b∈X.env.locals::X.fs:=λb hb=>by
 rcases I.ok.stk with e|⟨e,hf⟩
 ·rw[e]at hb; exact Ji _ hb
 ·rw[e]at hb;unfold pL at hb;rw[Lz,hf]at hb;exact hb
def Inv.stkFree (I:Inv X J Y H s):∀b∈pL X.stack,H b=gV:=λb hb=>by
 rcases HW.mp (I.stkSub b hb)with e|hb
 ·rw[e]; exact I.free
 ·obtain⟨_,o,ho,_⟩:=I.ok.funs.mem hb;exact I.base.free b o ho (I.ok.frf b hb) λz=>I.ok.exfs b z hb
def Inv.step {g':Ik NL}{t':HB}{d':Rr}{ch:Hr HD}(I:Inv X J Y H s)
  (hch:∀b∈ch,(b∈X.ex\/X.s₀.heap.objs.size<=b)/\b≠X.env.locals/\(∀x c,X.env.cells.lookup x=ba c->c≠b)/\∀p∈X.pn++J,p.1≠b)
  (keep:∀b o,b≠X.env.locals->b∉X.fs->b∉ch->s.heap.get? b=ba o->H b=gV->h'.get? b=ba o)
  (slot:∀b o,b≠X.env.locals->b∈X.fs->b∉ch->s.heap.get? b=ba o->H b=gV->∃sl,h'.get? b=ba { o with slots:=sl }) (free:∀b o,b∉ch->s.heap.get? b=ba o->H b=gV->H' b=gV)
  (there:∀b o,b∉ch->s.heap.get? b=ba o->∃o',h'.get? b=ba o')
  (tups:∀b xs,H b=ba (.tup xs)->H' b=ba (.tup xs)) (frzs:∀b o u,H b=ba (.frz o u)->H' b=ba (.frz o u)) (tbls:∀b ps,H b=ba (.tbl ps)->∃more,H' b=ba (.tbl (ps++more)))
  (ns:∀m,s.heap.Ns X.env.locals m->h'.Ns X.env.locals m) (hok:HOk X.prog X.w H' h') (hg:MW g') :
  Inv X J Y H' { s with heap:=h',gens:=g',drawn:=d',toks:=t' }:=by
 have neL:∀b o,X.s₀.heap.get? b=ba o->b≠X.env.locals:=λb o e=>HV (Iu (HP e) I.ok.above)
 have neC:∀b o,X.s₀.heap.get? b=ba o->b∉X.ex->b∉ch:=λb o e hx hb=>by
  rcases(hch b hb).1 with z|z
  ·exact hx z
  ·exact absurd (Iu (HP e) z) (Jw _)
 have cellK:∀x c,X.env.cells.lookup x=ba c->∀v,s.heap.IsCell c v->h'.IsCell c v:=λx c e v #[o,ho,hd]=>by
  have nch:c∉ch:=λz=>(hch c z).2.2.1 x c e rfl
  by_cases hc:c∈X.fs
  ·obtain⟨sl,q⟩:=slot c o (I.cne x c e) hc nch ho (I.freeC x c e);exact#[_,q,hd]
  ·exact#[o,keep c o (I.cne x c e) hc nch ho (I.freeC x c e),hd]
 refine#[I.ok,I.os,hg,#[λb o e n hb hx=>?_,λb o e n hb hx=>?_,λb o e n hx=>?_,λb o e hx=>?_,λb xs e=>tups b xs (I.base.tups b xs e),λb o xs e=>frzs b o xs (I.base.frzs b o xs e),λb ps e=>?_],?_,λx c e=>?_,?_,λx c e=>?_,λp hp=>?_,hok,I.len]
 ·exact keep b o (neL b o e) hb (neC b o e hx) (I.base.keep b o e n hb hx) (I.base.free b o e n hx)
 ·obtain⟨sl,e1⟩:=I.base.slot b o e n hb hx;obtain⟨sl',e2⟩:=slot b _ (neL b o e) hb (neC b o e hx) e1 (I.base.free b o e n hx);exact#[sl',e2]
 ·obtain⟨o',e1⟩:=I.base.there b o e hx;exact free b o' (neC b o e hx) e1 (I.base.free b o e n hx)
 ·obtain⟨o',e1⟩:=I.base.there b o e hx;exact there b o' (neC b o e hx) e1
 ·obtain⟨m1,e1⟩:=I.base.tbls b ps e;obtain⟨m2,e2⟩:=tbls b _ e1;exact#[m1++m2,by rw[e2,Oj]]
 ·obtain⟨m,hn,hl⟩:=I.loc;refine#[m,ns m hn,λi x v e1 e2 e3=>?_]
  obtain⟨u,r,l⟩:=hl i x v e1 e2 e3;refine#[u,r,?_];rcases l with l|⟨k,c,e,z⟩
  ·exact .inl l
  ·exact .inr #[k,c,e,cellK x c e _ z]
 ·obtain⟨v,z⟩:=I.cell x c e;exact#[v,cellK x c e v z]
 ·obtain⟨m,⟨o,_,_,ho,_⟩,_⟩:=I.loc;exact free _ o (λz=>(hch _ z).2.1 rfl) ho I.free
 ·obtain⟨v,o,ho,hd⟩:=I.cell x c e;exact free c o (λz=>(hch c z).2.2.1 x c e rfl) ho (I.freeC x c e)
 ·obtain⟨e,n,ne,nf,d⟩:=I.pin p hp;have nch:p.1∉ch:=λz=>(hch p.1 z).2.2.2 p hp rfl
  exact#[keep p.1 p.2 ne nf nch e n,free p.1 p.2 nch e n,ne,nf,d]
def Inv.un {t':HB}(I:Inv X J Y H s)(u:Un X.fs [] H H' s.heap h')(hok:HOk X.prog X.w H' h'):Inv X J Y H' { s with heap:=h',toks:=t' }:=by
 obtain⟨m,⟨o,es,ep,ho,r⟩,_⟩:=id I.loc;obtain⟨sl,hL⟩:=u.any ho I.free (by simp)
 exact I.step (g':=s.gens) (d':=s.drawn) (ch:=[]) (λ_ z=>nomatch z) (λb o _ hb _ e n=>u.keep b o e n hb (by simp)) (λb o _ hb _ e n=>u.slot b o e n hb (by simp)) (λb o _ e n=>u.free b o e n (by simp)) (λb o _ e=>u.there b o e (by simp)) u.tups u.frzs u.tbls (λm' hm=>by
  obtain⟨o',es',ep',ho',r'⟩:=hm;rw[ho]at ho'; cases ho'
  exact#[_,es',ep',hL,r']) hok I.bare
def Inv.call {g':Ik NL}{t':HB}{d':Rr}{ch:Hr HD}(I:Inv X J Y H s)(u:Un (pL X.stack) ch H H' s.heap h')(hok:HOk X.prog X.w H' h')(hg:MW g')
  (hch:∀b∈ch,(b∈X.ex\/X.s₀.heap.objs.size<=b)/\b≠X.env.locals/\(∀x c,X.env.cells.lookup x=ba c->c≠b)/\∀p∈X.pn++J,p.1≠b) :
  Inv X J Y H' { s with heap:=h',gens:=g',drawn:=d',toks:=t' }:=by
 obtain⟨m,⟨o,es,ep,ho,r⟩,_⟩:=id I.loc;obtain⟨sl,hL⟩:=u.any ho I.free λz=>(hch _ z).2.1 rfl
 exact I.step (ch:=ch) hch (λb o hL hb hc e n=>u.keep b o e n (λz=>(HW.mp (I.stkSub b z)).elim hL hb) hc) (λb o _ _ hc e n=>u.any e n hc) (λb o hc e n=>u.free b o e n hc) (λb o hc e=>u.there b o e hc) u.tups u.frzs u.tbls (λm' hm=>by
  obtain⟨o',es',ep',ho',r'⟩:=hm;rw[ho]at ho'; cases ho'
  exact#[_,es',ep',hL,r']) hok hg
def Inv.turned {t':HB}{it:HD}(I:Inv X J Y H s)(k:∀b o,b≠it->s.heap.get? b=ba o->h'.get? b=ba o)(hn:H it=gV)(hL:it≠X.env.locals)
  (h1:it∈X.ex\/X.s₀.heap.objs.size<=it) (h2:∀x c,X.env.cells.lookup x=ba c->c≠it) (h3:∀p∈X.pn++J,p.1≠it):Inv X J Y H { s with heap:=h',toks:=t' }:=by
 have nit:∀b u,H b=ba u->b≠it:=λb u e z=>by rw[z,hn]at e; cases e
 refine I.step (g':=s.gens) (d':=s.drawn) (ch:=[it]) (λb hb=>?_) (λb o _ _ hc e _=>k b o (λz=>hc (by simp[z])) e) (λb o _ _ hc e _=>#[o.slots,k b o (λz=>hc (by simp[z])) e]) (λ_ _ _ _ n=>n)
  (λb o hc e=>#[o,k b o (λz=>hc (by simp[z])) e]) (λ_ _ e=>e) (λ_ _ _ e=>e) (λb ps e=>#[#[],by rw[e]; simp]) (λm hm=>?_) (λb u e=>?_) I.bare
 ·have e:b=it:=by simpa using hb
  subst e;exact#[h1,hL,h2,h3]
 ·obtain⟨o,es,ep,ho,r⟩:=hm;exact#[o,es,ep,k _ o (Ne.symm hL) ho,r]
 ·refine(I.hok b u e).stay (λc v hc q=>k c v ?_ q) (λ_ q=>q) λ_ _ q=>q
  rcases hc with z|z
  ·rw[z]; exact nit b u e
  ·exact nit c _ z
def Inv.tok (I:Inv X J Y H s)(t:HB):Inv X J Y H { s with toks:=t }:=I.un (h':=s.heap) (t':=t) Un.refl I.hok
def Inv.kept {t':HB}(I:Inv X J Y H s)(k:∀b u,s.heap.get? b=ba u->h'.get? b=ba u):Inv X J Y H { s with heap:=h',toks:=t' }:=I.un (Un.kept k) (I.hok.kept k)
def Inv.laid {a:HD}{o:HO}{t':HB}(I:Inv X J Y H s)(k:∀b u,s.heap.get? b=ba u->h'.get? b=ba u)(hp:s.heap.objs.size<=a)(new:ObjOk X.prog X.w (bc H a o) h' a o) :
  Inv X J Y (bc H a o) { s with heap:=h',toks:=t' }:=I.un (Un.laid k hp (I.hok.fresh hp)) (I.hok.laid k hp new)
def Inv.write {x e:HD}{o:HO}{t':HB}(I:Inv X J Y H s)(mu:Dw (H x))(he:e=x\/H e=ba (.own x))(k:∀b u,b≠e->s.heap.get? b=ba u->h'.get? b=ba u)(heo:∃u,h'.get? e=ba u)
  (new:ObjOk X.prog X.w (bc H x o) h' x o):Inv X J Y (bc H x o) { s with heap:=h',toks:=t' }:=I.un (Un.write mu he k heo) (I.hok.write mu he k heo new)
def Inv.pins_of {J':Hr (HD×JJ)}(I:Inv X J Y H s)(h:∀p∈J',s.heap.get? p.1=ba p.2/\H p.1=gV/\p.1≠X.env.locals/\p.1∉X.fs/\∀v,p.2.data≠.cell v):Inv X J' Y H s:=
 #[I.ok,I.os,I.bare,I.base,I.loc,I.cell,I.free,I.freeC,λp hp=>(Io.mp hp).elim (λz=>I.pin p (Jr _ z)) (h p),I.hok,I.len]
def nh {N:Hr HY}(hN:N.Nodup){i j:HB}{x:HY}(a:N[i]?=ba x)(b:N[j]?=ba x):i=j:=by
 obtain⟨h1,e1⟩:=HH.mp a;obtain⟨h2,e2⟩:=HH.mp b;exact(Lq hN).mp (e1.trans e2.symm)
def sE {tx:Rs}{A:IB}{E:Hu->Hw->Prop}{i:HB}{x:HY}{v:V}{u:Hu}{Q:Rt->Hw->Prop}(I:Inv X J Y H s)(hN:X.N.Nodup)(hi:X.N[i]?=ba x)(hx:yo X.env.scope x)(r:RelV v u)
  (h:∀s',Inv X J (Y.set i (ba v)) H s'->(∃a,JW a s.heap s'.heap/\(a=X.env.locals\/X.env.cells.lookup x=ba a))->Q () s') (hf:X.fn x=true\/X.env.scope.names.lookup x=ba .local):wpAny tx A (storeName X.env x u) Q E s:=by
 obtain⟨m,hn,hl⟩:=id I.loc;have hcls:(X.env.scope.kind==.class||(X.env.scope.kind==.module&&X.env.locals != X.env.globals))=false:=by rw[I.ok.kind]; rfl
 have hiσ:i < Y.length:=by rw[I.len]; exact(HH.mp hi).1
 have cne:=I.cne;have tracked:∀ {a:HD} {h':IJ},(∃o,s.heap.get? a=ba o/\H a=gV)->JW a s.heap h'->HOk X.prog X.w H h':=λ{a h'} ha hs b ob e=>by
  obtain⟨_,_,hfree⟩:=ha;refine(I.hok b ob e).stay (λc w' hc q=>(hs.2 c ?_).trans q) (λ_ q=>q) λ_ _ q=>q
  rintro rfl;rcases hc with rfl|hc
  ·rw[hfree]at e; cases e
  ·rw[hfree]at hc; cases hc
 rcases hx with hk|hk
 ·refine wpAny_storeName_local hk hn (λh' hn' hs=>?_) hcls
  obtain⟨oL,_,_,hoL,_⟩:=id hn;refine h _ #[I.ok,I.os,I.bare,#[λb o e n hb hx=>?_,λb o e n hb hx=>?_,I.base.free,λb o e hx=>?_,I.base.tups,I.base.frzs,I.base.tbls],#[_,hn',λj y v' e1 e2 e3=>?_],λy c e=>?_,I.free,I.freeC,λp hp=>?_,tracked #[oL,hoL,I.free] hs,by simpa using I.len] #[_,hs,.inl rfl]
  ·exact(hs.2 b (HV (Iu (HP e) I.ok.above))).trans (I.base.keep b o e n hb hx)
  ·obtain⟨sl,e1⟩:=I.base.slot b o e n hb hx;exact#[sl,(hs.2 b (HV (Iu (HP e) I.ok.above))).trans e1]
  ·obtain⟨o',e1⟩:=I.base.there b o e hx;exact#[o',(hs.2 b (HV (Iu (HP e) I.ok.above))).trans e1]
  ·by_cases hj:j=i
   ·subst hj;rw[hi]at e1; cases e1
    rw[Ng hiσ]at e2;cases e2;exact#[u,r,.inl #[hk,by simp]]
   ·rw[NM (Ne.symm hj)]at e2;obtain⟨u',r',q⟩:=hl j y v' e1 e2 e3;refine#[u',r',?_];rcases q with⟨k,e⟩|⟨k,c,e,z⟩
    ·refine .inl #[k,?_];have:y≠x:=λe=>hj (nh hN e1 (e ▸ hi))
     simp[this,e]
    ·exact .inr #[k,c,e,z.sameBut hs (cne y c e)]
  ·obtain⟨w',z⟩:=I.cell y c e;exact#[w',z.sameBut hs (cne y c e)]
  ·obtain⟨e,n,ne,nf,d⟩:=I.pin p hp;exact#[(hs.2 p.1 ne).trans e,n,ne,nf,d]
 ·have hfn:X.fn x=true:=by
   rcases hf with z|z
   ·exact z
   ·rw[z]at hk; cases hk
  obtain⟨c,hc⟩:=I.ok.has x (.inl hk);obtain⟨w',z⟩:=I.cell x c hc;refine wpAny_storeName_cell I.ok.kind hk hc z (λh' hc' hs=>?_)
  obtain⟨oc,hoc,hocd⟩:=id z;refine h { s with heap:=h' } #[I.ok,I.os,I.bare,#[λb o e n hb hx=>?_,λb o e n hb hx=>?_,I.base.free,λb o e hx=>?_,I.base.tups,I.base.frzs,I.base.tbls],#[m,hn.sameBut hs (Ne.symm (cne x c hc)),λj y v' e1 e2 e3=>?_],λy c' e=>?_,I.free,I.freeC,λp hp=>?_,tracked #[oc,hoc,I.freeC x c hc] hs,by simpa using I.len] #[c,hs,.inr hc]
  ·exact(hs.2 b (HV (Iu (HP e) (I.ok.cab x c hfn hc)))).trans (I.base.keep b o e n hb hx)
  ·obtain⟨sl,e1⟩:=I.base.slot b o e n hb hx;exact#[sl,(hs.2 b (HV (Iu (HP e) (I.ok.cab x c hfn hc)))).trans e1]
  ·obtain⟨o',e1⟩:=I.base.there b o e hx;exact#[o',(hs.2 b (HV (Iu (HP e) (I.ok.cab x c hfn hc)))).trans e1]
  ·by_cases hj:j=i
   ·subst hj;rw[hi]at e1; cases e1
    rw[Ng hiσ]at e2;cases e2;exact#[u,r,.inr #[.inl hk,c,hc,hc']]
   ·rw[NM (Ne.symm hj)]at e2;obtain⟨u',r',q⟩:=hl j y v' e1 e2 e3;refine#[u',r',?_];rcases q with q|⟨k,c',e,z'⟩
    ·exact .inl q
    ·refine .inr #[k,c',e,z'.sameBut hs ?_];rintro rfl;exact hj (nh hN e1 (I.ok.inj _ _ _ e hc ▸ hi))
  ·by_cases hcc:c'=c
   ·subst hcc; exact#[_,hc']
   ·obtain⟨w2,z2⟩:=I.cell y c' e;exact#[w2,z2.sameBut hs hcc]
  ·obtain⟨e,n,ne,nf,d⟩:=I.pin p hp;refine#[(hs.2 p.1 ?_).trans e,n,ne,nf,d];intro q;rw[q,hoc]at e;have q':oc=p.2:=Je e;exact d w' (by rw[<- q']; exact hocd)
def gJ {tx:Rs}{A:IB}{E:Hu->Hw->Prop}{i:HB}{x:HY}{v:V}{u:Hu}{Q:Rt->Hw->Prop}(I:Inv X J Y H s)(hN:X.N.Nodup)(hi:X.N[i]?=ba x)(hx:yo X.env.scope x)(r:RelV v u)
  (h:∀s',Inv X J (Y.set i (ba v)) H s'->Q () s') (hf:X.fn x=true\/X.env.scope.names.lookup x=ba .local):wpAny tx A (storeName X.env x u) Q E s:=
 sE I hN hi hx r (λs' I' _=>h s' I') hf
def Inv.call' {s':Hw}{ch:Hr HD}(I:Inv X J Y H s)(ho:s'.os=s.os)(u:Un (pL X.stack) ch H H' s.heap s'.heap)(hok:HOk X.prog X.w H' s'.heap)(hg:MW s'.gens)
  (hch:∀b∈ch,(b∈X.ex\/X.s₀.heap.objs.size<=b)/\b≠X.env.locals/\(∀x c,X.env.cells.lookup x=ba c->c≠b)/\∀p∈X.pn++J,p.1≠b):Inv X J Y H' s':=by
 obtain⟨h',g',d',t',o'⟩:=s';have e:o'=s.os:=ho;subst e;exact I.call (g':=g') (t':=t') (d':=d') u hok hg hch
end
noncomputable abbrev XK:=Hu->HA HD->Hp->Prop
noncomputable abbrev St:=Hr (HA V)
noncomputable abbrev VK:=V->Hp->Prop
noncomputable abbrev TE:=St->Hp->VK->Prop
noncomputable abbrev TT:=St->Hp->(Il->Hp->Prop)->Prop
noncomputable abbrev TA:=St->Hp->(Hr V->Hp->Prop)->Prop
structure Ends where
 nx:St->Hp->Prop
 rt:VK
 bk:St->Hp->Prop:=λ_ _=>Jt
 ct:St->Hp->Prop:=λ_ _=>Jt
noncomputable abbrev TS:=Ends->St->Hp->Prop
abbrev EP (X:Cx)(J:Hr (HD×JJ))(Y:St)(Q:VK)(u:Hu)(s':Hw):Prop:=∃v H',Inv X J Y H' s'/\RelV v u/\Q v H'
abbrev TP (X:Cx)(J:Hr (HD×JJ))(Y:St)(Q:Il->Hp->Prop)(b:Il)(s':Hw):Prop:=∃H',Inv X J Y H' s'/\Q b H'
abbrev AP (X:Cx)(J:Hr (HD×JJ))(Y:St)(Q:Hr V->Hp->Prop)(us:Hr Hu)(s':Hw):Prop:=∃vs H',Inv X J Y H' s'/\Vals vs us/\Q vs H'
abbrev SP (X:Cx)(J:Hr (HD×JJ))(D:Ends)(f:Flow)(s':Hw):Prop:=
 match f with
 | .next=>∃Y' H',Inv X J Y' H' s'/\D.nx Y' H'
 | .brk=>∃Y' H',Inv X J Y' H' s'/\D.bk Y' H'
 | .cont=>∃Y' H',Inv X J Y' H' s'/\D.ct Y' H'
 | .ret u=>∃v Y' H',Inv X J Y' H' s'/\RelV v u/\D.rt v H'
abbrev PE (X:Cx)(e:Ii)(t:TE):Prop:=
 ∀(J:Hr (HD×JJ)) (s:Hw) (Y:St) (H:Hp) (Q:VK),Inv X J Y H s->t Y H Q->wpAny (model X.prog X.w) X.A (eval e X.env) (EP X J Y Q) X.xe s
abbrev PT (X:Cx)(e:Ii)(t:TT):Prop:=
 ∀(J:Hr (HD×JJ)) (s:Hw) (Y:St) (H:Hp) (Q:Il->Hp->Prop),Inv X J Y H s->t Y H Q->wpAny (model X.prog X.w) X.A (isTrue e X.env (eval e X.env)) (TP X J Y Q) X.xe s
abbrev PW (X:Cx)(e:Ii)(t:TT):Prop:=
 ∀(whole:QP Hu) (J:Hr (HD×JJ)) (s:Hw) (Y:St) (H:Hp) (Q:Il->Hp->Prop),Inv X J Y H s->t Y H Q->wpAny (model X.prog X.w) X.A (isTrue e X.env whole) (TP X J Y Q) X.xe s
def PW.pt {X:Cx}{e:Ii}{t:TT}(h:PW X e t):PT X e t:=h _
abbrev PA (X:Cx)(es:Hr Ii)(t:TA):Prop:=
 ∀(pos:Kr) (J:Hr (HD×JJ)) (s:Hw) (Y:St) (H:Hp) (Q:Hr V->Hp->Prop),Inv X J Y H s->t Y H Q->wpAny (model X.prog X.w) X.A (spliced (backTo pos (starEach es X.env))) (AP X J Y Q) X.xe s
abbrev PS (X:Cx)(st:KO)(t:TS):Prop:=
 ∀(J:Hr (HD×JJ)) (s:Hw) (Y:St) (H:Hp) (D:Ends),Inv X J Y H s->t D Y H->wpAny (model X.prog X.w) X.A (exec st X.env) (SP X J D) X.xe s
abbrev PSs (X:Cx)(st:Hr KO)(t:TS):Prop:=
 ∀(J:Hr (HD×JJ)) (s:Hw) (Y:St) (H:Hp) (D:Ends),Inv X J Y H s->t D Y H->wpAny (model X.prog X.w) X.A (execs st X.env) (SP X J D) X.xe s
def bf {α:Type}{t:QP α}{Q Q':α->Hw->Prop}{tx:Rs}{A:IB}{E:Hu->Hw->Prop}{s:Hw}(h:wpAny tx A t Q E s)(hQ:∀a s,Q a s->Q' a s):wpAny tx A t Q' E s:=J0 h hQ λ_ _ x=>x
section
variable{X:Cx}
abbrev Br (i:HB):TE:=λY H Q=>∃v,Y[i]?=ba (ba v)/\Q v H
abbrev tC (v:V):TE:=λ_ H Q=>Q v H
def uH {i:HB}{x:HY}{pos:Kr}(hN:X.N[i]?=ba x)(hv:Fh X.env.scope x)(hd:(x==("__debug__" : HY))=false:=by decide)(hcd:(x==("__classdict__" : HY))=false:=by decide):PE X (.Name x pos) (Br i):=by
 intro J s Y H Q I h;obtain⟨v,e,h⟩:=h;obtain⟨m,hn,hl⟩:=I.loc;obtain⟨u,r,l⟩:=hl i x v hN e hv;have fin:EP X J Y Q u s:=#[v,H,I,r,h];rcases l with⟨hk,hm⟩|⟨hk,c,hc,hcell⟩
 ·exact Px (wpAny_loadName_local I.ok.kind hk hn hm fin) hd
 ·rcases hk with hk|hk
  ·exact Px (wpAny_loadName_cell I.ok.kind hk hc hcell fin) hd
  ·exact Px (wpAny_loadName_free I.ok.kind hk hc hcell fin hcd) hd
def uI {i j pos}:PE X (.Constant (.int i) j pos) (tC (.int i)):=λ_ _ _ H _ I h=>wpAny_Constant_int #[.int i,H,I.tok _,#[_,rfl],h]
def AK {b j pos}:PE X (.Constant (.bool b) j pos) (tC (.bl b)):=λ_ _ _ H _ I h=>Constant_bool #[.bl b,H,I,rfl,h]
def uJ {j pos}:PE X (.Constant .none j pos) (tC .non):=λ_ _ _ H _ I h=>Constant_none #[.non,H,I,rfl,h]
def uK {x j pos}:PE X (.Constant (.str x) j pos) (tC (.str x)):=λ_ _ _ H _ I h=>Ol #[.str x,H,I.tok _,#[_,rfl],h]
abbrev Gl (X:Cx)(x:HY):Prop:=X.env.kindOf x=ba .globalImplicit
def qO {E:Hu->Hw->Prop}{J:Hr (HD×JJ)}{s:Hw}{Y:St}{H:Hp}{x:HY}{u:Hu}{pos:Kr}{Q:Hu->Hw->Prop}(I:Inv X J Y H s)(hg:Gl X x)(hm:X.mg x=ba u)(h:Q u s)
  (hd:(x==("__debug__" : HY))=false:=by decide):wpAny (model X.prog X.w) X.A (eval (.Name x pos) X.env) Q E s:=
 Mt I.ok.kind hg (Calls.loadGlobal_global (by rw[I.ok.glob]; exact I.mod.glob.keeps I.bk) hm h) hd
def gk {E:Hu->Hw->Prop}{J:Hr (HD×JJ)}{s:Hw}{Y:St}{H:Hp}{x:HY}{u:Hu}{pos:Kr}{Q:Hu->Hw->Prop}(I:Inv X J Y H s)(hg:Gl X x)(hm:X.mg x=gV)(hv:bootBuiltins x=ba u)(h:Q u s)
  (hn:x≠"__name__":=by decide) (hd:(x==("__debug__" : HY))=false:=by decide):wpAny (model X.prog X.w) X.A (eval (.Name x pos) X.env) Q E s:=by
 obtain⟨mb,h1,h2⟩:=I.mod.blt;exact Mt I.ok.kind hg (Calls.loadGlobal_builtin (by rw[I.ok.glob]; exact I.mod.glob.keeps I.bk) hm (by rw[I.ok.blt]; exact h1.keeps I.bk) ((h2 x hn).trans hv) h) hd
def yp {x:HY}{v:V}{u:Hu}{pos:Kr}(hg:Gl X x)(hm:X.mg x=gV)(hv:bootBuiltins x=ba u)(r:RelV v u)(hn:x≠"__name__":=by decide)(hd:(x==("__debug__" : HY))=false:=by decide):PE X (.Name x pos) (tC v):=
 λ_ _ _ H _ I h=>gk I hg hm hv #[v,H,I,r,h] hn hd
variable{a b:Ii}{ta tb:TE}{pos:Kr}
variable{tA tB':TT}{be:Hr Ii}
abbrev Dx (t u:TT):TT:=λY H Q=>t Y H λc H1=>if c=true then u Y H1 Q else Q false H1
abbrev G0 (t u:TT):TT:=λY H Q=>t Y H λc H1=>if c=true then Q true H1 else u Y H1 Q
abbrev Fy (t:TT):TT:=λY H Q=>t Y H λc H1=>Q (!c) H1
def yq (ha:PT X a tA):PW X (.BoolOp .And [a] pos) tA:=by
 intro wh J s Y H Q I h;refine isTrue_and (bf (ha J s Y H Q I h) λc s1 e=>?_)
 cases c with
 | true=>exact isTrue_and_nil e
 | false=>exact e
def Bs (ha:PT X a tA):PW X (.BoolOp .Or [a] pos) tA:=by
 intro wh J s Y H Q I h;refine isTrue_or (bf (ha J s Y H Q I h) λc s1 e=>?_)
 cases c with
 | false=>exact isTrue_or_nil e
 | true=>exact e
def Bt (ha:PT X a tA)(hb:PW X (.BoolOp .And (b::be) pos) tB'):PW X (.BoolOp .And (a::b::be) pos) (Dx tA tB'):=by
 intro wh J s Y H Q I h;refine isTrue_and (bf (ha J s Y H _ I h) λc s1 #[H1,I1,q1]=>?_)
 cases c with
 | true=>exact hb wh J s1 Y H1 Q I1 q1
 | false=>exact#[H1,I1,q1]
def Dy (ha:PT X a tA)(hb:PW X (.BoolOp .Or (b::be) pos) tB'):PW X (.BoolOp .Or (a::b::be) pos) (G0 tA tB'):=by
 intro wh J s Y H Q I h;refine isTrue_or (bf (ha J s Y H _ I h) λc s1 #[H1,I1,q1]=>?_)
 cases c with
 | true=>exact#[H1,I1,q1]
 | false=>exact hb wh J s1 Y H1 Q I1 q1
def Bu (ha:PT X a tA):PT X (.UnaryOp .Not a pos) (Fy tA):=by
 intro J s Y H Q I h;exact isTrue_not (ha J s Y H (λc H1=>Q (!c) H1) I h)
abbrev Dz (ta tb:TE):TE:=λY H Q=>ta Y H λx H1=>∃c,x=.bl c/\if c=true then tb Y H1 Q else Q (.bl false) H1
abbrev Fz (ta tb:TE):TE:=λY H Q=>ta Y H λx H1=>∃c,x=.bl c/\if c=true then Q (.bl true) H1 else tb Y H1 Q
abbrev DA (ta:TE):TE:=λY H Q=>ta Y H λx H1=>∃c,x=.bl c/\Q (.bl (!c)) H1
def Bv {op}{t:TE}(h:PE X a t):PE X (.BoolOp op [a] pos) t:=λJ s Y H Q I hw=>BoolOp_one (h J s Y H Q I hw)
def Bw (ha:PE X a ta)(hb:PE X (.BoolOp .And (b::be) pos) tb):PE X (.BoolOp .And (a::b::be) pos) (Dz ta tb):=by
 intro J s Y H Q I h;refine BoolOp_and (bf (ha J s Y H _ I h) λv s1 #[x,H1,I1,r1,q1]=>?_)
 obtain⟨c,rfl,q1⟩:=q1;cases r1;refine Ki ?_;cases c with
 | true=>exact hb J s1 Y H1 Q I1 q1
 | false=>exact#[.bl false,H1,I1,rfl,q1]
def DB (ha:PE X a ta)(hb:PE X (.BoolOp .Or (b::be) pos) tb):PE X (.BoolOp .Or (a::b::be) pos) (Fz ta tb):=by
 intro J s Y H Q I h;refine BoolOp_or (bf (ha J s Y H _ I h) λv s1 #[x,H1,I1,r1,q1]=>?_)
 obtain⟨c,rfl,q1⟩:=q1;cases r1;refine Ki ?_;cases c with
 | false=>exact hb J s1 Y H1 Q I1 q1
 | true=>exact#[.bl true,H1,I1,rfl,q1]
def Bx (ha:PE X a ta):PE X (.UnaryOp .Not a pos) (DA ta):=by
 intro J s Y H Q I h;refine UnaryOp_ (bf (ha J s Y H _ I h) λv s1 #[x,H1,I1,r1,q1]=>?_)
 obtain⟨c,rfl,q1⟩:=q1;cases r1;exact not_of (Ki #[.bl (!c),H1,I1,rfl,q1])
abbrev G9 (t:TT)(ta tb:TE):TE:=λY H Q=>t Y H λc H1=>if c=true then ta Y H1 Q else tb Y H1 Q
def uL {c:Ii}(hc:PT X c tA)(ha:PE X a ta)(hb:PE X b tb):PE X (.IfExp c a b pos) (G9 tA ta tb):=by
 intro J s Y H Q I h;refine wpAny_IfExp (bf (hc J s Y H _ I h) λd s1 #[H1,I1,q1]=>?_)
 cases d with
 | true=>exact ha J s1 Y H1 Q I1 q1
 | false=>exact hb J s1 Y H1 Q I1 q1
end
abbrev SqL (K:HG)(H:Hp)(a:HD)(xs:Hr V):Prop:=
 Rd H a (.lst xs)\/
  ∃(o:JJ) (its:Ik Hu) (n:HB),K.lookup a=ba o/\o.cls=.type "list"/\o.dict=gV/\o.data=.seq its n/\its.size<=sizeLine/\Vals xs its.toList
abbrev SqT (K:HG)(H:Hp)(a:HD)(xs:Hr V):Prop:=
 Rd H a (.tup xs)\/
  ∃(o:JJ) (its:Ik Hu) (n:HB),K.lookup a=ba o/\o.cls=.type "tuple"/\o.data=.seq its n/\its.size<=sizeLine/\Vals xs its.toList
abbrev FB:Hu->HA V
 | .none=>ba .non
 | .bool b=>ba (.bl b)
 | .int i _=>ba (.int i)
 | .str x _=>ba (.str x)
 | .bytes b _=>ba (.byt b)
 | .float b _=>ba (.flt b)
 | .ref a=>ba (.ref a)
 | .type n=>ba (.ty n)
 | _=>gV
def RelV.abs {x:V}{u:Hu}(r:RelV x u):FB u=ba x:=by
 cases x with
 | non=>cases r; rfl
 | bl _=>cases r; rfl
 | int _=>obtain⟨t,rfl⟩:=r; rfl
 | str _=>obtain⟨t,rfl⟩:=r; rfl
 | byt _=>obtain⟨t,rfl⟩:=r; rfl
 | flt _=>obtain⟨t,rfl⟩:=r; rfl
 | ref _=>cases r; rfl
 | ty _=>cases r; rfl
def RelV.inj {x y:V}{u:Hu}(r:RelV x u)(q:RelV y u):x=y:=Je (r.abs.symm.trans q.abs)
def Vals.inj:∀ {xs ys:Hr V} {us:Hr Hu},Vals xs us->Vals ys us->xs=ys
 | _,_,_,.nil,.nil=>rfl
 | _,_,_,.cons r t,.cons r' t'=>by rw[r.inj r',Vals.inj t t']
section
variable{X:Cx}{J:Hr (HD×JJ)}{Y:St}{H:Hp}{s:Hw}{a:HD}{xs ys:Hr V}
def SqL.of {K:HG}(h:H a=ba (.lst xs)):SqL K H a xs:=.inl (.inl h)
def SqT.of {K:HG}(h:H a=ba (.tup xs)):SqT K H a xs:=.inl (.inl h)
def Inv.list (I:Inv X J Y H s)(h:SqL X.K H a xs):∃its:Hr Hu,Vals xs its/\PlainL s.heap a its.toArray/\xs.length<=sizeLine:=by
 rcases h with h|⟨o,its,n,hk,hc,hd,hs,hz,r⟩
 ·obtain⟨z,its,n,r,e⟩:=h.ok I.hok;exact#[its,r,#[_,n,e,rfl,rfl,rfl],z]
 ·refine#[its.toList,r,#[o,n,I.kIn a o hk,hc,hd,by simpa using hs],?_]
  have e:=r.length;simp only[HS]at e;omega
def Inv.tuple (I:Inv X J Y H s)(h:SqT X.K H a xs):∃its:Hr Hu,Vals xs its/\Oz s.heap a its.toArray/\xs.length<=sizeLine:=by
 rcases h with h|⟨o,its,n,hk,hc,hs,hz,r⟩
 ·obtain⟨z,its,r,p⟩:=h.ok I.hok;exact#[its,r,p,z]
 ·refine#[its.toList,r,#[o,I.kIn a o hk,hc,n,by simpa using hs],?_]
  have e:=r.length;simp only[HS]at e;omega
def Inv.list_inj (I:Inv X J Y H s)(h:SqL X.K H a xs)(h':SqL X.K H a ys):xs=ys:=by
 obtain⟨its,r,⟨o,n,e,_,_,d⟩,_⟩:=I.list h;obtain⟨its',r',⟨o',n',e',_,_,d'⟩,_⟩:=I.list h';rw[e]at e'; cases e'
 rw[d]at d';injection d' with d1 _
 have:its=its':=by simpa using congrArg Qr d1
 subst this;exact r.inj r'
def Inv.tuple_inj (I:Inv X J Y H s)(h:SqT X.K H a xs)(h':SqT X.K H a ys):xs=ys:=by
 obtain⟨its,r,⟨o,e,_,n,d⟩,_⟩:=I.tuple h;obtain⟨its',r',⟨o',e',_,n',d'⟩,_⟩:=I.tuple h';rw[e]at e'; cases e'
 rw[d]at d';injection d' with d1 _
 have:its=its':=by simpa using congrArg Qr d1
 subst this;exact r.inj r'
end
noncomputable abbrev Cx.wish (X:Cx)(E:Hu->Hw->Prop):Cx:={ X with xe:=E }
noncomputable abbrev Cx.nox (X:Cx):Cx:=X.wish λ_ _=>Jt
def Cx.Ok.wish {X:Cx}(ok:X.Ok)(E:Hu->Hw->Prop):(X.wish E).Ok:=
 #[ok.mod,ok.kind,ok.glob,ok.blt,ok.above,ok.inj,ok.has,ok.cab,ok.hd,ok.frames,ok.stk,ok.exf,ok.bs,ok.bsz,ok.noex,ok.exfs,ok.funs,ok.frf]
def Cx.Ok.unwish {X:Cx}{E:Hu->Hw->Prop}(ok:(X.wish E).Ok):X.Ok:=
 #[ok.mod,ok.kind,ok.glob,ok.blt,ok.above,ok.inj,ok.has,ok.cab,ok.hd,ok.frames,ok.stk,ok.exf,ok.bs,ok.bsz,ok.noex,ok.exfs,ok.funs,ok.frf]
section
variable{X:Cx}{J:Hr (HD×JJ)}{Y:St}{H:Hp}{s:Hw}{E:Hu->Hw->Prop}
def Inv.wish (I:Inv X J Y H s)(E:Hu->Hw->Prop):Inv (X.wish E) J Y H s:=#[I.ok.wish E,I.os,I.bare,I.base,I.loc,I.cell,I.free,I.freeC,I.pin,I.hok,I.len]
def Inv.unwish (I:Inv (X.wish E) J Y H s):Inv X J Y H s:=#[I.ok.unwish,I.os,I.bare,I.base,I.loc,I.cell,I.free,I.freeC,I.pin,I.hok,I.len]
def SP.unwish {D:Ends}{f:Flow}{s':Hw}(h:SP (X.wish E) J D f s'):SP X J D f s':=by
 cases f with
 | next=>obtain⟨Y',H',I,q⟩:=h; exact#[Y',H',I.unwish,q]
 | brk=>obtain⟨Y',H',I,q⟩:=h; exact#[Y',H',I.unwish,q]
 | cont=>obtain⟨Y',H',I,q⟩:=h; exact#[Y',H',I.unwish,q]
 | ret u=>obtain⟨v,Y',H',I,r,q⟩:=h; exact#[v,Y',H',I.unwish,r,q]
def PSs.nox {st:Hr KO}{t:TS}(h:PSs X.nox st t):PSs X st t:=λJ s Y H D I hw=>
 J0 (h J s Y H D (I.wish _) hw) (λ_ _ q=>q.unwish) λ_ _ z=>Jt.elim z
end
section
variable{X:Cx}{st:KO}{be:Hr KO}{t u:TS}{e:Ii}{te:TE}{pos:Kr}
abbrev uM:TS:=λD Y H=>D.nx Y H
abbrev FC (t u:TS):TS:=λD Y H=>t { D with nx:=u D } Y H
def yr:PSs X [] uM:=λ_ _ Y H _ I h=>Np #[Y,H,I,h]
def uN (h1:PS X st t)(h2:PSs X be u):PSs X (st::be) (FC t u):=by
 intro J s Y H D I h;refine wpAny_execs_cons (bf (h1 J s Y H { D with nx:=u D } I h) λf s1 q=>?_)
 cases f with
 | next=>
  obtain⟨Y',H',I',q⟩:=q;exact h2 J s1 Y' H' D I' q
 | ret v=>exact q
 | brk=>exact q
 | cont=>exact q
def yt:PS X (.Pass pos) uM:=λ_ _ Y H _ I h=>wpAny_Pass #[Y,H,I,h]
def Inv.quiet {J:Hr (HD×JJ)}{Y:St}{H:Hp}{s:Hw}(I:Inv X J Y H s):interactive X.env=false:=by simp[interactive,I.ok.kind]
def By {x j pos pos'}:PS X (.Expr (.Constant (.str x) j pos) pos') uM:=λ_ s Y H _ I h=>wpAny_Expr (Ol (show SP X _ _ .next { s with toks:=s.toks+1 } from#[Y,H,I.tok _,h])) I.quiet
abbrev DC (te:TE):TS:=λD Y H=>te Y H λ_ H1=>D.nx Y H1
def yu (he:PE X e te)(hs:swapsWith e gV pos.line X.env=pure false:=by rfl):PS X (.Expr e pos) (DC te):=by
 intro J s Y H D I h;exact wpAny_Expr_any (bf (he J s Y H _ I h) λv s1 #[x,H1,I1,r1,q1]=>#[Y,H1,I1,q1]) I.quiet hs
abbrev FD (te:TE):TS:=λD Y H=>te Y H D.rt
def Bz (he:PE X e te):PS X (.Return (ba e) pos) (FD te):=by
 intro J s Y H D I h;exact wpAny_Return_some (bf (he J s Y H _ I h) λv s1 #[x,H1,I1,r1,q1]=>#[x,Y,H1,I1,r1,q1])
abbrev FH (c:TT)(t u:TS):TS:=λD Y H=>c Y H λb H1=>if b=true then t D Y H1 else u D Y H1
def DD {c:Ii}{a b:Hr KO}{tc:TT}(hc:PT X c tc)(ha:PSs X a t)(hb:PSs X b u):PS X (.If c a b pos) (FH tc t u):=by
 intro J s Y H D I h;refine wpAny_If (bf (hc J s Y H _ I h) λd s1 #[H1,I1,q1]=>?_)
 cases d with
 | true=>exact ha J s1 Y H1 D I1 q1
 | false=>exact hb J s1 Y H1 D I1 q1
end
noncomputable abbrev TG:=V->St->Hp->(St->Hp->Prop)->Prop
noncomputable abbrev BA:=Hr V->St->Hp->(St->Hp->Prop)->Prop
abbrev PG (X:Cx)(target:Ii)(t:TG):Prop:=
 ∀(J:Hr (HD×JJ)) (s:Hw) (Y:St) (H:Hp) (v:V) (u:Hu) (Q:St->Hp->Prop),Inv X J Y H s->RelV v u->t v Y H Q->
  wpAny (model X.prog X.w) X.A (assign target X.env u) (λ_ s'=>∃Y' H',Inv X J Y' H' s'/\Q Y' H') X.xe s
abbrev DE (X:Cx)(ts:Hr Ii)(t:BA):Prop:=
 ∀(J:Hr (HD×JJ)) (s:Hw) (Y:St) (H:Hp) (vs:Hr V) (us:Hr Hu) (Q:St->Hp->Prop),Inv X J Y H s->Vals vs us->t vs Y H Q->
  wpAny (model X.prog X.w) X.A (assignInOrder ((assignEach ts X.env).map (·.2)) us) (λ_ s'=>∃Y' H',Inv X J Y' H' s'/\Q Y' H') X.xe s
noncomputable abbrev BB:=V->V->V->Hp->(Hp->Prop)->Prop
abbrev BC (X:Cx)(t:BB):Prop:=
 ∀(J:Hr (HD×JJ)) (s:Hw) (Y:St) (H:Hp) (o i v:V) (ov iv u:Hu) (Q:Hp->Prop),Inv X J Y H s->RelV o ov->RelV i iv->RelV v u->t o i v H Q->
  wpAny (model X.prog X.w) X.A (setItem ov iv u) (λ_ s'=>∃H',Inv X J Y H' s'/\Q H') X.xe s
section
variable{X:Cx}{pos:Kr}
abbrev DF (i:HB):TG:=λv Y H Q=>Q (Y.set i (ba v)) H
def qP {i:HB}{x:HY}(hN:X.N.Nodup)(hi:X.N[i]?=ba x)(hx:yo X.env.scope x)(hf:X.fn x=true\/X.env.scope.names.lookup x=ba .local):PG X (.Name x pos) (DF i):=by
 intro J s Y H v u Q I r h;exact OB (gJ I hN hi hx r (λs' I'=>#[_,H,I',h]) hf)
abbrev FJ:BA:=λvs Y H Q=>vs=[]/\Q Y H
abbrev DH (t:TG)(u:BA):BA:=λvs Y H Q=>∃v r,vs=v::r/\t v Y H λY' H'=>u r Y' H' Q
def yv:DE X [] FJ:=by
 intro J s Y H vs us Q I r h;obtain⟨e,h⟩:=h;subst e;cases r;exact OC #[Y,H,I,h]
def uO {e:Ii}{es:Hr Ii}{t:TG}{u:BA}(h1:PG X e t)(h2:DE X es u)
  (hs:(assignEach (e::es) X.env).map (·.2)=assign e X.env::(assignEach es X.env).map (·.2):=by rfl):DE X (e::es) (DH t u):=by
 intro J s Y H vs us Q I r h;obtain⟨v,vr,e1,h⟩:=h;subst e1;cases r with
 | cons r rr=>
  rw[hs];refine Mu (bf (h1 J s Y H _ _ _ I r h) λ_ s1 #[Y1,H1,I1,q1]=>?_)
  exact h2 J s1 Y1 H1 _ _ Q I1 rr q1
abbrev FK (K:HG)(n:HB)(t:BA):TG:=λv Y H Q=>∃a xs,v=.ref a/\SqT K H a xs/\xs.length=n/\t xs Y H Q
def BE {es:Hr Ii}{k:HB}{t:BA}{n:HB}(hc:X.calm=true)(h:DE X es t)
  (hn:(assignEach es X.env).length=n:=by rfl) (hst:(assignEach es X.env).findIdx? (·.1)=gV:=by rfl):PG X (.Tuple es k pos) (FK X.K n t):=by
 intro J s Y H v u Q I r hw;obtain⟨a,xs,e1,hq,hl,hw⟩:=hw;subst e1;cases r;obtain⟨its,rv,ht,hz⟩:=I.tuple hq;refine assign_Tuple_tuple (I.ok.hd hc) ht (by simp[hn,<- hl,rv.length]) hst λh' hx=>?_
 have I1:Inv X J Y H { s with heap:=h' }:=I.kept (t':=s.toks) λb o e=>hx b o (HV (HP e)) e
 exact h J _ Y H xs _ Q I1 (by simpa using rv) hw
abbrev FL (to ti:TE)(t:BB):TG:=λv Y H Q=>to Y H λo H1=>ti Y H1 λi H2=>t o i v H2 λH3=>Q Y H3
def BF {o i:Ii}{to ti:TE}{t:BB}(ho:PE X o to)(hi:PE X i ti)(hs:BC X t)
  (ha:∀v,assign (.Subscript o i pos) X.env v=(do
   let ov <- holding [v] (eval o X.env)
   let iv <- holding [v,ov] (eval i X.env)
   standAt pos
   holding [v,ov,iv] (setItem ov iv v)
   release [v,ov,iv] []):=by intro _; rfl):PG X (.Subscript o i pos) (FL to ti t):=by
 intro J s Y H v u Q I r h;rw[ha];refine Hs (Jg (bf (ho J s Y H _ I h) λov s1 #[x,H1,I1,r1,q1]=>?_))
 refine Hs (Jg (bf (hi J s1 Y H1 _ I1 q1) λiv s2 #[y,H2,I2,r2,q2]=>?_))
 refine Hs (L7 (Hs (Jg (bf (hs J s2 Y H2 x y v ov iv u _ I2 r1 r2 r q2) λ_ s3 #[H3,I3,q3]=>?_))))
 exact wpAny_release #[Y,H3,I3,q3]
abbrev FM (te:TE)(g:TG):TS:=λD Y H=>te Y H λx H1=>g x Y H1 D.nx
def BG {tg e:Ii}{te:TE}{g:TG}(he:PE X e te)(hg:PG X tg g)(hs:swapsWithSole [tg] e pos.line X.env=pure false:=by rfl)(hw:swappedStores [tg] e X.env=pure gV:=by rfl)
  (h1:(assignEach [tg] X.env).map (·.2)=[assign tg X.env]:=by rfl):PS X (.Assign [tg] e pos) (FM te g):=by
 intro J s Y H D I h;refine wpAny_Assign_stores (bf (he J s Y H _ I h) λv s1 #[x,H1,I1,r1,q1]=>?_) hs hw
 rw[h1];exact bf (hg J s1 Y H1 x v _ I1 r1 q1) λ_ s2 q=>q
abbrev FN (i j:HB)(ta:TA):TS:=λD Y H=>ta Y H λvs H1=>∃v w,vs=[v,w]/\D.nx ((Y.set i (ba v)).set j (ba w)) H1
def BH {i j:HB}{x y:HY}{a b:Ii}{ta:TA}{px py pt:Kr}{kt k2 pt2}(hc:X.calm=true)(hN:X.N.Nodup)(hi:X.N[i]?=ba x)(hj:X.N[j]?=ba y)(hij:i≠j)
  (hx:X.env.scope.names.lookup x=ba .local) (hy:X.env.scope.names.lookup y=ba .local) (ha:PA X [a,b] ta)
  (hw:swappedStores [.Tuple [.Name x px,.Name y py] kt pt] (.Tuple [a,b] k2 pt2) X.env=pure (ba [x,y]))
  (hs:swapsWithSole [.Tuple [.Name x px,.Name y py] kt pt] (.Tuple [a,b] k2 pt2) pos.line X.env=pure false:=by rfl) :
  PS X (.Assign [.Tuple [.Name x px,.Name y py] kt pt] (.Tuple [a,b] k2 pt2) pos) (FN i j ta):=by
 intro J s Y H D I h;rw[exec_Assign_arm];refine Hs (L7 ?_);rw[hs];refine Hs (Hx ?_);rw[Im #v[]]
 refine Hs (Tuple_ (bf (ha _ J s Y H _ I h) λus s1 #[vs,H1,I1,r1,q1]=>?_))
 obtain⟨v,w,e1,q1⟩:=q1;subst e1;obtain⟨u1,u2,rfl,rv,rw'⟩ : ∃u1 u2,us=[u1,u2]/\RelV v u1/\RelV w u2:=by
  cases r1 with
  | cons p q=>
   cases q with
   | cons p' q'=>
    cases q';exact#[_,_,rfl,p,p']
 refine IH ?_ (by show 2<=sizeLine; decide)
 have I2:Inv X J Y H1 { s1 with heap:=s1.heap.push { cls:=.type "tuple",data:=.seq [u1,u2].toArray } }:=I1.kept (t':=s1.toks) λb o e=>Ht _ e
 rw[hw];refine Hs (Hx ?_);show wpAny (model X.prog X.w) X.A (do rule "assign.swapped-stores"; let items <- unpackItems (.ref s1.heap.objs.size) 2 gV; assignInOrder [λv=>bindName X.env y v,λv=>bindName X.env x v] items.reverse; pure Rj) _ _ _
 refine Hs (Mv (Hs (unpackItems_tuple (items:=[u1,u2].toArray) (I.ok.hd hc) (OY s1.heap _) λh' hx'=>?_)))
 have I3:=I2.kept (h':=h') (t':=s1.toks) λb o e=>hx' b o (HV (HP e)) e
 show wpAny _ _ (assignInOrder [λv=>bindName X.env y v,λv=>bindName X.env x v] [u2,u1] >>= λ_=>pure Rj) _ _ _
 refine Hs (Mu (Py (gJ I3 hN hj (.inl hy) rw' (λs2 I4=>?_) (.inr hy))))
 refine Mu (Py (gJ I4 hN hi (.inl hx) rv (λs3 I5=>OC (Hx ?_)) (.inr hx)))
 rw[List.set_comm _ _ (Ne.symm hij)]at I5;exact#[_,H1,I5,q1]
end
section
variable{X:Cx}{pos:Kr}
abbrev BI (c:TT)(tb:TS):TS:=λD Y H=>∃W:HB->St->Hp->Prop,(∃m,W m Y H)/\∀m Y H,W m Y H->
 c Y H λb H1=>if b=true then ∃N:St->Hp->Prop,(∀Y' H',N Y' H'->∃m',m' < m/\W m' Y' H')/\tb { D with nx:=N,ct:=N,bk:=D.nx } Y H1 else D.nx Y H1
def uP {c:Ii}{body:Hr KO}{tc:TT}{tb:TS}(hp:N1 (model X.prog X.w) X.A X.env X.xe)(hc:PT X c tc)(hb:PSs X body tb):PS X (.While c body [] pos) (BI tc tb):=by
 intro J s Y H D I h;obtain⟨W,⟨m0,w0⟩,turn⟩:=h;refine wpAny_While (codeAny_whileLoop (λn s'=>∃Y' H',Inv X J Y' H' s'/\W n Y' H') ?_ m0 #[Y,H,I,w0])
 rintro n s1 ⟨Y1,H1,I1,w1⟩;refine KA hp (bf (hc J s1 Y1 H1 _ I1 (turn n Y1 H1 w1)) λb s2 #[H2,I2,q2]=>?_)
 cases b with
 | true=>
  obtain⟨N,hN,q2⟩:=q2;rw[Ic rfl];refine KA hp (bf (hb J s2 Y1 H2 _ I2 q2) λf s3 q3=>?_)
  cases f with
  | next=>
   obtain⟨Y3,H3,I3,n3⟩:=q3;obtain⟨m',hm,w3⟩:=hN Y3 H3 n3;exact#[m',hm,Y3,H3,I3,w3]
  | cont=>
   obtain⟨Y3,H3,I3,n3⟩:=q3;obtain⟨m',hm,w3⟩:=hN Y3 H3 n3;exact#[m',hm,Y3,H3,I3,w3]
  | brk=>exact q3
  | ret v=>exact q3
 | false=>
  rw[Im Ih];exact Np #[Y1,H2,I2,q2]
end
structure It where
 go:HB->Hp->Prop
 yld:HB->Hp->V->Hp->Prop
 stop:HB->Hp->Prop
abbrev gm (X:Cx)(J:Hr (HD×JJ))(H:Hp)(b:HD):Prop:=
 H b=gV/\b≠X.env.locals/\b∉X.fs/\(b∈X.ex\/X.s₀.heap.objs.size<=b)/\(∀x c,X.env.cells.lookup x=ba c->c≠b)/\∀p∈X.pn++J,p.1≠b
def Inv.fpOk {X:Cx}{J:Hr (HD×JJ)}{Y:St}{H H':Hp}{s:Hw}{b:HD}(I:Inv X J Y H s)(hb:s.heap.objs.size<=b)(hn:H' b=gV):gm X J H' b:=by
 refine#[hn,Jz (Iu I.lt hb),I.nofs hb,.inr (ID I.sz hb),λx c e z=>?_,λp hp z=>?_]
 ·obtain⟨v,q⟩:=I.cell x c e;exact absurd (Iu q.lt (by rw[z]; exact hb)) (Jw _)
 ·exact absurd (Iu (HP (I.pin p hp).1) (by rw[z]; exact hb)) (Jw _)
structure Turn (P:Iw)(w:IE)(K:HG)(tg:Ii)(td:It)(fp:Hr HD)(it:HD)(tn:HB->IJ->Prop):Prop where
 mem:it∈fp
 obj:∀i h,tn i h->∀b∈fp,∃o,h.get? b=ba o/\∀v,o.data≠.cell v
 keep:∀i h h',tn i h->(∀b∈fp,∀o,h.get? b=ba o->h'.get? b=ba o)->tn i h'
 item:∀(X:Cx),X.prog=P->X.w=w->X.K=K->X.calm=true->∀(i:HB) (J:Hr (HD×JJ)) (s:Hw) (Y:St) (H:Hp) (E:Hu->Hw->Prop),Inv X J Y H s->(∀b∈fp,gm X J H b)->tn i s.heap->td.go i H->
  wpAny (model P w) X.A (pyNext (.ref it)) (λr s1=>∃u,r=ba u/\
   wpAny (model P w) X.A (letOwnedTupleGo tg (.ref it) u) (λ_ s2=>∃x H',Inv X J Y H' s2/\RelV x u/\td.yld i H x H'/\tn (i+1) s2.heap/\∀b∈fp,H' b=gV) E s1) E s
 done:∀(X:Cx),X.prog=P->X.w=w->X.K=K->X.calm=true->∀(i:HB) (J:Hr (HD×JJ)) (s:Hw) (Y:St) (H:Hp) (E:Hu->Hw->Prop),Inv X J Y H s->(∀b∈fp,gm X J H b)->tn i s.heap->td.stop i H->
  wpAny (model P w) X.A (pyNext (.ref it)) (λr s1=>r=gV/\Inv X J Y H s1) E s
 self:∀(A:IB) (i:HB) (s:Hw) (Q:Hu->Hw->Prop) (E:Hu->Hw->Prop),tn i s.heap->Q (.ref it) s->wpAny (model P w) A (pyIter (.ref it)) Q E s
noncomputable abbrev TI:=St->Hp->(It->Hp->Prop)->Prop
abbrev DI (X:Cx)(J:Hr (HD×JJ))(Y:St)(tg:Ii)(R:It->Hp->Prop)(itv:Hu)(s2:Hw):Prop:=
 ∃(it:HD) (fp:Hr HD) (tn:HB->IJ->Prop) (td:It) (H':Hp),itv=.ref it/\Inv X J Y H' s2/\Turn X.prog X.w X.K tg td fp it tn/\tn 0 s2.heap/\(∀b∈fp,gm X J H' b)/\R td H'
abbrev PI (X:Cx)(tg iter:Ii)(wi:TI):Prop:=
 ∀(J:Hr (HD×JJ)) (s:Hw) (Y:St) (H:Hp) (R:It->Hp->Prop),Inv X J Y H s->wi Y H R->
  wpAny (model X.prog X.w) X.A (eval iter X.env) (λv s1=>wpAny (model X.prog X.w) X.A (pyIter v) (DI X J Y tg R) X.xe s1) X.xe s
def qQ {tx:Rs}{A:IB}{E:Hu->Hw->Prop}{s:Hw}{tg:Ii}{it:HD}{u:Hu}{o:JJ}{n:Jy}{vs:Ik Hu}{Q:Rt->Hw->Prop}(ho:s.heap.get? it=ba o)(hc:o.cls=.type n)(hd:o.data=.fields vs)
    (hn:["enumerate","zip","dict_itemiterator","dict_reverseitemiterator","odict_iterator","itertools.zip_longest","itertools.pairwise"].contains n=false) (hQ:Q () s):wpAny tx A (letOwnedTupleGo tg (.ref it) u) Q E s:=by
  unfold letOwnedTupleGo;cases tg <;> first
    | exact Hx hQ
    | (cases u <;> first
        | exact Hx hQ
        | (refine Hs (Nh ho ?_)
           rw[hc,hd];show wpAny tx A (if (["enumerate","zip","dict_itemiterator","dict_reverseitemiterator","odict_iterator","itertools.zip_longest","itertools.pairwise"].contains n&&vs[0]?==ba (rawInt _))=true then _ else _) Q E s
           rw[Im (by intro h; rw[hn,Pz]at h; cases h)]
           exact Hx hQ))
abbrev FP (K:HG)(a:HD):It:=
 #[λi H=>∃xs x,SqL K H a xs/\xs[i]?=ba x,λi H x H'=>H'=H/\∀xs,SqL K H a xs->xs[i]?=ba x,λi H=>∃xs,SqL K H a xs/\xs.length<=i]
abbrev FQ (K:HG)(a:HD):It:=
 #[λi H=>∃xs x,SqT K H a xs/\xs[i]?=ba x,λi H x H'=>H'=H/\∀xs,SqT K H a xs->xs[i]?=ba x,λi H=>∃xs,SqT K H a xs/\xs.length<=i]
abbrev DJ (lo:HM)(n:HB):It:=#[λi _=>i < n,λi H x H'=>H'=H/\x=.int (lo+i),λi _=>n<=i]
def sF {P:Iw}{w:IE}{K:HG}{tg:Ii}(a it:HD):Turn P w K tg (FP K a) [it] it (λi h=>h.IsListIter it a i) where
 mem:=by simp
 obj:=λi h st b hb=>by
  have e:b=it:=by simpa using hb
  subst e;obtain⟨o,e,c,d⟩:=st;exact#[o,e,λv z=>by rw[d]at z; cases z]
 keep:=λi h h' st k=>st.at λo e=>k it (by simp) o e
 item:=by
  intro X hP hw hK hc i J s Y H E I hf st hg;subst hP hw hK;obtain⟨xs,x,hq,hx⟩:=hg;obtain⟨its,rv,p,hz⟩:=I.list hq;obtain⟨u,hu,ru⟩:=rv.get hx;obtain⟨f0,f1,f2,f3,f4,f5⟩:=hf it (by simp)
  refine wpAny_pyNext_list_item st p.isList (x:=u) (by simpa using hu) λh' st' sb=>?_
  have I1:Inv X J Y H { s with heap:=h' }:=I.turned (t':=s.toks) (λb o hb e=>(sb.2 b hb).trans e) f0 f1 f3 f4 f5
  obtain⟨o,e,c,d⟩:=id st';exact#[u,rfl,qQ (s:={ s with heap:=h' }) e c d #v[] #[x,H,I1,ru,#[rfl,λys hy=>by rw[I.list_inj hy hq]; exact hx],st',λb hb=>(hf b hb).1]]
 done:=by
  intro X hP hw hK hc i J s Y H E I hf st hg;subst hP hw hK;obtain⟨xs,hq,hx⟩:=hg;obtain⟨its,rv,p,hz⟩:=I.list hq;obtain⟨f0,f1,f2,f3,f4,f5⟩:=hf it (by simp)
  have hl:=rv.length;exact wpAny_pyNext_list_end (I.ok.hd hc) st p.isList (by simp; omega) λh' eb=>#[rfl,I.turned (t':=s.toks) (λb o hb e=>eb b o hb e) f0 f1 f3 f4 f5]
 self:=λ_ _ _ _ _ st h=>wpAny_pyIter_listiter st h
def pM {P:Iw}{w:IE}{K:HG}{tg:Ii}(a it:HD):Turn P w K tg (FQ K a) [it] it (λi h=>h.IsTupleIter it a i) where
 mem:=by simp
 obj:=λi h st b hb=>by
  have e:b=it:=by simpa using hb
  subst e;obtain⟨o,e,c,d⟩:=st;exact#[o,e,λv z=>by rw[d]at z; cases z]
 keep:=λi h h' st k=>st.at λo e=>k it (by simp) o e
 item:=by
  intro X hP hw hK hc i J s Y H E I hf st hg;subst hP hw hK;obtain⟨xs,x,hq,hx⟩:=hg;obtain⟨its,rv,p,hz⟩:=I.tuple hq;obtain⟨u,hu,ru⟩:=rv.get hx;obtain⟨f0,f1,f2,f3,f4,f5⟩:=hf it (by simp)
  refine wpAny_pyNext_tuple_item st (show s.heap.IsTuple a its.toArray from p) (x:=u) (by simpa using hu) λh' st' sb=>?_
  have I1:Inv X J Y H { s with heap:=h' }:=I.turned (t':=s.toks) (λb o hb e=>(sb.2 b hb).trans e) f0 f1 f3 f4 f5
  obtain⟨o,e,c,d⟩:=id st';exact#[u,rfl,qQ (s:={ s with heap:=h' }) e c d #v[] #[x,H,I1,ru,#[rfl,λys hy=>by rw[I.tuple_inj hy hq]; exact hx],st',λb hb=>(hf b hb).1]]
 done:=by
  intro X hP hw hK hc i J s Y H E I hf st hg;subst hP hw hK;obtain⟨xs,hq,hx⟩:=hg;obtain⟨its,rv,p,hz⟩:=I.tuple hq;obtain⟨f0,f1,f2,f3,f4,f5⟩:=hf it (by simp)
  have hl:=rv.length;exact wpAny_pyNext_tuple_end (I.ok.hd hc) st (show s.heap.IsTuple a its.toArray from p) (by simp; omega) λh' eb=>#[rfl,I.turned (t':=s.toks) (λb o hb e=>eb b o hb e) f0 f1 f3 f4 f5]
 self:=λ_ _ _ _ _ st h=>wpAny_pyIter_tupleiter st h
def pN {P:Iw}{w:IE}{K:HG}{tg:Ii}(it:HD)(lo:HM)(n:HB):Turn P w K tg (DJ lo n) [it] it (λi h=>QD h it (lo+(i:HB)*1) ((n:HM) - (i:HB)) 1) where
 mem:=by simp
 obj:=λi h st b hb=>by
  have e:b=it:=by simpa using hb
  subst e;exact#[_,st,λv z=>by
   have z':Data.fields _=Data.cell v:=z;cases z']
 keep:=λi h h' st k=>k it (by simp) _ st
 item:=by
  intro X hP hw hK hc i J s Y H E I hf st hg;subst hP hw hK;obtain⟨f0,f1,f2,f3,f4,f5⟩:=hf it (by simp)
  have W:=Walks.range (prog:=X.prog) (w:=X.w) (I.ok.hd hc) it lo 1 n;refine W.item i s _ _ hg st λv h' tk hv st' kk=>?_
  obtain⟨t,rfl⟩:=hv;have I1:Inv X J Y H { s with heap:=h',toks:=tk }:=I.turned (λb o hb e=>kk b o (by simpa using hb) e) f0 f1 f3 f4 f5
  refine#[_,rfl,qQ (s:={ s with heap:=h',toks:=tk }) (n:="range_iterator") st' rfl rfl #v[] #[.int (lo+i),H,I1,#[t,?_],#[rfl,rfl],st',λb hb=>(hf b hb).1]]
  rw[Int.mul_one]
 done:=by
  intro X hP hw hK hc i J s Y H E I hf st hg;subst hP hw hK;obtain⟨f0,f1,f2,f3,f4,f5⟩:=hf it (by simp)
  exact wpAny_pyNext_range_end (I.ok.hd hc) st (by have:n<=i:=hg; omega) λh' eb=>#[rfl,I.turned (t':=s.toks) (λb o hb e=>eb b o hb e) f0 f1 f3 f4 f5]
 self:=λ_ _ _ _ _ st h=>wpAny_pyIter_rangeiter st h
section
variable{X:Cx}{tg:Ii}
def ni {J:Hr (HD×JJ)}{Y:St}{H:Hp}{s:Hw}{R:It->Hp->Prop}{E:Hu->Hw->Prop}{lo hi:HM}{t u v:RC}{tk:HB}(I:Inv X J Y H s)(h1 : -(2 ^ 62)<=lo)(h2:lo < 2 ^ 62)(h3 : -(2 ^ 62)<=hi)(h4:hi < 2 ^ 62)
  (q:R (DJ lo (hi - lo).toNat) H):wpAny (model X.prog X.w) X.A (pyIter (.ref s.heap.objs.size)) (DI X J Y tg R) E { s with heap:=s.heap.push { cls:=.type "range",data:=.fields [.int lo t,.int hi u,.int 1 v].toArray },toks:=tk }:=by
 refine wpAny_pyIter_range (IsRange.new ..) (Qo h1 h2 h3 h4) ?_;have I1:Inv X J Y H { s with heap:=s.heap.push { cls:=.type "range",data:=.fields [.int lo t,.int hi u,.int 1 v].toArray },toks:=tk }:=I.kept λb o e=>Ht _ e
 refine#[(s.heap.push { cls:=.type "range",data:=.fields [.int lo t,.int hi u,.int 1 v].toArray }).objs.size,[(s.heap.push { cls:=.type "range",data:=.fields [.int lo t,.int hi u,.int 1 v].toArray }).objs.size],_,_,H,rfl,
  I1.kept (t':=tk) λb o e=>Ht _ e,pN _ lo (hi - lo).toNat,?_,λb hb=>?_,q]
 ·have e1:lo+((0:HB):HM)*1=lo:=by simp
  have e2:(((hi - lo).toNat:HB):HM) - ((0:HB):HM)=J1 lo hi 1:=by rw[N9]; split <;> omega
  show QD _ _ (lo+((0:HB):HM)*1) ((((hi - lo).toNat:HB):HM) - ((0:HB):HM)) 1;rw[e1,e2];exact HI _ rfl
 ·have e:b=(s.heap.push { cls:=.type "range",data:=.fields [.int lo t,.int hi u,.int 1 v].toArray }).objs.size:=by simpa using hb
  subst e;exact I1.fpOk (HE _) (I1.hok.fresh (HE _))
abbrev DK (ta:TA):TI:=λY H R=>ta Y H λvs H1=>∃j:HM,vs=[.int j]/\-(2 ^ 62)<=j/\j < 2 ^ 62/\R (DJ 0 j.toNat) H1
abbrev iRng2 (ta:TA):TI:=λY H R=>ta Y H λvs H1=>∃i j:HM,vs=[.int i,.int j]/\(-(2 ^ 62)<=i/\i < 2 ^ 62/\-(2 ^ 62)<=j/\j < 2 ^ 62)/\R (DJ i (j - i).toNat) H1
def sG {a:Ii}{ta:TA}{p pos:Kr}(hg:Gl X "range")(hm:X.mg "range" = gV)(ha:PA X [a] ta)(hs:starEach [a] X.env=[(false,eval a X.env)]:=by rfl):PI X tg (.Call (.Name "range" p) [a] [] pos) (DK ta):=by
 intro J s Y H R I h;refine Ru (gk I hg hm boot_range (J3 (bf (ha pos J s Y H _ I h) λus s1 #[vs,H1,I1,r1,q1]=>?_) hs rfl))
 obtain⟨j,e,q1,q2,q⟩:=q1;subst e;cases r1 with
 | cons r rr=>
  cases rr;obtain⟨t,rfl⟩:=r;exact Qs (ni I1 ∅ ∅ q1 q2 (by simpa using q))
def sH {a b:Ii}{ta:TA}{p pos:Kr}(hg:Gl X "range")(hm:X.mg "range" = gV)(ha:PA X [a,b] ta)(hs:starEach [a,b] X.env=[(false,eval a X.env),(false,eval b X.env)]:=by rfl)(hs2:starEach [b] X.env=[(false,eval b X.env)]:=by rfl) :
  PI X tg (.Call (.Name "range" p) [a,b] [] pos) (iRng2 ta):=by
 intro J s Y H R I h;refine Ru (gk I hg hm boot_range (J3 (bf (ha pos J s Y H _ I h) λus s1 #[vs,H1,I1,r1,q1]=>?_) (by rw[hs,hs2]) (by rw[hs2]; rfl)))
 obtain⟨i,j,e,⟨q1,q2,q3,q4⟩,q⟩:=q1;subst e;cases r1 with
 | cons r rr=>
  cases rr with
  | cons r' rr=>
   cases rr;obtain⟨t,rfl⟩:=r;obtain⟨t',rfl⟩:=r';exact call_range_2 (ni I1 q1 q2 q3 q4 q)
abbrev FR (wi:TI)(g:TG)(tb:TS):TS:=λD Y H=>wi Y H λtd H1=>∃W:HB->HB->St->Hp->Prop,(∃m,W 0 m Y H1)/\∀i m Y H,W i m Y H->
 (td.stop i H/\D.nx Y H)\/(td.go i H/\∃N:St->Hp->Prop,(∀Y' H',N Y' H'->∃m',m' < m/\W (i+1) m' Y' H')/\∀x H',td.yld i H x H'->g x Y H' λY2 H2=>tb { D with nx:=N,ct:=N,bk:=D.nx } Y2 H2)
abbrev io (fp:Hr HD)(h:IJ):Hr (HD×JJ):=fp.filterMap λb=>(h.get? b).map λo=>(b,o)
def eA {fp:Hr HD}{h:IJ}{b:HD}{o:JJ}(hb:b∈fp)(e:h.get? b=ba o):(b,o)∈io fp h:=Mw.mpr #[b,hb,by rw[e]; rfl]
def sI {fp:Hr HD}{h:IJ}{p:HD×JJ}(hp:p∈io fp h):p.1∈fp/\h.get? p.1=ba p.2:=by
 obtain⟨b,hb,e⟩:=Mw.mp hp;cases q:h.get? b with
 | none=>rw[q]at e; cases e
 | some o=>
  rw[q]at e;have e':(b,o)=p:=Je e;subst e';exact#[hb,q]
def Inv.pinned {J:Hr (HD×JJ)}{Y:St}{H:Hp}{s:Hw}{fp:Hr HD}(I:Inv X J Y H s)(hf:∀b∈fp,gm X J H b)(ho:∀b∈fp,∃o,s.heap.get? b=ba o/\∀v,o.data≠.cell v):Inv X (J++io fp s.heap) Y H s:=
 I.pins_of λp hp=>(Io.mp hp).elim (λz=>I.pin p (Iq _ z)) λz=>by
  obtain⟨hb,e⟩:=sI z;obtain⟨f0,f1,f2,_⟩:=hf p.1 hb;obtain⟨o,e',d⟩:=ho p.1 hb;rw[e]at e'; cases e'
  exact#[e,f0,f1,f2,d]
def Inv.unpinned {J pl:Hr (HD×JJ)}{Y:St}{H:Hp}{s:Hw}(I:Inv X (J++pl) Y H s):Inv X J Y H s:=I.pins_of λp hp=>I.pin p (Iq _ (Jr _ hp))
def BJ {iter:Ii}{body:Hr KO}{wi:TI}{g:TG}{tb:TS}{pos:Kr}(hp:N1 (model X.prog X.w) X.A X.env X.xe)(hc:X.calm=true)(hi:PI X tg iter wi)(hg:PG X tg g)(hb:PSs X body tb)
  (hs:∀x,foldedSetIterable iter X.env x=pure x:=by intro _; rfl):PS X (.For tg iter body [] pos) (FR wi g tb):=by
 intro J s Y H D I h;refine wpAny_For (bf (hi J s Y H _ I h) λv s1 h1=>bf h1 λitv s2 h2=>?_) hs
 obtain⟨it,fp,tn,td,H2,e,I2,T,aC,f2,W,⟨m0,w0⟩,turn⟩:=h2;subst e;have stat:∀ {H':Hp},(∀b∈fp,H' b=gV)->∀b∈fp,gm X J H' b:=λhn b hb=>#[hn b hb,(f2 b hb).2]
 refine codeAny_forLoop_any (λn s'=>∃i Y' H',Inv X J Y' H' s'/\tn i s'.heap/\(∀b∈fp,H' b=gV)/\W i n Y' H') ?_ m0 #[0,Y,H2,I2,aC,λb hb=>(f2 b hb).1,w0]
 rintro n s3 ⟨i,Y3,H3,I3,st3,fr3,w3⟩;rcases turn i n Y3 H3 w3 with⟨stop,qn⟩|⟨go,N,hN,step⟩
 ·refine KA hp (bf (T.done X rfl rfl rfl hc i J s3 Y3 H3 X.xe I3 (stat fr3) st3 stop) λr s4 #[hr,I4]=>?_)
  subst hr;exact Np #[Y3,H3,I4,qn]
 ·refine KA hp (bf (T.item X rfl rfl rfl hc i J s3 Y3 H3 X.xe I3 (stat fr3) st3 go) λr s4 #[u,hr,h4]=>?_)
  subst hr;refine KA hp (bf h4 λ_ s5 #[x,H5,I5,r5,y5,st5,fr5]=>?_)
  have I5':=I5.pinned (stat fr5) (T.obj _ _ st5);refine KA hp (bf (hg _ s5 Y3 H5 x u _ I5' r5 (step x H5 y5)) λ_ s6 #[Y6,H6,I6,q6]=>?_)
  refine KA hp (bf (hb _ s6 Y6 H6 _ I6 q6) λf s7 q7=>?_)
  have again:∀ {Y7:St} {H7:Hp},Inv X (J++io fp s5.heap) Y7 H7 s7->N Y7 H7->∃m,m < n/\∃i Y' H',Inv X J Y' H' s7/\tn i s7.heap/\(∀b∈fp,H' b=gV)/\W i m Y' H':=λ{Y7 H7} I7 n7=>by
   obtain⟨m',hm,w7⟩:=hN Y7 H7 n7;refine#[m',hm,i+1,Y7,H7,I7.unpinned,T.keep _ _ _ st5 λb hb o e=>(I7.pin (b,o) (Iq _ (Iq _ (eA hb e)))).1,λb hb=>?_,w7]
   obtain⟨o,e,d⟩:=T.obj _ _ st5 b hb;exact(I7.pin (b,o) (Iq _ (Iq _ (eA hb e)))).2.1
  cases f with
  | next=>obtain⟨Y7,H7,I7,n7⟩:=q7; exact again I7 n7
  | cont=>obtain⟨Y7,H7,I7,n7⟩:=q7; exact again I7 n7
  | brk=>obtain⟨Y7,H7,I7,q7⟩:=q7; exact#[Y7,H7,I7.unpinned,q7]
  | ret v=>obtain⟨x7,Y7,H7,I7,r7,q7⟩:=q7; exact#[x7,Y7,H7,I7.unpinned,r7,q7]
end
noncomputable abbrev R2:=V->V->Hp->VK->Prop
abbrev OpR (X:Cx)(f:Hu->Hu->QP Hu)(r:R2):Prop:=
 ∀(J:Hr (HD×JJ)) (s:Hw) (Y:St) (H:Hp) (x y:V) (v u:Hu) (Q:VK),Inv X J Y H s->RelV x v->RelV y u->r x y H Q->
  wpAny (model X.prog X.w) X.A (f v u) (EP X J Y Q) X.xe s
abbrev FU (X:Cx)(f:Hu->QP Hu)(r:V->Hp->VK->Prop):Prop:=
 ∀(J:Hr (HD×JJ)) (s:Hw) (Y:St) (H:Hp) (x:V) (v:Hu) (Q:VK),Inv X J Y H s->RelV x v->r x H Q->
  wpAny (model X.prog X.w) X.A (f v) (EP X J Y Q) X.xe s
abbrev CallR (X:Cx)(f:Hu)(r:Hr V->Hp->VK->Prop):Prop:=
 ∀(J:Hr (HD×JJ)) (s:Hw) (Y:St) (H:Hp) (xs:Hr V) (us:Hr Hu) (Q:VK),Inv X J Y H s->Vals xs us->r xs H Q->
  wpAny (model X.prog X.w) X.A (call f us) (EP X J Y Q) X.xe s
abbrev FV (X:Cx)(r:V->Hp->(Il->Hp->Prop)->Prop):Prop:=
 ∀(J:Hr (HD×JJ)) (s:Hw) (Y:St) (H:Hp) (x:V) (v:Hu) (Q:Il->Hp->Prop),Inv X J Y H s->RelV x v->r x H Q->
  wpAny (model X.prog X.w) X.A (truthy v) (TP X J Y Q) X.xe s
abbrev Fi (r:R2)(ta tb:TE):TE:=λY H Q=>ta Y H λx H1=>tb Y H1 λy H2=>r x y H2 Q
abbrev Ha (r:V->Hp->VK->Prop)(ta:TE):TE:=λY H Q=>ta Y H λx H1=>r x H1 Q
abbrev rI (C:HM->HM->Prop)(g:HM->HM->V):R2:=λx y H Q=>∃i j,x=.int i/\y=.int j/\C i j/\Q (g i j) H
abbrev AL (g:HM->HM->V):R2:=λx y H Q=>∃i j,x=.int i/\y=.int j/\Q (g i j) H
abbrev rU (g:HM->V):V->Hp->VK->Prop:=λx H Q=>∃i,x=.int i/\Q (g i) H
section
variable{X:Cx}{a b c:Ii}{ta tb tc:TE}{pos:Kr}
def BK (ha:PE X a ta)(hb:PE X b tb){J:Hr (HD×JJ)}{s:Hw}{Y:St}{H:Hp}{R:V->V->Hp->Prop}(I:Inv X J Y H s)
  (h:ta Y H λx H1=>tb Y H1 λy H2=>R x y H2) {Q:Hu->Hw->Prop} {f:Hu->Hu->QP Hu}
  (hf:∀v u s2 x y H2,Inv X J Y H2 s2->RelV x v->RelV y u->R x y H2->wpAny (model X.prog X.w) X.A (f v u) Q X.xe s2) :
  wpAny (model X.prog X.w) X.A (eval a X.env) (λv s₁=>wpAny (model X.prog X.w) X.A (eval b X.env) (λu s₂=>wpAny (model X.prog X.w) X.A (f v u) Q X.xe s₂) X.xe s₁) X.xe s:=by
 refine bf (ha J s Y H _ I h) λv s1 #[x,H1,I1,r1,q1]=>?_
 refine bf (hb J s1 Y H1 _ I1 q1) λu s2 #[y,H2,I2,r2,q2]=>?_
 exact hf v u s2 x y H2 I2 r1 r2 q2
def DL {op:OD}{r:R2}(ho:OpR X (binaryOp op) r)(ha:PE X a ta)(hb:PE X b tb):PE X (.BinOp a op b pos) (Fi r ta tb):=by
 intro J s Y H Q I h;exact wpAny_BinOp (BK ha hb I h λv u s2 x y H2 I2 rx ry q=>ho J s2 Y H2 x y v u Q I2 rx ry q)
def DM {op:UnaryOp}{r:V->Hp->VK->Prop}(ho:FU X (unaryOp op) r)(ha:PE X a ta):PE X (.UnaryOp op a pos) (Ha r ta):=by
 intro J s Y H Q I h;exact UnaryOp_ (bf (ha J s Y H _ I h) λv s1 #[x,H1,I1,r1,q1]=>ho J s1 Y H1 x v Q I1 r1 q1)
def Fj {f:Hu->Hu->QP Hu}{C:HM->HM->Prop}{g:HM->HM->HM}
  (rule:∀(i j:HM) (t u:RC) (s:Hw) (Q:Hu->Hw->Prop) (E:Hu->Hw->Prop),C i j->Q (.int (g i j) s.toks) { s with toks:=s.toks+1 }->wpAny (model X.prog X.w) X.A (f (.int i t) (.int j u)) Q E s) :
  OpR X f (rI C λi j=>.int (g i j)):=by
 intro J s Y H x y v u Q I rx ry h;obtain⟨i,j,rfl,rfl,hc,q⟩:=h;obtain⟨t,rfl⟩:=rx;obtain⟨t',rfl⟩:=ry;exact rule i j t t' s _ _ hc #[.int (g i j),H,I.tok _,#[_,rfl],q]
def DN {f:Hu->Hu->QP Hu}{g:HM->HM->HM}
  (rule:∀(i j:HM) (t u:RC) (s:Hw) (Q:Hu->Hw->Prop) (E:Hu->Hw->Prop),Q (.int (g i j) s.toks) { s with toks:=s.toks+1 }->wpAny (model X.prog X.w) X.A (f (.int i t) (.int j u)) Q E s) :
  OpR X f (AL λi j=>.int (g i j)):=by
 intro J s Y H x y v u Q I rx ry h;obtain⟨i,j,rfl,rfl,q⟩:=h;obtain⟨t,rfl⟩:=rx;obtain⟨t',rfl⟩:=ry;exact rule i j t t' s _ _ #[.int (g i j),H,I.tok _,#[_,rfl],q]
def yw {f:Hu->Hu->QP Hu}{g:HM->HM->Il}
  (rule:∀(i j:HM) (t u:RC) (s:Hw) (Q:Hu->Hw->Prop) (E:Hu->Hw->Prop),Q (.bool (g i j)) s->wpAny (model X.prog X.w) X.A (f (.int i t) (.int j u)) Q E s) :
  OpR X f (AL λi j=>.bl (g i j)):=by
 intro J s Y H x y v u Q I rx ry h;obtain⟨i,j,rfl,rfl,q⟩:=h;obtain⟨t,rfl⟩:=rx;obtain⟨t',rfl⟩:=ry;exact rule i j t t' s _ _ #[.bl (g i j),H,I,rfl,q]
abbrev FW (i j:HM):Prop:=0 < j/\j < 1073741824
abbrev FX (i j:HM):Prop:=0<=j/\j<=1000000/\i.natAbs < 2 ^ 64
abbrev CMul (i j:HM):Prop:=(-(2 ^ 64) < i/\i < 2 ^ 64)\/(-(2 ^ 64) < j/\j < 2 ^ 64)
def CMul.ok {i j:HM}(h:CMul i j):IntMulOk i j:=by
 rcases h with⟨h1,h2⟩|⟨h1,h2⟩
 ·exact .of_left (P5 h1 h2)
 ·exact .of_right (P5 h1 h2)
def BL:OpR X (binaryOp .Add) (AL λi j=>.int (i+j)):=DN λ_ _ _ _ _ _ _ q=>add_int q
def BM:OpR X (binaryOp .Sub) (AL λi j=>.int (i - j)):=DN λ_ _ _ _ _ _ _ q=>sub_int q
def BN:OpR X (binaryOp .Mult) (rI CMul λi j=>.int (i*j)):=Fj λ_ _ _ _ _ _ _ hc q=>mul_int q hc.ok
def yy:OpR X (binaryOp .FloorDiv) (rI FW λi j=>.int (i / j)):=Fj λi j _ _ _ _ _ hc q=>by
 have h1:(0:HM) < j:=hc.1;have h2:j < 1073741824:=hc.2;exact floordiv_int ∅ (by rw[Int.fdiv_eq_ediv_of_nonneg i ∅]; exact q) (.inl (PyProof.noPylong_small ∅))
def BO:OpR X (binaryOp .Mod) (rI (λ_ j=>0 < j) λi j=>.int (i % j)):=Fj λi j _ _ _ _ _ hc q=>by
 have h1:(0:HM) < j:=hc;exact mod_int' ∅ (by rw[Int.fmod_eq_emod_of_nonneg i ∅]; exact q)
def BP:OpR X (binaryOp .Pow) (rI FX λi j=>.int (i ^ j.toNat)):=Fj λ_ _ _ _ _ _ _ hc q=>pow_int_small hc.1 hc.2.1 hc.2.2 q
def Hb {f:Hu->QP Hu}{g:HM->HM}
  (rule:∀(i:HM) (t:RC) (s:Hw) (Q:Hu->Hw->Prop) (E:Hu->Hw->Prop),Q (.int (g i) s.toks) { s with toks:=s.toks+1 }->wpAny (model X.prog X.w) X.A (f (.int i t)) Q E s) :
  FU X f (rU λi=>.int (g i)):=by
 intro J s Y H x v Q I rx h;obtain⟨i,rfl,q⟩:=h;obtain⟨t,rfl⟩:=rx;exact rule i t s _ _ #[.int (g i),H,I.tok _,#[_,rfl],q]
def BQ:FU X (unaryOp .USub) (rU λi=>.int (-i)):=Hb λ_ _ _ _ _ q=>neg_int q
end
section
variable{X:Cx}{a b c:Ii}{ta tb tc:TE}{pos:Kr}
def uQ {J:Hr (HD×JJ)}{Y:St}{H:Hp}{s:Hw}{Q:VK}{k k':Il}(I:Inv X J Y H s)(q:Q (.bl k) H)(e:k=k'):EP X J Y Q (.bool k') s:=by
 subst e;exact#[.bl k,H,I,rfl,q]
def DO:OpR X (compareOp .Lt) (AL λi j=>.bl (decide (i < j))):=yw λ_ _ _ _ _ _ _ q=>lt_int q
def DP:OpR X (compareOp .LtE) (AL λi j=>.bl (decide (i<=j))):=yw λ_ _ _ _ _ _ _ q=>le_int q
def DQ:OpR X (compareOp .Gt) (AL λi j=>.bl (decide (j < i))):=yw λ_ _ _ _ _ _ _ q=>gt_int q
def DR:OpR X (compareOp .GtE) (AL λi j=>.bl (decide (j<=i))):=yw λ_ _ _ _ _ _ _ q=>ge_int q
def BR:OpR X (compareOp .Is) (λx y H Q=>y=.non/\Q (.bl (decide (x=.non))) H):=by
 intro J s Y H x y v u Q I rx ry h;obtain⟨rfl,q⟩:=h;cases ry;refine is_none_gen (uQ I q ?_);cases x <;> first
  | (cases rx; rfl)
  | (obtain⟨t,rfl⟩:=rx; rfl)
def yz:OpR X (compareOp .IsNot) (λx y H Q=>y=.non/\Q (.bl (!decide (x=.non))) H):=by
 intro J s Y H x y v u Q I rx ry h;obtain⟨rfl,q⟩:=h;cases ry;refine isnot_none_gen (uQ I q ?_);cases x <;> first
  | (cases rx; rfl)
  | (obtain⟨t,rfl⟩:=rx; rfl)
def yA {op:Qp}{r:R2}(ho:OpR X (compareOp op) r)(ha:PE X a ta)(hb:PE X b tb)(hm:behindInMarks op b=false):PE X (.Compare a [op] [b] pos) (Fi r ta tb):=by
 intro J s Y H Q I h;exact wpAny_Compare1 (BK ha hb I h λv u s2 x y H2 I2 rx ry q=>ho J s2 Y H2 x y v u Q I2 rx ry q) hm
abbrev DS (t:TE):TT:=λY H Q=>t Y H λx H'=>∃k,x=.bl k/\Q k H'
def yB {op:Qp}{r:R2}(ho:OpR X (compareOp op) r)(ha:PE X a ta)(hb:PE X b tb)(hm:behindInMarks op b=false):PT X (.Compare a [op] [b] pos) (DS (Fi r ta tb)):=by
 intro J s Y H Q I h;refine wpAny_isTrue_Compare1 (bf (ha J s Y H _ I h) λv s1 #[x,H1,I1,r1,q1]=>bf (hb J s1 Y H1 _ I1 q1) λu s2 #[y,H2,I2,r2,q2]=>
  bf (ho J s2 Y H2 x y v u _ I2 r1 r2 q2) λc s3 #[z,H3,I3,r3,k,e,q3]=>?_) hm
 subst e;cases r3;exact Ki #[H3,I3,q3]
abbrev FY (K:HG)(x:V)(H:Hp)(k:Il):Prop:=
 match x with
 | .non=>k=false
 | .bl b=>k=b
 | .int i=>k=(i != 0)
 | .str y=>y.length<=sizeLine/\k=((y.length:HM) != 0)
 | .byt y=>y.size<=sizeLine/\k=((y.size:HM) != 0)
 | .ref p=>(∃xs,SqL K H p xs/\k = !xs.isEmpty)\/(∃xs,SqT K H p xs/\k = !xs.isEmpty)\/∃U,H p=ba (.dK U)/\k = !U.isEmpty
 | _=>Jt
def pO {κ:Type}{U:Hr (κ×V)}{vs:Hr (κ×Hu)}(r:KV U vs):(!vs.isEmpty) = !U.isEmpty:=by
 cases r <;> rfl
def jn {xs:Hr V}{its:Hr Hu}(r:Vals xs its):(!its.toArray.isEmpty) = !xs.isEmpty:=by
 cases r <;> simp
def ip:(sizeLine:HB) < 2 ^ 63:=by rw[IX]; decide
def BS:FV X (λx H Q=>∃k,FY X.K x H k/\Q k H):=by
 intro J s Y H x v Q I rx h;obtain⟨k,e,q⟩:=h;have hl:=ip;have hs:sizeLine=16777216:=IX;cases x with
 | non=>
  cases rx;have e':k=false:=e;subst e';exact truthy_none #[H,I,q]
 | bl b=>
  cases rx;have e':k=b:=e;subst e';exact Ki #[H,I,q]
 | int i=>
  obtain⟨t,rfl⟩:=rx;have e':k=(i != 0):=e;subst e';exact PySem.P.truthy_int #[H,I,q]
 | str y=>
  obtain⟨t,rfl⟩:=rx;obtain⟨hy,e'⟩ : y.length<=sizeLine/\k=((y.length:HM) != 0):=e;subst e';exact PySem.P.truthy_str ∅ #[H,I.tok _,q]
 | byt y=>
  obtain⟨t,rfl⟩:=rx;obtain⟨hy,e'⟩ : y.size<=sizeLine/\k=((y.size:HM) != 0):=e;subst e';exact PySem.W.truthy_bytes ∅ #[H,I.tok _,q]
 | ref p=>
  cases rx;have e':(∃xs,SqL X.K H p xs/\k = !xs.isEmpty)\/(∃xs,SqT X.K H p xs/\k = !xs.isEmpty)\/∃U,H p=ba (.dK U)/\k = !U.isEmpty:=e;rcases e' with⟨xs,hx,e'⟩|⟨xs,hx,e'⟩|⟨U,hx,e'⟩
  ·subst e';obtain⟨its,r,pl,hz⟩:=I.list hx;have hlen:=r.length;exact wpAny_truthy_list pl.isList (by simp only[HL]; omega) #[H,I.tok _,by rw[jn r]; exact q]
  ·subst e';obtain⟨its,r,pl,hz⟩:=I.tuple hx;have hlen:=r.length;exact truthy_tuple pl (by simp only[HL]; omega) #[H,I.tok _,by rw[jn r]; exact q]
  ·subst e';obtain⟨hz,hS,vs,r,m⟩ : U.length<=sizeLine/\(p==sysModules)=false/\∃vs,KV U vs/\s.heap.DictOf (lK X.prog X.w) p vs:=I.hok p _ hx;have hlen:U.length=vs.length:=M3 r;exact wpAny_truthy_dict hS m ∅ #[H,I.tok _,by rw[pO r]; exact q]
 | _=>exact(show Jt from e).elim
def pP:OpR X (binaryOp .Add) (λx y H Q=>∃i j,x=.str i/\y=.str j/\i.length+j.length<=sizeLine/\Q (.str (i++j)) H):=by
 intro J s Y H x y v u Q I rx ry h;obtain⟨i,j,rfl,rfl,hz,q⟩:=h;obtain⟨t,rfl⟩:=rx;obtain⟨t',rfl⟩:=ry;exact add_str (λt' tk=>#[.str (i++j),H,I.tok _,#[_,rfl],q]) hz
def kI {x:V}{us:Hr Hu}(r:Vals [x] us):∃u,us=[u]/\RelV x u:=by
 cases r with
 | cons r1 r2=>cases r2; exact#[_,rfl,r1]
def kJ:CallR X (.type "int") (λxs H Q=>(∃i,xs=[.int i]/\Q (.int i) H)\/∃k,xs=[.bl k]/\Q (.int (if k then 1 else 0)) H):=by
 intro J s Y H xs us Q I r h;rcases h with⟨i,rfl,q⟩|⟨k,rfl,q⟩
 ·obtain⟨u,rfl,t,rfl⟩:=kI r;exact call_int_int #[.int i,H,I,#[_,rfl],q]
 ·obtain⟨u,rfl,r1⟩:=kI r;cases r1;exact call_int_bool #[.int (if k then 1 else 0),H,I.tok _,#[_,rfl],q]
abbrev FZ (K:HG)(x:V)(H:Hp)(n:HB):Prop:=
 match x with
 | .str y=>y.length<=sizeLine/\n=y.length
 | .byt y=>y.size<=sizeLine/\n=y.size
 | .ref p=>(∃xs,SqL K H p xs/\n=xs.length)\/∃xs,SqT K H p xs/\n=xs.length
 | _=>Jt
def jo:CallR X (.builtin "len") (λxs H Q=>∃x n,xs=[x]/\FZ X.K x H n/\Q (.int n) H):=by
 intro J s Y H xs us Q I r h;obtain⟨x,n,rfl,e,q⟩:=h;obtain⟨u,rfl,rx⟩:=kI r;have hl:=ip;have hs:sizeLine=16777216:=IX;cases x with
 | str y=>
  obtain⟨t,rfl⟩:=rx;obtain⟨hy,e'⟩ : y.length<=sizeLine/\n=y.length:=e;subst e';exact len_str ∅ #[.int _,H,I.tok _,#[_,rfl],q]
 | byt y=>
  obtain⟨t,rfl⟩:=rx;obtain⟨hy,e'⟩ : y.size<=sizeLine/\n=y.size:=e;subst e';exact PySem.W.len_bytes ∅ #[.int _,H,I.tok _,#[_,rfl],q]
 | ref p=>
  cases rx;have e':(∃xs,SqL X.K H p xs/\n=xs.length)\/∃xs,SqT X.K H p xs/\n=xs.length:=e;rcases e' with⟨xs,hx,e'⟩|⟨xs,hx,e'⟩
  ·subst e';obtain⟨its,r',pl,hz⟩:=I.list hx;have hlen:=r'.length;exact Calls.call_len_list pl.isList (by simp only[HL]; omega) #[.int xs.length,H,I.tok _,#[_,by simp only[HL]; rw[hlen]],q]
  ·subst e';obtain⟨its,r',pl,hz⟩:=I.tuple hx;have hlen:=r'.length;exact len_tuple pl (by simp only[HL]; omega) #[.int xs.length,H,I.tok _,#[_,by simp only[HL]; rw[hlen]],q]
 | _=>exact(show Jt from e).elim
end
structure Room (k:HB)(A:IB):Prop where
 hd:A.handled=gV
 dp:A.depth+3*k+5 < recursionLimit
 un:A.units+16*k+200 < cLine
def Room.deeper {k:HB}{A:IB}(r:Room (k+1) A)(env:OA):Room k (A.deeper env):=
 #[r.hd,by have:=r.dp; show A.depth+1+3*k+5 < _; omega,by have:=r.un; show A.units+3+16*k+200 < _; omega]
def Room.depth {k:HB}{A:IB}(r:Room k A):A.depth < recursionLimit:=by have:=r.dp; omega
abbrev DT:TA:=λ_ H Q=>Q [] H
abbrev DU (ta:TE)(tr:TA):TA:=λY H Q=>ta Y H λx H1=>tr Y H1 λxs H2=>Q (x::xs) H2
section
variable{X:Cx}{e:Ii}{es:Hr Ii}{te:TE}{t:TA}{pos:Kr}
def uR:PA X [] DT:=λ_ _ _ _ H Q I h=>Calls.spliced_nil #[[],H,I,.nil,h]
def lM (ha:PE X e te)(hr:PA X es t)(hs:starEach (e::es) X.env=(false,eval e X.env)::starEach es X.env:=by rfl):PA X (e::es) (DU te t):=by
 intro pos J s Y H Q I h;rw[hs];show wpAny _ _ (spliced ((false,eval e X.env)::backTo pos (starEach es X.env))) _ _ s;refine Calls.spliced_cons (bf (ha J s Y H _ I h) λu s1 #[x,H1,I1,r1,q1]=>?_)
 exact bf (hr pos J s1 Y H1 _ I1 q1) λus s2 #[xs,H2,I2,r2,q2]=>#[x::xs,H2,I2,.cons r1 r2,q2]
abbrev F0 (t:TA):TE:=λY H Q=>t Y H λxs H1=>xs.length<=sizeLine/\∀p,H1 p=gV->Q (.ref p) (bc H1 p (.tup xs))
abbrev F1 (t:TA):TE:=λY H Q=>t Y H λxs H1=>xs.length<=sizeLine/\∀p,H1 p=gV->Q (.ref p) (bc H1 p (.lst xs))
def BU {x1}(h:PA X es t):PE X (.Tuple es x1 pos) (F0 t):=by
 intro J s Y H Q I hq;refine wpAny_Tuple_spliced (bf (h pos J s Y H _ I hq) λus s1 #[xs,H1,I1,r,z,q]=>#[by rw[<- r.length]; exact z,?_])
 have hf:H1 s1.heap.objs.size=gV:=I1.hok.fresh (HE _);refine#[.ref s1.heap.objs.size,bc H1 s1.heap.objs.size (.tup xs),I1.laid (t':=s1.toks) (λb u e=>Ht _ e) (HE _) ?_,rfl,q _ hf]
 exact#[z,us,r,#[_,HI _ rfl,rfl,_,rfl]]
def BV (h:PA X es t):PE X (.List es pos) (F1 t):=by
 intro J s Y H Q I hq;refine wpAny_List_spliced (bf (h pos J s Y H _ I hq) λus s1 #[xs,H1,I1,r,z,q]=>#[by rw[<- r.length]; exact z,?_])
 have hf:H1 s1.heap.objs.size=gV:=I1.hok.fresh (HE _);refine#[.ref s1.heap.objs.size,bc H1 s1.heap.objs.size (.lst xs),I1.laid (t':=s1.toks) (λb u e=>Ht _ e) (HE _) ?_,rfl,q _ hf]
 exact#[z,us,0,r,HI _ rfl]
end
noncomputable abbrev Sp:=Hr V->Hp->VK->XK->Prop
noncomputable abbrev uS:=Hr OA->Hp->Hw->XK->Hu->Hw->Prop
structure Env0 (P:Iw)(w:IE)(K:HG)(mg:HY->HA Hu)(base:IJ)(A:IB)(outer:Hr OA)(s:Hw)(H:Hp):Prop where
 frames:A.frames=ba outer
 mod:Mod K mg base
 bs:∀b o,base.get? b=ba o->s.heap.get? b=ba o/\H b=gV
 bsz:base.objs.size<=s.heap.objs.size
 funs:s.heap.FunFrames base outer
 frf:∀b∈pL outer,H b=gV
 hok:HOk P w H s.heap
 bare:MW s.gens
abbrev CE (outer:Hr OA)(P:Iw)(w:IE)(H:Hp)(s:Hw)(Q:VK)(u:Hu)(s':Hw):Prop:=
 ∃v H',s'.os=s.os/\MW s'.gens/\Un (pL outer) [] H H' s.heap s'.heap/\HOk P w H' s'.heap/\RelV v u/\Q v H'
abbrev CR (CX:uS)(outer:Hr OA)(P:Iw)(w:IE)(H:Hp)(s:Hw)(Q:VK)(E:XK)(r:OZ)(s':Hw):Prop:=
 match r with
 | .ok (.ret u)=>CE outer P w H s Q u s'
 | .ok _=>Jt
 | .error e=>CX outer H s E e s'
structure FnOk (P:Iw)(w:IE)(K:HG)(mg:HY->HA Hu)(base:IJ)(CX:uS)(k:HB)(f:HD)(fd:Ks)(ps:Hr HY)(sp:Sp):Prop where
 len:∀vs H Q E,sp vs H Q E->vs.length=ps.length
 run:∀(A:IB) (outer:Hr OA) (s:Hw) (H:Hp) (args:Args) (us:Hr Hu) (vs:Hr V) (Q:VK) (E:XK),Room k A->Env0 P w K mg base A outer s H->OE s fd args (ps.zip us)->Vals vs us->sp vs H Q E->
  codeAny (model P w) A (.call (.ref f) args) (CR CX outer P w H s Q E) s
section
variable{X:Cx}{J:Hr (HD×JJ)}{Y:St}{H:Hp}{s s':Hw}
def Inv.env0 (I:Inv X J Y H s):Env0 X.prog X.w X.K X.mg X.base X.A X.stack s H:=
 #[I.ok.frames,I.ok.mod,I.bs,ID I.ok.bsz I.sz,I.stack,I.stkFree,I.hok,I.bare]
def Inv.after {Q:VK}{u:Hu}(I:Inv X J Y H s)(h:CE X.stack X.prog X.w H s Q u s'):EP X J Y Q u s':=by
 obtain⟨v,H',os,bare,un,hok,r,q⟩:=h;obtain⟨hh,g,d,t,os'⟩:=s';obtain rfl:os'=s.os:=os;exact#[v,H',I.call (h':=hh) (g':=g) (d':=d) (t':=t) (ch:=[]) un hok bare (λb z=>absurd z (by simp)),r,q]
end
abbrev uT (sp:Sp)(dvs:Hr V)(E:XK)(t:TA):TE:=λY H Q=>t Y H λvs H1=>sp (vs++dvs) H1 Q E
abbrev Binds (K:HG)(fd:Ks)(ps:Hr HY)(ds:Hr Hu):Prop:=
 ∀(s:Hw) (us:Hr Hu),K.In s.heap->(us++ds).length=ps.length->OE s fd #[us,[]] (ps.zip (us++ds))
def Binds.all {K:HG}{fd:Ks}{ps:Hr HY}(h:∀us:Hr Hu,us.length=ps.length->bindArgs fd #[us,[]]=pure (ps.zip us)):Binds K fd ps []:=λs us _ hl=>by
 rw[Jp]at hl ⊢;exact .of_eq (h us hl)
abbrev lN (CX:uS)(X:Cx)(E:XK):Prop:=∀(J:Hr (HD×JJ)) (Y:St) (H:Hp) (s:Hw) (e:Hu) (s':Hw),Inv X J Y H s->CX X.stack H s E e s'->X.xe e s'
section
variable{X:Cx}{CX:uS}{k:HB}{f C:HD}{fd:Ks}{ps:Hr HY}{sp:Sp}{dvs:Hr V}{ds:Hr Hu}{E:XK}{x m:HY}{p pos apos:Kr}{e o:Ii}{es:Hr Ii}{ta:TE}{t:TA}
def uU {J:Hr (HD×JJ)}{Y:St}{H:Hp}{s:Hw}{Q:VK}{us:Hr Hu}{vs:Hr V}(F:FnOk X.prog X.w X.K X.mg X.base CX k f fd ps sp)(hr:Room k X.A)(hb:Binds X.K fd ps ds)(hd:Vals dvs ds)(hx:lN CX X E)
  (I:Inv X J Y H s) (r:Vals vs us) (h:sp (vs++dvs) H Q E):wpAny (model X.prog X.w) X.A (call (.ref f) us) (EP X J Y Q) X.xe s:=by
 have r2:Vals (vs++dvs) (us++ds):=r.append hd;have hl:(us++ds).length=ps.length:=by rw[<- r2.length]; exact F.len _ _ _ _ h
 refine PB (K5 (F.run X.A X.stack s H #[us,[]] (us++ds) (vs++dvs) Q E hr I.env0 (hb s us I.kIn hl) r2 h) λr s' hq=>?_)
 cases r with
 | error e=>exact hx J Y H s e s' I hq
 | ok fl=>
  cases fl with
  | ret u=>exact I.after hq
  | next=>exact Jt.elim hq
  | brk=>exact Jt.elim hq
  | cont=>exact Jt.elim hq
def yC (F:FnOk X.prog X.w X.K X.mg X.base CX k f fd ps sp)(hr:Room k X.A)(hg:Gl X x)(hm:X.mg x=ba (.ref f))(hk:JC X.K (.ref f)=true)(hb:Binds X.K fd ps ds)(hd:Vals dvs ds)(hx:lN CX X E)
  (ha:PA X (e::es) t) (hdb:(x==("__debug__" : HY))=false:=by decide) (he:starEach (e::es) X.env=(false,eval e X.env)::starEach es X.env:=by rfl) (hpl:(backTo pos (starEach es X.env)).any (·.1)=false:=by rfl) :
  PE X (.Call (.Name x p) (e::es) [] pos) (uT sp dvs E t):=by
 intro J s Y H Q I h;refine LI (qO I hg hm ?_ hdb);refine PySem.W.callWith_K (h₀:=X.base) I.ok.mod.kin hk (bf (ha pos J s Y H _ I h) λus s1 #[vs,H1,I1,r,q]=>#[I1.kIn,?_]) he hpl
 exact uU F hr hb hd hx I1 r q
def uV (F:FnOk X.prog X.w X.K X.mg X.base CX k f fd ps sp)(hr:Room k X.A)(hg:Gl X x)(hm:X.mg x=ba (.ref f))(hk:JC X.K (.ref f)=true)(hb:Binds X.K fd ps ds)(hd:Vals dvs ds)(hx:lN CX X E)
  (hdb:(x==("__debug__" : HY))=false:=by decide):PE X (.Call (.Name x p) [] [] pos) (uT sp dvs E DT):=by
 intro J s Y H Q I h;refine LI (qO I hg hm ?_ hdb);exact PySem.W.callWith_K0 I.kIn hk (uU (us:=[]) F hr hb hd hx I .nil h)
end
structure FnScope (N P:Hr HY)(sc:Ld):Prop where
 kind:sc.kind=.function
 co:sc.isCoroutine=false
 gen:sc.isGenerator=false
 nd:N.Nodup
 pre:N.take P.length=P
 par:∀x∈P,sc.names.lookup x=ba .local\/sc.names.lookup x=ba .cell
 nofree:∀y∈sc.names,y.2≠.free
def kK {kindOf:HY->HA J2}{x:HY}:∀ {binds:Hr (HY×Hu)} {m:HY->HA Hu},(∀v,(x,v)∉binds)->bindL kindOf binds m x=m x
 | [],_,_=>rfl
 | (n,v)::r,m,h=>by
  unfold bindL;rw[kK λw hw=>h w (Ji _ hw)]
  split
  ·have:x≠n:=by rintro rfl; exact h v Jm
   simp[this]
  ·rfl
def kL {kindOf:HY->HA J2}{x:HY}:∀ {binds:Hr (HY×Hu)} {m:HY->HA Hu},(∀v,(x,v)∉binds)->bindC kindOf binds m x=m x
 | [],_,_=>rfl
 | (n,v)::r,m,h=>by
  unfold bindC;rw[kL λw hw=>h w (Ji _ hw)]
  split
  ·rfl
  ·have:x≠n:=by rintro rfl; exact h v Jm
   simp[this]
def kM {kindOf:HY->HA J2}{x:HY}{v:Hu}:∀ {P:Hr HY} {vs:Hr Hu} {i:HB} {m:HY->HA Hu},P.Nodup->P[i]?=ba x->vs[i]?=ba v->kindOf x=ba .local->
  bindL kindOf (P.zip vs) m x=ba v
 | [],_,_,_,_,h,_,_=>by simp at h
 | _::_,[],_,_,_,_,h,_=>by simp at h
 | p::P,w::vs,0,m,nd,h1,h2,hk=>by
  simp at h1 h2; subst h1; subst h2
  show bindL kindOf ((p,w)::P.zip vs) m p=_;unfold bindL;rw[kK λv hv=>(KC.mp nd).1 (Nq hv).1,Ic hk]
  simp
 | p::P,w::vs,i+1,m,nd,h1,h2,hk=>by
  show bindL kindOf ((p,w)::P.zip vs) m x=_;unfold bindL;exact kM (i:=i) (KC.mp nd).2 (by simpa using h1) (by simpa using h2) hk
def kN {kindOf:HY->HA J2}{x:HY}{v:Hu}:∀ {P:Hr HY} {vs:Hr Hu} {i:HB} {m:HY->HA Hu},P.Nodup->P[i]?=ba x->vs[i]?=ba v->kindOf x≠ba .local->
  bindC kindOf (P.zip vs) m x=ba v
 | [],_,_,_,_,h,_,_=>by simp at h
 | _::_,[],_,_,_,_,h,_=>by simp at h
 | p::P,w::vs,0,m,nd,h1,h2,hk=>by
  simp at h1 h2; subst h1; subst h2
  show bindC kindOf ((p,w)::P.zip vs) m p=_;unfold bindC;rw[kL λv hv=>(KC.mp nd).1 (Nq hv).1,Im hk]
  simp
 | p::P,w::vs,i+1,m,nd,h1,h2,hk=>by
  show bindC kindOf ((p,w)::P.zip vs) m x=_;unfold bindC;exact kN (i:=i) (KC.mp nd).2 (by simpa using h1) (by simpa using h2) hk
abbrev eW (N:Hr HY)(vs:Hr V):St:=vs.map ba++II (N.length - vs.length) gV
abbrev pQ (CX:uS)(P:Iw)(w:IE)(K:HG)(mg:HY->HA Hu)(base:IJ)(N:Hr HY)(qual:HY)(scope:Ld)(f:HD)(cd:Hu)(A:IB)(outer:Hr OA)(s:Hw)(H:Hp)(E:XK):Cx where
 prog:=P
 w:=w
 K:=K
 mg:=mg
 base:=base
 A:=A.deeper (envOfC qual scope s.heap.objs.size f cd)
 N:=N
 s₀:=s
 H₀:=H
 env:=envOfC qual scope s.heap.objs.size f cd
 outer:=outer
 stack:=envOfC qual scope s.heap.objs.size f cd::outer
 ex:=[]
 calm:=true
 fn:=λ_=>true
 pn:=[]
 xe:=λe s'=>wpAny (model P w) (A.deeper (envOfC qual scope s.heap.objs.size f cd)) (leaving (envOfC qual scope s.heap.objs.size f cd) e) (λ_ s''=>CX outer H s E e s'') (λe' s''=>CX outer H s E e' s'') s'
def nj {sc:Ld}{n:HB}{x:HY}(h:sc.names.lookup x=ba .cell):∃c,(cellsFrom n sc.names []).lookup x=ba c:=by
 have q:=Ni sc.names n [] (.inl h);exact Jh.mp q
def sJ {CX:uS}{P:Iw}{w:IE}{K:HG}{mg:HY->HA Hu}{base:IJ}{N ps:Hr HY}{qual:HY}{scope:Ld}{f:HD}{cd:Hu}{A:IB}{outer:Hr OA}{s s1:Hw}{H:Hp}{E:XK}{us:Hr Hu}{vs:Hr V}
  (S:FnScope N ps scope) (hd:A.handled=gV) (e0:Env0 P w K mg base A outer s H) (hl:vs.length=ps.length) (r:Vals vs us)
  (x:InCallC s s.heap.objs.size (bindL (envOfC qual scope s.heap.objs.size f cd).kindOf (ps.zip us) λ_=>gV) (cellsFrom (s.heap.objs.size+1) scope.names []) (bindC (envOfC qual scope s.heap.objs.size f cd).kindOf (ps.zip us) λ_=>gV) s1) :
  Inv (pQ CX P w K mg base N qual scope f cd A outer s H E) [] (eW N vs) H s1:=by
 have hpl:ps.length<=N.length:=by have:=congrArg QE S.pre; rw[Jj]at this; omega
 obtain⟨h1,tk,rfl,hk⟩:=x.done;have noA:∀b:HD,b∉(pQ CX P w K mg base N qual scope f cd A outer s H E).ex:=λb z=>absurd (show b∈([]:Hr HD)from z) (by simp)
 refine#[#[e0.mod,S.kind,rfl,rfl,HE _,λy z c h1 h2=>?_,λy hy=>?_,λy c _ h=>?_,λ_=>hd,Around.frames_deeper e0.frames,.inr #[rfl,rfl],λb z=>absurd z (noA b),e0.bs,e0.bsz,λb _ _=>noA b,λb z=>absurd z (noA b),e0.funs,e0.frf],
  rfl,e0.bare,Un.kept hk,#[_,x.toInCall.ns,λi y v h1 h2 h3=>?_],λy c h=>#[_,x.cell y c h],e0.hok.fresh (HE _),λy c h=>?_,λp hp=>absurd (show p∈([]:Hr (HD×JJ))from hp) (by simp),e0.hok.kept hk,?_]
 ·exact name_of_addr x.apart (KP h1) (KP h2)
 ·have hy:scope.names.lookup y=ba .cell\/scope.names.lookup y=ba .free:=hy;rcases hy with hy|hy
  ·exact nj hy
  ·exact absurd rfl (S.nofree _ (KP hy))
 ·exact K4 (x.above y c (KP h))
 ·have hi:i < vs.length:=by
   unfold eW at h2
   by_cases hi:i < vs.length
   ·exact hi
   ·rw[Kt (by simpa using hi)]at h2
    rw[List.getElem?_replicate]at h2;split at h2 <;> cases h2
  have ha:vs[i]?=ba v:=by
   unfold eW at h2;rw[IN (by simpa using hi),HF]at h2
   cases e:vs[i]? with
   | none=>rw[e]at h2; cases h2
   | some a=>rw[e]at h2; cases h2; rfl
  obtain⟨u,hu,rv⟩:=r.get ha;have hp:ps[i]?=ba y:=by
   rw[<- S.pre,List.getElem?_take_of_lt ∅]; exact h1
  have ndP:ps.Nodup:=by rw[<- S.pre]; exact S.nd.sublist (List.take_sublist _ _)
  refine#[u,rv,?_];rcases S.par y (HZ hp)with k|k
  ·exact .inl #[k,kM ndP hp hu k]
  ·obtain⟨c,e⟩:=nj (n:=s.heap.objs.size+1) k;refine .inr #[.inl k,c,e,?_];have q:=x.cell y c e;rw[kN ndP hp hu (by show scope.names.lookup y≠_; rw[k]; decide)]at q
   exact q
 ·exact e0.hok.fresh (K4 (x.above y c (KP h)))
 ·unfold eW;show _=N.length;rw[HK,Hv,NA];omega
def DV {CX:uS}{P:Iw}{w:IE}{K:HG}{mg:HY->HA Hu}{base:IJ}{k:HB}{f:HD}{name qual:HY}{params:Arguments}{body:Hr KO}{scope:Ld}{dV kV doc pm cdv ct oc:Hu}{an od:HA HD}
  {osl:Ik (HA Hu)} {N ps:Hr HY} {sp:Sp} (lk:K.lookup f=ba #[oc,od,.func (Ke name qual params body scope dV kV doc pm an cdv ct),osl]) (hcd:KR K cdv qual=true) (S:FnScope N ps scope)
  (len:∀vs H Q E,sp vs H Q E->vs.length=ps.length)
  (hbody:∀(A:IB) (outer:Hr OA) (s:Hw) (H:Hp) (vs:Hr V) (Q:VK) (E:XK),Room k (A.deeper (envOfC qual scope s.heap.objs.size f cdv))->sp vs H Q E->
   ∃t,PSs (pQ CX P w K mg base N qual scope f cdv A outer s H E) body t/\t { nx:=λ_ H'=>Q .non H',rt:=Q } (eW N vs) H) :
  FnOk P w K mg base CX (k+1) f (Ke name qual params body scope dV kV doc pm an cdv ct) ps sp:=by
 refine#[len,λA outer s H args us vs Q E hr e0 hb r hsp=>?_]
 have hl:=len _ _ _ _ hsp;have KX:K.In s.heap:=e0.mod.kin.keeps λb o e=>(e0.bs b o e).1
 have lim:s.heap.NoLimit:=e0.mod.nolimit.keeps λb o e=>(e0.bs b o e).1
 have hkind:∀y∈ps.zip us,scope.names.lookup y.1=ba .local\/(scope.names.lookup y.1=ba .cell/\((cellsFrom (s.heap.objs.size+1) scope.names []).lookup y.1).isSome=true):=λ#[n,v] hy=>by
  rcases S.par n (Nq hy).1 with q|q
  ·exact .inl q
  ·exact .inr #[q,Ni _ _ _ (.inl q)]
 refine codeAny_call_function hr.depth (KX _ _ lk) rfl S.co S.gen rfl (PySem.W.codeRec_of KX hcd) (hb _ _ _ _ ?_);refine wpAny_newFunctionEnv_cells S.kind hkind λenv he s1 x=>?_
 subst he;refine#[lim.keeps x.toInCall.keep,codeAny_func ?_];obtain⟨t,ht,hq⟩:=hbody A outer s H vs Q E (hr.deeper _) hsp;have I:Inv (pQ CX P w K mg base N qual scope f cdv A outer s H E) [] (eW N vs) H s1:=sJ S hr.hd e0 hl r x;refine J0 (ht [] s1 (eW N vs) H _ I hq) (λfl s' hs=>?_) λe s' hs=>hs
 have fin:∀ {Y':St} {H':Hp} {v:V} {u:Hu},Inv (pQ CX P w K mg base N qual scope f cdv A outer s H E) [] Y' H' s'->RelV v u->Q v H'->CE outer P w H s Q u s':=
  λ{Y' H' v u} td rv q=>#[v,H',td.os,td.bare,td.base,td.hok,rv,q]
 cases fl with
 | ret u=>
  obtain⟨v,Y',H',td,rv,q⟩:=hs;exact fin td rv q
 | next=>
  obtain⟨Y',H',td,q⟩:=hs;exact fin (v:=V.non) (u:=IP) td rfl q
 | brk=>
  obtain⟨_,_,_,q⟩:=hs;exact Jt.elim q
 | cont=>
  obtain⟨_,_,_,q⟩:=hs;exact Jt.elim q
section
variable{X:Cx}{x:HY}{p pos:Kr}{e:Ii}{es:Hr Ii}{t:TA}{id T:Jy}{r:Hr V->Hp->VK->Prop}
abbrev G1 (r:Hr V->Hp->VK->Prop)(t:TA):TE:=λY H Q=>t Y H λvs H1=>r vs H1 Q
def nk (hc:CallR X (.builtin id) r)(hg:Gl X x)(hm:X.mg x=gV)(hv:bootBuiltins x=ba (.builtin id))(ha:PA X (e::es) t)(hn:x≠"__name__":=by decide)(hdb:(x==("__debug__" : HY))=false:=by decide)
  (he:starEach (e::es) X.env=(false,eval e X.env)::starEach es X.env:=by rfl) (hpl:(backTo pos (starEach es X.env)).any (·.1)=false:=by rfl):PE X (.Call (.Name x p) (e::es) [] pos) (G1 r t):=by
 intro J s Y H Q I h;refine LI (gk I hg hm hv ?_ hn hdb);exact O0 (bf (ha pos J s Y H _ I h) λus s1 #[vs,H1,I1,r1,q1]=>hc J s1 Y H1 vs us Q I1 r1 q1) he hpl
def sK (hc:CallR X (.type T) r)(hg:Gl X x)(hm:X.mg x=gV)(hv:bootBuiltins x=ba (.type T))(ha:PA X (e::es) t)(hn:x≠"__name__":=by decide)(hdb:(x==("__debug__" : HY))=false:=by decide)
  (he:starEach (e::es) X.env=(false,eval e X.env)::starEach es X.env:=by rfl) (hpl:(backTo pos (starEach es X.env)).any (·.1)=false:=by rfl):PE X (.Call (.Name x p) (e::es) [] pos) (G1 r t):=by
 intro J s Y H Q I h;refine LI (gk I hg hm hv ?_ hn hdb);exact J3 (bf (ha pos J s Y H _ I h) λus s1 #[vs,H1,I1,r1,q1]=>hc J s1 Y H1 vs us Q I1 r1 q1) he hpl
end
end L2
namespace HT
open PySem PyProof.Rows
section
open PySem.SeqAt
open PySem.AutoSeq1 (wpAny_loadPart')
open PySem.MeetsSeq PySem.MeetsSeq2 PySem.MeetsSeq3
end
section
variable{prog:Iw}{w:IE}{A:IB}{E:Hu->Hw->Prop}{s:Hw}
def yD {t b:HD}{vs ws:Hr Hu}{Q:Hu->Hw->Prop}(ht:Oz s.heap t vs.toArray)(hb:Oz s.heap b ws.toArray)(hv:vs≠[])
  (h1:ws=[]->Q (.ref t) s) (h2:ws≠[]->Q (.ref s.heap.objs.size) { s with heap:=s.heap.push { cls:=.type "tuple",data:=.seq (vs++ws).toArray } })
  (hsz:vs.length+ws.length<=sizeLine):wpAny (model prog w) A (binaryOp .Add (.ref t) (.ref b)) Q E s:=by
 obtain⟨⟨cls,dd,data,sl⟩,ho,hc,n,hd⟩:=id ht;obtain⟨⟨cls2,dd2,data2,sl2⟩,ho2,hc2,n2,hd2⟩:=id hb;simp only at hc hd hc2 hd2;subst hc hd hc2 hd2;have e:vs.toArray++ws.toArray=(vs++ws).toArray:=by simp
 by_cases hw:ws=[]
 ·exact OF #[_,ho,rfl] #[_,ho2,rfl] Na Oa LQ LM (LC _ _)
   (tuple_addW1 t b vs.toArray ws.toArray n n2 dd dd2 sl sl2 (by simpa using hv) (by simp[hw])) #[ho,ho2,h1 hw]
 ·refine OF #[_,ho,rfl] #[_,ho2,rfl] Na Oa LQ LM (LC _ _)
   (tuple_addW2 t b vs.toArray ws.toArray n n2 dd dd2 sl sl2 (by simpa using hv) (by simpa using hw) (by rw[HL,HL]; exact hsz)) #[ho,ho2,?_]
  rw[e];exact h2 hw
abbrev bI (n d:HB):HA HM->HB
 | none=>d
 | some v=>if v < 0 then(v+(n:HM)).toNat else min v.toNat n
def nq (n d:HB):bI n d gV=d:=rfl
def qR (n d k:HB):bI n d (ba (k:HM))=min k n:=by
 show(if (k:HM) < 0 then((k:HM)+(n:HM)).toNat else min (k:HM).toNat n)=min k n
 rw[Im ∅,HU]
def BW (n d:HB)(hd:d<=n)(o:HA HM):bI n d o<=n:=by
 cases o with
 | none=>exact hd
 | some v=>
  show(if v < 0 then(v+(n:HM)).toNat else min v.toNat n)<=n
  by_cases hv:v < 0
  ·rw[Ic hv]; omega
  ·rw[Im hv]; exact Nat.min_le_right _ _
def qS (v:HM)(n d:HB):(if v < 0 then max (v+(n:HM)) 0 else min v (n:HM))=((bI n d (ba v):HB):HM):=by
 show(if v < 0 then max (v+(n:HM)) 0 else min v (n:HM))=(((if v < 0 then(v+(n:HM)).toNat else min v.toNat n):HB):HM)
 by_cases hv:v < 0
 ·simp only[Ic hv]; omega
 ·simp only[Im hv]; omega
def pR (lo hi:HA HM)(n:HB):Lv lo hi 1 (n:HM)=(((bI n 0 lo:HB):HM),((bI n n hi:HB):HM)):=by
 have h1:¬ ((1:HM) < 0):=∅
 unfold Lv;simp only[h1,Jn];refine QF ?_ ?_
 ·cases lo with
  | none=>rfl
  | some v=>exact qS v n 0
 ·cases hi with
  | none=>rfl
  | some v=>exact qS v n n
def pS (i j:HB):Ky (i:HM) (j:HM) 1=j - i:=by
 unfold Ky;have h1:(1:HM) > 0:=∅
 simp only[h1,JP,Int.ediv_one];split <;> omega
def jp {v:Hu}{o:HA HM}{Q:HA HM->Hw->Prop}(p:Mx v o)(h:Q o s):wpAny (model prog w) A (Po v) Q E s:=by
 cases p with
 | none=>exact PC h
 | int i t=>exact slicePart_int h
def d8 {sl:HD}{vl vu:Hu}{lo hi:HA HM}{n:HB}{Q:HM×HM×HB->Hw->Prop}(hs:s.heap.IsSliceOf sl vl vu .none)(pl:Mx vl lo)(pu:Mx vu hi)
  (h:Q (((bI n 0 lo:HB):HM),1,bI n n hi - bI n 0 lo) s):wpAny (model prog w) A (My (.ref sl) (pure (n:HM))) Q E s:=by
 obtain⟨os,hos,hcs,hds⟩:=id hs;unfold My P1;refine Hs (Hs (JK hos hds (x:=vl) rfl (Hs (JK hos hds (x:=vu) rfl (Hs (JK hos hds (x:=.none) rfl (Hx ?_)))))));refine Hs (PC ?_);show wpAny _ _ (if ((1:HM)==0)=true then _ else _) _ _ s
 rw[Im #v[]]
 refine Hs (jp pl (Hs (jp pu (Hs (Hx ?_)))));show wpAny _ _ (match Lv lo hi 1 (n:HM)with|(lo,hi)=>pure (lo,(1:HM),Ky lo hi 1)) _ _ s
 rw[pR lo hi n];show wpAny _ _ (pure (((bI n 0 lo:HB):HM),(1:HM),Ky ((bI n 0 lo:HB):HM) ((bI n n hi:HB):HM) 1)) _ _ s;rw[pS];exact Hx h
def uW (xs:Ik Hu)(i k:HB):((Ix k).filterMap λ(m:HB)=>xs[((i:HM)+(m:HM)*1).toNat]?).toArray=((xs.toList.drop i).take k).toArray:=by
 have e:(λ(m:HB)=>xs[((i:HM)+(m:HM)*1).toNat]?)=λm=>xs[i+m]?:=by
  funext m
  have:((i:HM)+(m:HM)*1).toNat=i+m:=∅
  rw[this]
 rw[e];have:=pick_run xs i k;rw[List.filterMap_map]at this;have e2:((λx=>xs[x]?)∘λx=>i+x)=λm=>xs[i+m]?:=rfl
 rw[e2]at this;rw[this]
def gK {t sl:HD}{items:Ik Hu}{vl vu:Hu}{lo hi:HA HM}{Q:Hu->Hw->Prop}(ht:Oz s.heap t items)(hs:s.heap.IsSliceOf sl vl vu .none)(pl:Mx vl lo)(pu:Mx vu hi)
  (hw:¬ (bI items.size 0 lo=0/\bI items.size items.size hi=items.size))
  (h:Q (.ref s.heap.objs.size) { s with heap:=s.heap.push { cls:=.type "tuple",data:=.seq ((items.toList.drop (bI items.size 0 lo)).take (bI items.size items.size hi - bI items.size 0 lo)).toArray } })
  (hsz:items.size<=sizeLine):wpAny (model prog w) A (getItem (.ref t) (.ref sl)) Q E s:=by
 have htake:sizeOk (.seq ((items.toList.drop (bI items.size 0 lo)).take (bI items.size items.size hi - bI items.size 0 lo)).toArray):=by
  show((items.toList.drop (bI items.size 0 lo)).take (bI items.size items.size hi - bI items.size 0 lo)).toArray.size<=sizeLine;rw[HL,Jj,KS,HS];omega
 have hj:bI items.size items.size hi<=items.size:=BW _ _ (HE _) hi;obtain⟨os,hos,hcs,hds⟩:=id hs;have hTs:s.TypeIs (.ref sl) "slice":=#[os,hos,hcs];unfold getItem
 try with_reducible refine Jg ?_
 first|refine Hs (Hx ?_)|skip
 refine Hs (OG ht.typeIs #v[] ?_)
 refine Hs (IV (name:=JX "__getitem__") ht.typeIs J9
  (Jb J9 ht.typeIs N3 ?_ (Om _ _)))
 show wpAny _ _ (Lh (.ref t) >>= _) _ _ s;refine Hs (P6 ht ?_);refine Hs (K6 hTs ?_);rw[Ic #v[]]
 refine Hs (d8 hs pl pu ?_);have hno:¬ ((((bI items.size 0 lo:HB):HM)==0&&(1:HM)==1&&(bI items.size items.size hi - bI items.size 0 lo)==items.size)=true):=by
  intro q;rw[Hz,Hz]at q;have q1:((bI items.size 0 lo:HB):HM)=0:=eq_of_beq q.1.1;have q2:bI items.size items.size hi - bI items.size 0 lo=items.size:=eq_of_beq q.2;exact hw #[∅,∅]
 show wpAny _ _ (if (((bI items.size 0 lo:HB):HM)==0&&(1:HM)==1&&(bI items.size items.size hi - bI items.size 0 lo)==items.size)=true then _ else _) _ _ s
 rw[Im hno,uW]
 first
  | exact Hs (m:=JU _) (IH (Hx #[_,rfl,Hx h]) htake)
  | exact Hs (m:=JU _) (IH (Hs (Hx (Hx #[_,rfl,Hx h]))) htake)
  | exact Hs (Hs (m:=JU _) (IH (Hx (Hx #[_,rfl,Hx h])) htake))
  | exact Hs (Hs (m:=JU _) (IH (Hx #[_,rfl,Hx h]) htake))
end
end HT
namespace L2
open PySem PySem.Spec PyProof.Rows
noncomputable abbrev TO:=St->Hp->(HA HM->Hp->Prop)->Prop
abbrev PO (X:Cx)(e:HA Ii)(t:TO):Prop:=
 ∀(J:Hr (HD×JJ)) (s:Hw) (Y:St) (H:Hp) (Q:HA HM->Hp->Prop),Inv X J Y H s->t Y H Q->
  wpAny (model X.prog X.w) X.A (evalPart e X.env) (λu s'=>∃o H',Inv X J Y H' s'/\Mx u o/\Q o H') X.xe s
abbrev yE:TO:=λ_ H Q=>Q gV H
abbrev DW (t:TE):TO:=λY H Q=>t Y H λx H1=>∃i,x=.int i/\Q (ba i) H1
section
variable{X:Cx}{e:Ii}{te:TE}{lo hi:HA Ii}{tl th:TO}{pos p2:Kr}
def yF:PO X gV yE:=by
 intro J s Y H Q I h;rw[P7];exact Hx #[gV,H,I,.none,h]
def yG (h:PE X e te):PO X (ba e) (DW te):=by
 intro J s Y H Q I hw;rw[evalPart_some];refine bf (h J s Y H _ I hw) λu s1 #[x,H1,I1,r1,q1]=>?_
 obtain⟨i,rfl,q⟩:=q1;obtain⟨t,rfl⟩:=r1;exact#[ba i,H1,I1,.int i t,q]
abbrev DX (X:Cx)(r:V->HA HM->HA HM->Hp->VK->Prop):Prop:=
 ∀(J:Hr (HD×JJ)) (s:Hw) (Y:St) (H:Hp) (x:V) (v vl vu:Hu) (lo hi:HA HM) (sl:HD) (Q:VK),Inv X J Y H s->RelV x v->s.heap.IsSliceOf sl vl vu .none->Mx vl lo->Mx vu hi->r x lo hi H Q->
  ∃T id,typeLookup (.type T) "__getitem__" = pure (ba (.builtin id))/\s.TypeIs v T/\wpAny (model X.prog X.w) X.A (getItem v (.ref sl)) (EP X J Y Q) X.xe s
abbrev Hc (r:V->HA HM->HA HM->Hp->VK->Prop)(te:TE)(tl th:TO):TE:=λY H Q=>te Y H λx H1=>tl Y H1 λl H2=>th Y H2 λu H3=>r x l u H3 Q
def uX {r:V->HA HM->HA HM->Hp->VK->Prop}(hr:DX X r)(he:PE X e te)(hl:PO X lo tl)(hu:PO X hi th):PE X (.Subscript e (.Slice lo hi gV p2) pos) (Hc r te tl th):=by
 intro J s Y H Q I h;refine Subscript_ (bf (he J s Y H _ I h) λv s1 #[x,H1,I1,r1,q1]=>?_)
 refine wpAny_Slice (bf (hl J s1 Y H1 _ I1 q1) λvl s2 #[l,H2,I2,pl,q2]=>bf (hu J s2 Y H2 _ I2 q2) λvu s3 #[u,H3,I3,pu,q3]=>?_)
 rw[P7];refine Hx ?_;have I4:Inv X J Y H3 { s3 with heap:=s3.heap.push { cls:=.type "slice",data:=.fields [vl,vu,.none].toArray } }:=I3.kept (t':=s3.toks) λb ob q=>Ht _ q
 obtain⟨T,id,hT,ht,hg⟩:=hr J { s3 with heap:=s3.heap.push { cls:=.type "slice",data:=.fields [vl,vu,.none].toArray } } Y H3 x v vl vu l u s3.heap.objs.size Q I4 r1 (Q1 ..) pl pu q3
 show wpAny (model X.prog X.w) X.A (subscriptTail e (.Slice lo hi gV p2) v (.ref s3.heap.objs.size)) (EP X J Y Q) X.xe { s3 with heap:=s3.heap.push { cls:=.type "slice",data:=.fields [vl,vu,.none].toArray } }
 exact tail_any (ops:=[.ref s3.heap.objs.size,v]) ht hT hg (by with_unfolding_all rfl)
abbrev jq (xs:Hr V)(lo hi:HA HM):Hr V:=(xs.drop (HT.bI xs.length 0 lo)).take (HT.bI xs.length xs.length hi - HT.bI xs.length 0 lo)
def iS (xs:Hr V)(lo hi:HA HM):(jq xs lo hi).length<=xs.length:=by
 unfold jq;rw[Jj,KS];omega
abbrev F2 (K:HG):V->HA HM->HA HM->Hp->VK->Prop:=λx lo hi H Q=>∃a xs,x=.ref a/\SqT K H a xs/\
 ¬ (HT.bI xs.length 0 lo=0/\HT.bI xs.length xs.length hi=xs.length)/\∀p,H p=gV->Q (.ref p) (bc H p (.tup (jq xs lo hi)))
def BX:DX X (F2 X.K):=by
 intro J s Y H x v vl vu lo hi sl Q I rx hs pl pu h;obtain⟨a,xs,rfl,hx,hw,q⟩:=h;cases rx;obtain⟨its,r,ht,hz⟩:=I.tuple hx;have hlen:its.toArray.size=xs.length:=by rw[HL]; exact r.length.symm
 refine#["tuple",_,PyProof.Rows.slot_tuple_getitem.lookup,ht.typeIs,?_];refine HT.gK ht hs pl pu (by rw[hlen]; exact hw) ?_ (by rw[hlen]; exact hz)
 rw[hlen];refine#[.ref s.heap.objs.size,_,I.laid (t':=s.toks) (o:=.tup (jq xs lo hi)) (λb ob q=>Ht _ q) (HE _) ?_,rfl,q _ (I.hok.fresh (HE _))]
 exact#[ID (iS xs lo hi) hz,_,(r.drop (HT.bI xs.length 0 lo)).take (HT.bI xs.length xs.length hi - HT.bI xs.length 0 lo),OY _ _]
def Vals.nil_iff {xs:Hr V}{us:Hr Hu}(r:Vals xs us):us=[]↔xs=[]:=by
 cases r with
 | nil=>simp
 | cons _ _=>simp
end
abbrev qT (n:HB)(i:HM):HA HB:=if 0<=i then(if i < n then ba i.toNat else gV)else if -(n:HM)<=i then ba (i+n).toNat else gV
abbrev nr {α:Type}(xs:Hr α)(i:HM):HA α:=(qT xs.length i).bind λj=>xs[j]?
def qU {n:HB}{i:HM}{j:HB}(h:qT n i=ba j):seqIndex? i n=ba j/\j < n/\-(n:HM)<=i/\i < n:=by
 unfold qT at h
 by_cases h0:0<=i
 ·rw[Ic h0]at h
  by_cases h1:i < n
  ·rw[Ic h1]at h;have e:i.toNat=j:=Je h;exact#[by rw[Ph h0 h1,e],∅,∅,h1]
  ·rw[Im h1]at h; cases h
 ·rw[Im h0]at h
  by_cases h1 : -(n:HM)<=i
  ·rw[Ic h1]at h;have e:(i+n).toNat=j:=Je h;exact#[by rw[OH ∅ h1,e],∅,h1,∅]
  ·rw[Im h1]at h; cases h
def lO {α:Type}{xs:Hr α}{i:HM}{v:α}(h:nr xs i=ba v):∃j,seqIndex? i xs.length=ba j/\xs[j]?=ba v/\j < xs.length/\-(xs.length:HM)<=i/\i < xs.length:=by
 unfold nr at h;cases e:qT xs.length i with
 | none=>rw[e]at h; cases h
 | some j=>
  rw[e]at h;obtain⟨h1,h2,h3,h4⟩:=qU e;exact#[j,h1,h,h2,h3,h4]
def atI_nat {α:Type}{xs:Hr α}{j:HB}{v:α}(h:xs[j]?=ba v):nr xs (j:HM)=ba v:=by
 have hj:j < xs.length:=(HH.mp h).1;have e:qT xs.length (j:HM)=ba j:=by
  unfold qT;rw[Ic ∅,Ic ∅]; simp
 unfold nr; rw[e]; exact h
abbrev lP (b:Ii):Prop:=∀o i,subscripted b false o i=operate [o,i] (getItem o i)
abbrev IxR (X:Cx)(r:R2):Prop:=
 ∀(value slice:Ii) (J:Hr (HD×JJ)) (s:Hw) (Y:St) (H:Hp) (x y:V) (v u:Hu) (Q:VK),Inv X J Y H s->RelV x v->RelV y u->r x y H Q->
  subscripted slice false v u=operate [v,u] (getItem v u)->wpAny (model X.prog X.w) X.A (subscriptTail value slice v u) (EP X J Y Q) X.xe s
abbrev MtR (X:Cx)(id:Jy)(r:V->Hr V->Hp->VK->Prop):Prop:=
 ∀(J:Hr (HD×JJ)) (s:Hw) (Y:St) (H:Hp) (x:V) (xs:Hr V) (v:Hu) (us:Hr Hu) (Q:VK),Inv X J Y H s->RelV x v->Vals xs us->r x xs H Q->
  wpAny (model X.prog X.w) X.A (call (.builtin id) (v::us)) (EP X J Y Q) X.xe s
section
variable{X:Cx}{a b:Ii}{ta tb:TE}{pos:Kr}
def DY {r:R2}(hr:IxR X r)(ha:PE X a ta)(hb:PE X b tb)(hs:lP b):PE X (.Subscript a b pos) (Fi r ta tb):=by
 intro J s Y H Q I h;exact Subscript_ (BK ha hb I h λv u s2 x y H2 I2 rx ry q=>hr a b J s2 Y H2 x y v u Q I2 rx ry q (hs _ _))
abbrev F3 (K:HG):R2:=λx y H Q=>∃p xs i v,x=.ref p/\y=.int i/\SqL K H p xs/\nr xs i=ba v/\Q v H
abbrev F4 (K:HG):R2:=λx y H Q=>∃p xs i v,x=.ref p/\y=.int i/\SqT K H p xs/\nr xs i=ba v/\Q v H
abbrev F5:R2:=λx y H Q=>∃z i c,x=.str z/\y=.int i/\z.length<=sizeLine/\nr z.cps.toList i=ba c/\Q (.str #[[c].toArray]) H
def yH:IxR X (F3 X.K):=by
 intro value slice J s Y H x y v u Q I rx ry h hs;obtain⟨p,xs,i,z,rfl,rfl,hq,he,q⟩:=h;cases rx;obtain⟨t,rfl⟩:=ry;obtain⟨its,r,pl,hz⟩:=I.list hq;obtain⟨j,h1,h2,h3,h4,h5⟩:=lO he;obtain⟨w,ew,rw'⟩:=r.get h2;have hl:=r.length;have hn:=ip;have fin:EP X J Y Q w s:=#[z,H,I,rw',q]
 by_cases h0:0<=i
 ·have hj:i.toNat=j:=by
   rw[Ph h0 h5]at h1;exact Je h1
  exact item_listR pl.isList h0 ∅ (by rw[hj]; simpa using ew) fin hs
 ·have hj:(i+(its.toArray.size:HM)).toNat=j:=by
   rw[OH ∅ h4]at h1
   rw[HL,<- hl];exact Je h1
  exact LR (x:=w) pl.isList.typeIs slot_list_getitem.lookup
   (wpAny_getItem_list_neg (Q:=λr s'=>r=w/\EP X J Y Q r s') pl.isList ∅ (by rw[HL] <;> omega) ∅ (by rw[hj]; simpa using ew) #[rfl,fin]) hs
def BY:IxR X (F4 X.K):=by
 intro value slice J s Y H x y v u Q I rx ry h hs;obtain⟨p,xs,i,z,rfl,rfl,hq,he,q⟩:=h;cases rx;obtain⟨t,rfl⟩:=ry;obtain⟨its,r,pl,hz⟩:=I.tuple hq;obtain⟨j,h1,h2,h3,h4,h5⟩:=lO he;obtain⟨w,ew,rw'⟩:=r.get h2;have hl:=r.length;have hn:=ip;have fin:EP X J Y Q w s:=#[z,H,I,rw',q];exact LR (x:=w) pl.typeIs slot_tuple_getitem.lookup
  (getItem_tuple (j:=j) (Q:=λr s'=>r=w/\EP X J Y Q r s') pl ∅ ∅ (by rw[HL,<- hl]; exact h1) (by simpa using ew) #[rfl,fin]) hs
def BZ:IxR X F5:=by
 intro value slice J s Y H x y v u Q I rx ry h hs;obtain⟨z,i,c,rfl,rfl,hz,he,q⟩:=h;obtain⟨t,rfl⟩:=rx;obtain⟨t',rfl⟩:=ry;obtain⟨j,h1,h2,h3,h4,h5⟩:=lO he;have hl:z.cps.toList.length=z.length:=by simp[Q6]
 rw[hl]at h1 h4 h5;have hn:=ip;exact tail_any (typeIs_str s z t) slot_str_getitem.lookup (getItem_str (c:=c) (by
  have e1:decide (i < -(2 ^ 63:HM))=false:=Iz ∅
  have e2:decide (i>=2 ^ 63)=false:=Iz ∅
  rw[e1,e2,Ob]) (by rw[h1]; simpa using h2) #[.str #[[c].toArray],H,I.tok _,#[_,rfl],q]) hs
def pT (its:Hr Hu)(n j:HB)(u:Hu):JA (·.setIfInBounds j u) { cls:=.type "list",data:=.seq its.toArray n }={ cls:=.type "list",data:=.seq (its.set j u).toArray n }:=by
 simp[JA]
def Inv.lst {J:Hr (HD×JJ)}{Y:St}{H:Hp}{s:Hw}{p:HD}{xs:Hr V}(I:Inv X J Y H s)(h:H p=ba (.lst xs)) :
  ∃(its:Hr Hu) (n:HB),Vals xs its/\s.heap.get? p=ba { cls:=.type "list",data:=.seq its.toArray n }/\xs.length<=sizeLine:=by
 obtain⟨z,its,n,r,e⟩:=I.hok p _ h;exact#[its,n,r,e,z]
def Inv.lstUpd {J:Hr (HD×JJ)}{Y:St}{H:Hp}{s:Hw}{p:HD}{xs ys:Hr V}{its its':Hr Hu}{n n':HB}{f:JJ->JJ}(I:Inv X J Y H s)(h:H p=ba (.lst xs))
  (ho:s.heap.get? p=ba { cls:=.type "list",data:=.seq its.toArray n }) (hf:f { cls:=.type "list",data:=.seq its.toArray n }={ cls:=.type "list",data:=.seq its'.toArray n' }) (r:Vals ys its') (hz:ys.length<=sizeLine) (t:HB) :
  Inv X J Y (bc H p (.lst ys)) { s with heap:=s.heap.update p f,toks:=t }:=by
 have e:(s.heap.update p f).get? p=ba { cls:=.type "list",data:=.seq its'.toArray n' }:=by
  rw[JF f ho (by rw[hf] <;> rfl),hf]
 refine I.write (x:=p) (e:=p) (by rw[h]; trivial) (.inl rfl) (λb u hb q=>(IM _ _ (Ne.symm hb)).trans q) #[_,e] ?_
 exact#[hz,its',n',r,e]
abbrev DZ:V->V->V->Hp->(Hp->Prop)->Prop:=λo i v H Q=>∃p xs k j,o=.ref p/\i=.int k/\H p=ba (.lst xs)/\qT xs.length k=ba j/\Q (bc H p (.lst (xs.set j v)))
def uY:BC X DZ:=by
 intro J s Y H o i v ov iv u Q I ro ri rv h;obtain⟨p,xs,k,j,rfl,rfl,hp,hj,q⟩:=h;cases ro;obtain⟨t,rfl⟩:=ri;obtain⟨its,n,r,ho,hz⟩:=I.lst hp;obtain⟨h1,h2,h3,h4⟩:=qU hj;have hl:=r.length;have hn:=ip;have I':Inv X J Y (bc H p (.lst (xs.set j v))) { s with heap:=s.heap.update p (JA (·.setIfInBounds j u)) }:=
  I.lstUpd hp ho (pT its n j u) (r.set rv j) (by rw[List.length_set]; exact hz) s.toks
 by_cases h0:0<=k
 ·have hk:k.toNat=j:=by
   rw[Ph h0 h4]at h1;exact Je h1
  exact PySem.W.ki_setAt ho h0 ∅ (by rw[HL,<- hl]; exact h4) (by rw[hk]; exact#[_,I',q])
 ·have hk:(k+(its.toArray.size:HM)).toNat=j:=by
   rw[OH ∅ h3]at h1
   rw[HL,<- hl];exact Je h1
  exact PySem.W.ki_setBack ho ∅ (by rw[HL,<- hl]; exact h3) ∅ (by rw[hk]; exact#[_,I',q])
def lQ (lo hi:HA HM)(n:HB):(sliceBounds lo hi gV n).1=((HT.bI n 0 lo:HB):HM)/\(sliceBounds lo hi gV n).2.1=((HT.bI n n hi:HB):HM)/\(sliceBounds lo hi gV n).2.2=1:=by
 refine#[?_,?_,rfl]
 ·cases lo with
  | none=>simp[sliceBounds,HT.bI]
  | some i=>
   simp only[sliceBounds,HT.bI,O1,show(1:HM) > 0 by decide,JP]
   by_cases h:i < 0
   ·simp only[h,JP] <;> omega
   ·simp only[h,Jn] <;> omega
 ·cases hi with
  | none=>simp[sliceBounds,HT.bI]
  | some i=>
   simp only[sliceBounds,HT.bI,O1,show(1:HM) > 0 by decide,JP]
   by_cases h:i < 0
   ·simp only[h,JP] <;> omega
   ·simp only[h,Jn] <;> omega
def kC (its:Hr Hu)(lo hi:HA HM):slicePick its.toArray lo hi gV=((its.drop (HT.bI its.length 0 lo)).take (HT.bI its.length its.length hi - HT.bI its.length 0 lo)).toArray:=by
 obtain⟨h1,h2,h3⟩:=lQ lo hi its.toArray.size;unfold slicePick;rw[h1,h2,h3];simp only[sliceRange_one,pick_run,HL] <;> rfl
abbrev F6 (K:HG):V->HA HM->HA HM->Hp->VK->Prop:=λx lo hi H Q=>∃a xs,x=.ref a/\SqL K H a xs/\∀p,H p=gV->Q (.ref p) (bc H p (.lst (jq xs lo hi)))
def yI:DX X (F6 X.K):=by
 intro J s Y H x v vl vu lo hi sl Q I rx hs pl pu h;obtain⟨a,xs,rfl,hx,q⟩:=h;cases rx;obtain⟨its,r,ht,hz⟩:=I.list hx;have hlen:=r.length;refine#["list",_,slot_list_getitem.lookup,ht.isList.typeIs,?_];refine wpAny_getItem_list_slice ht.isList hs pl pu .none (by simp) ?_ (by rw[HL] <;> omega)
 rw[kC,<- hlen];refine#[.ref s.heap.objs.size,_,I.laid (t':=s.toks) (o:=.lst (jq xs lo hi)) (λb ob q=>Ht _ q) (HE _) ?_,rfl,q _ (I.hok.fresh (HE _))]
 exact#[ID (iS xs lo hi) hz,_,0,(r.drop (HT.bI xs.length 0 lo)).take (HT.bI xs.length xs.length hi - HT.bI xs.length 0 lo),HI _ rfl]
abbrev fT:V->Il
 | .non=>true
 | .bl _=>true
 | .int _=>true
 | .str _=>true
 | _=>false
abbrev yJ:V->V->Il
 | .non,.non=>true
 | .bl a,.bl b=>a==b
 | .bl a,.int b=>(if a then 1 else 0)==b
 | .int a,.bl b=>a==(if b then 1 else 0)
 | .int a,.int b=>a==b
 | .str a,.str b=>a==b
 | _,_=>false
def B0 {A:IB}{s:Hw}{y x:V}{u v:Hu}(ry:RelV y u)(rx:RelV x v)(fy:fT y=true)(fx:fT x=true):L1 A s u v (yJ y x):=by
 cases y with
 | non=>
  cases ry;cases x with
  | non=>cases rx; exact Ro _
  | bl b=>cases rx; exact QG b
  | int b=>obtain⟨t,rfl⟩:=rx; exact QQ b t
  | str b=>obtain⟨t,rfl⟩:=rx; exact QR b t
  | _=>exact absurd (show false=true from fx) Ih
 | bl a=>
  cases ry;cases x with
  | non=>cases rx; exact QH a
  | bl b=>cases rx; exact QI a b
  | int b=>obtain⟨t,rfl⟩:=rx; exact QS a b t
  | str b=>obtain⟨t,rfl⟩:=rx; exact QT a b t
  | _=>exact absurd (show false=true from fx) Ih
 | int a=>
  obtain⟨t',rfl⟩:=ry;cases x with
  | non=>cases rx; exact QU a t'
  | bl b=>cases rx; exact QV a t' b
  | int b=>obtain⟨t,rfl⟩:=rx; exact Q7 a t' b t
  | str b=>obtain⟨t,rfl⟩:=rx; exact Og a t' b t
  | _=>exact absurd (show false=true from fx) Ih
 | str a=>
  obtain⟨t',rfl⟩:=ry;cases x with
  | non=>cases rx; exact QX a t'
  | bl b=>cases rx; exact QY a t' b
  | int b=>obtain⟨t,rfl⟩:=rx; exact Oh a t' b t
  | str b=>obtain⟨t,rfl⟩:=rx; exact Q8 a t' b t
  | _=>exact absurd (show false=true from fx) Ih
 | _=>exact absurd (show false=true from fy) Ih
abbrev pU (x:V)(u:Hu):Il:=match u with
 | .none=>yJ .non x
 | .bool b=>yJ (.bl b) x
 | .int i _=>yJ (.int i) x
 | .str z _=>yJ (.str z) x
 | _=>false
def uZ {x y:V}{u:Hu}(r:RelV y u)(f:fT y=true):pU x u=yJ y x:=by
 cases y with
 | non=>cases r; rfl
 | bl b=>cases r; rfl
 | int i=>obtain⟨t,rfl⟩:=r; rfl
 | str z=>obtain⟨t,rfl⟩:=r; rfl
 | _=>exact absurd (show false=true from f) Ih
def gL {x:V}:∀ {xs:Hr V} {us:Hr Hu},Vals xs us->xs.all fT=true->us.any (pU x)=xs.any λy=>yJ y x
 | _,_,.nil,_=>rfl
 | y::xs,u::us,.cons r t,f=>by
  rw[IY,Hz]at f;rw[Ko,Ko,uZ r f.1,gL t f.2]
def eX {A:IB}{s:Hw}{x:V}{v:Hu}(rx:RelV x v)(fx:fT x=true):∀ {xs:Hr V} {us:Hr Hu},Vals xs us->xs.all fT=true->∀u∈us,L1 A s u v (pU x u)
 | _,_,.nil,_=>λu hu=>by cases hu
 | y::xs,u::us,.cons r t,f=>λu' hu=>by
  rw[IY,Hz]at f;rcases HW.mp hu with rfl|hu
  ·rw[uZ r f.1]; exact B0 r rx f.1 fx
  ·exact eX rx fx t f.2 u' hu
abbrev Fk (x:V)(xs:Hr V):Il:=xs.any λy=>yJ y x
abbrev F7 (K:HG)(neg:Il):R2:=λx y H Q=>∃p xs,y=.ref p/\(SqL K H p xs\/SqT K H p xs)/\fT x=true/\xs.all fT=true/\Q (.bl (if neg then !Fk x xs else Fk x xs)) H
def sL:OpR X (compareOp .In) (F7 X.K false):=by
 intro J s Y H x y v u Q I rx ry h;obtain⟨p,xs,rfl,hq,fx,fs,q⟩:=h;cases ry;rcases hq with hq|hq
 ·obtain⟨its,r,pl,hz⟩:=I.list hq;refine Pp (pU x) pl.isList (λw hw=>eX rx fx r fs w (by simpa using hw)) #[.bl _,H,I,rfl,?_]
  rw[show its.toArray.any (pU x)=its.any (pU x) by simp,gL r fs]
  exact q
 ·obtain⟨its,r,pl,hz⟩:=I.tuple hq;refine O2 (pU x) pl (λw hw=>eX rx fx r fs w (by simpa using hw)) #[.bl _,H,I,rfl,?_]
  rw[show its.toArray.any (pU x)=its.any (pU x) by simp,gL r fs]
  exact q
def lR:OpR X (compareOp .NotIn) (F7 X.K true):=by
 intro J s Y H x y v u Q I rx ry h;obtain⟨p,xs,rfl,hq,fx,fs,q⟩:=h;cases ry;rcases hq with hq|hq
 ·obtain⟨its,r,pl,hz⟩:=I.list hq;refine On (pU x) pl.isList (λw hw=>eX rx fx r fs w (by simpa using hw)) #[.bl _,H,I,rfl,?_]
  rw[show its.toArray.any (pU x)=its.any (pU x) by simp,gL r fs]
  exact q
 ·obtain⟨its,r,pl,hz⟩:=I.tuple hq;refine SeqAt.notIn_tupleAt (pU x) pl (λw hw=>eX rx fx r fs w (by simpa using hw)) #[.bl _,H,I,rfl,?_]
  rw[show its.toArray.any (pU x)=its.any (pU x) by simp,gL r fs]
  exact q
def lS:CallR X (.type "list") (λxs H Q=>∃p ys,xs=[.ref p]/\(SqL X.K H p ys\/SqT X.K H p ys)/\∀l,H l=gV->Q (.ref l) (bc H l (.lst ys))):=by
 intro J s Y H xs us Q I r h;obtain⟨p,ys,rfl,hq,q⟩:=h;obtain⟨u,rfl,rx⟩:=kI r;cases rx;have fin:∀(its:Hr Hu),Vals ys its->ys.length<=sizeLine->∀(h':IJ) (c':HB),(∀b o',s.heap.get? b=ba o'->h'.get? b=ba o')->
   h'.get? s.heap.objs.size=ba { cls:=.type "list",dict:=gV,data:=.seq its.toArray c',slots:=#[] }->EP X J Y Q (.ref s.heap.objs.size) { s with heap:=h' }:=λits r' hz h' c' kp e=>
  #[.ref s.heap.objs.size,_,I.laid (t':=s.toks) kp (HE _) (show ObjOk X.prog X.w _ h' _ (.lst ys)from#[hz,its,c',r',e]),rfl,q _ (I.hok.fresh (HE _))]
 rcases hq with hq|hq
 ·obtain⟨its,r',pl,hz⟩:=I.list hq;have hlen:=r'.length;obtain⟨o,ho,hc,n,hd⟩:=pl.isList;exact P8 p (.inl rfl) ho hc hd (λh' c' kp e=>fin its r' hz h' c' kp e) (by simp only[HL] <;> omega)
 ·obtain⟨its,r',pl,hz⟩:=I.tuple hq;have hlen:=r'.length;obtain⟨o,ho,hc,n,hd⟩:=pl;exact P8 p (.inr rfl) ho hc hd (λh' c' kp e=>fin its r' hz h' c' kp e) (by simp only[HL] <;> omega)
def fU:CallR X (.type "tuple") (λxs H Q=>∃p ys,xs=[.ref p]/\((SqL X.K H p ys/\∀l,H l=gV->Q (.ref l) (bc H l (.tup ys)))\/(SqT X.K H p ys/\Q (.ref p) H))):=by
 intro J s Y H xs us Q I r h;obtain⟨p,ys,rfl,h⟩:=h;obtain⟨u,rfl,rx⟩:=kI r;cases rx;rcases h with⟨hq,q⟩|⟨hq,q⟩
 ·obtain⟨its,r',pl,hz⟩:=I.list hq;have hlen:=r'.length;refine call_tuple_list pl.isList (λh' kp=>?_) (by simp only[HL] <;> omega)
  have I1:Inv X J Y H { s with heap:=h' }:=I.kept (t':=s.toks) kp
  have I2:Inv X J Y (bc H h'.objs.size (.tup ys)) { s with heap:=h'.push { cls:=.type "tuple",data:=.seq its.toArray } }:=
   I1.laid (t':=s.toks) (λb o e=>Ht _ e) (HE _) (show ObjOk X.prog X.w _ _ _ (.tup ys)from#[hz,its,r',OY _ _])
  exact#[.ref h'.objs.size,_,I2,rfl,q _ (I1.hok.fresh (HE _))]
 ·obtain⟨its,r',pl,hz⟩:=I.tuple hq;exact call_tuple_same pl #[.ref p,H,I,rfl,q]
abbrev F8 (K:HG)(T:Jy)(x:V)(H:Hp):Prop:=match x with
 | .str _=>T = "str"
 | .int _=>T = "int"
 | .ref p=>(T = "list"/\∃xs,SqL K H p xs)\/(T = "tuple"/\∃o,K.lookup p=ba o/\o.cls=.type "tuple"/\o.dict=gV)\/
   (T = "dict"/\((∃U,H p=ba (.dK U))\/∃U,H p=ba (.dT U)))\/(T = "set"/\∃S n,H p=ba (.set S n))
 | _=>Jt
def u4 {J:Hr (HD×JJ)}{Y:St}{H:Hp}{s:Hw}{T:Jy}{x:V}{v:Hu}(I:Inv X J Y H s)(r:RelV x v)(ty:F8 X.K T x H) :
  s.TypeIs v T/\∀a,v=.ref a->∃ob,s.heap.get? a=ba ob/\ob.dict=gV:=by
 cases x with
 | str z=>
  obtain⟨t,rfl⟩:=r;cases(show T = "str" from ty)
  exact#[typeIs_str s z t,λ_ e=>nomatch e]
 | int i=>
  obtain⟨t,rfl⟩:=r;cases(show T = "int" from ty)
  exact#[PD s i t,λ_ e=>nomatch e]
 | ref p=>
  cases r;rcases ty with⟨rfl,xs,hq⟩|⟨rfl,o,hk,hc,hd⟩|⟨rfl,hk⟩|⟨rfl,S,n,hk⟩
  ·obtain⟨its,_,pl,_⟩:=I.list hq;refine#[pl.isList.typeIs,λa e=>?_]
   cases e;obtain⟨o,n,e,c,hd,_⟩:=pl;exact#[o,e,hd]
  ·refine#[#[o,I.kIn p o hk,hc],λa e=>?_]
   cases e;exact#[o,I.kIn _ o hk,hd]
  ·have z:∃o,s.heap.get? p=ba o/\o.ExactDict:=by
    rcases hk with⟨U,hk⟩|⟨U,hk⟩
    ·obtain⟨_,_,_,_,o,_,_,e,ex,_⟩:=I.hok p _ hk;exact#[o,e,ex]
    ·obtain⟨_,_,_,_,o,_,_,e,ex,_⟩:=I.hok p _ hk;exact#[o,e,ex]
   obtain⟨o,e,ex⟩:=z;refine#[#[o,e,ex.1],λa e2=>?_]
   cases e2;exact#[o,e,ex.2.1]
  ·obtain⟨o,_,_,_,e,ex,_⟩:=I.hok p _ hk;refine#[#[o,e,ex.1],λa e2=>?_]
   cases e2;exact#[o,e,ex.2.1]
 | _=>exact Jt.elim ty
variable{o e:Ii}{es:Hr Ii}{to:TE}{t:TA}{name:HY}{apos cpos:Kr}{T id:Jy}{r:V->Hr V->Hp->VK->Prop}
end
abbrev F9 (X:Cx)(id:Jy)(r:V->Hr V->Hp->VK->Prop):Prop:=
 ∀(J:Hr (HD×JJ)) (s:Hw) (Y:St) (H:Hp) (x:V) (xs:Hr V) (v:Hu) (us:Hr Hu) (Q:VK),Inv X J Y H s->RelV x v->Vals xs us->r x xs H Q->
  wpAny (model X.prog X.w) X.A (call (.builtin id) (v::us)) (EP X J Y Q) X.xe s
def Vals.one:∀ {x:V} {us:Hr Hu},Vals [x] us->∃u,us=[u]/\RelV x u
 | _,_,.cons r .nil=>#[_,rfl,r]
def Vals.eraseIdx:∀ {xs:Hr V} {us:Hr Hu} (i:HB),Vals xs us->Vals (xs.eraseIdx i) (us.eraseIdx i)
 | _,_,_,.nil=>.nil
 | _,_,0,.cons _ t=>t
 | _,_,i+1,.cons r t=>.cons r (Vals.eraseIdx i t)
def Vals.rep {xs:Hr V}{us:Hr Hu}(h:Vals xs us):∀k:HB,Vals (II k xs).flatten (II k us).flatten
 | 0=>.nil
 | k+1=>by
  rw[JR,JR,KG,KG];exact Vals.append h (Vals.rep h k)
def kO {α:Type}:∀(l:Hr α) (i:HB),(l.eraseIdx i).length<=l.length
 | [],_=>HE _
 | _::_,0=>KH _
 | _::r,i+1=>L3 (kO r i)
def kP (its:Hr Hu):∀(k:HB) (acc:Hr Hu),
  PF (λx1 x2=>x1++x2) acc.toArray (II k its.toArray)=(acc++(II k its).flatten).toArray
 | 0,acc=>by simp
 | k+1,acc=>by
  have e:acc.toArray++its.toArray=(acc++its).toArray:=by simp
  have e2:(acc++its)++(II k its).flatten=acc++(II (k+1) its).flatten:=by
   rw[JR,KG,Ja]
  rw[<- e2,<- kP its k (acc++its),<- e,JR,List.foldl_cons]
section
variable{X:Cx}{J:Hr (HD×JJ)}{Y:St}{H:Hp}{s:Hw}{l b:HD}{xs ys zs:Hr V}
def Inv.lset {its its':Hr Hu}{n:HB}{f:Ik Hu->Ik Hu}{t':HB}(I:Inv X J Y H s)(hH:H l=ba (.lst xs))
  (e:s.heap.get? l=ba { cls:=.type "list",data:=.seq its.toArray n }) (hf:f its.toArray=its'.toArray) (hv:Vals ys its') (hz:ys.length<=sizeLine) :
  Inv X J Y (bc H l (.lst ys)) { s with heap:=s.heap.update l (JA f),toks:=t' }:=by
 have q:=O3 e f;rw[hf]at q;refine I.write (x:=l) (e:=l) (by rw[hH]; exact trivial) (.inl rfl) (λb' u hb hu=>(IM s.heap (JA f) (Ne.symm hb)).trans hu) #[_,q] ?_
 exact#[hz,its',_,hv,q]
def Inv.lnew {its:Hr Hu}{t':HB}(I:Inv X J Y H s)(hv:Vals ys its)(hz:ys.length<=sizeLine) :
  Inv X J Y (bc H s.heap.objs.size (.lst ys)) { s with heap:=s.heap.push { cls:=.type "list",data:=.seq its.toArray },toks:=t' }:=
 I.laid (λ_ _ q=>Ht _ q) (HE _) #[hz,its,0,hv,HI _ rfl]
def Inv.fresh (I:Inv X J Y H s):H s.heap.objs.size=gV:=I.hok.fresh (HE _)
def Inv.lstM (I:Inv X J Y H s)(hH:H l=ba (.lst xs)):xs.length<=sizeLine/\∃(its:Hr Hu) (n:HB),Vals xs its/\xs.length=its.length/\s.heap.get? l=ba { cls:=.type "list",data:=.seq its.toArray n }:=by
 obtain⟨z,its,n,r,e⟩:=I.hok l _ hH;exact#[z,its,n,r,r.length,e]
def nu {n:HB}(h:n<=sizeLine):KL n=false:=by
 unfold KL;exact Iz ∅
end
section
variable{X:Cx}
abbrev yK:V->Hr V->Hp->VK->Prop:=λx vs H Q=>∃l xs y,x=.ref l/\vs=[y]/\H l=ba (.lst xs)/\xs.length < sizeLine/\Q .non (bc H l (.lst (xs++[y])))
def sM:F9 X "list.append" yK:=by
 intro J s Y H x vs v us Q I rx rv h;obtain⟨l,xs,y,rfl,rfl,hH,hz,q⟩:=h;cases rx;obtain⟨u,rfl,ru⟩:=rv.one;obtain⟨z,its,n,r,hl,e⟩:=I.lstM hH;refine Mz F.slot_list_append #[_,e,rfl] F.entry_list_append (F.args_list_append_2 _ _) (OI l its.toArray n u (by rw[HL]; omega)) #[e,?_]
 refine#[.non,_,I.lset (its':=its++[u]) hH e (by simp) (r.append #v[ru]) ?_,rfl,q]
 rw[HK,JG];omega
abbrev yL:V->Hr V->Hp->VK->Prop:=λx vs H Q=>∃l b xs zs,x=.ref l/\vs=[.ref b]/\H l=ba (.lst xs)/\H b=ba (.lst zs)/\xs.length+zs.length<=sizeLine/\Q .non (bc H l (.lst (xs++zs)))
def sN:F9 X "list.extend" yL:=by
 intro J s Y H x vs v us Q I rx rv h;obtain⟨l,b,xs,zs,rfl,rfl,hH,hB,hz,q⟩:=h;cases rx;obtain⟨u,rfl,ru⟩:=rv.one;cases ru;obtain⟨z,its,n,r,hl,e⟩:=I.lstM hH;obtain⟨z2,its2,n2,r2,hl2,e2⟩:=I.lstM hB;have hsz:its.toArray.size+its2.toArray.size<=sizeLine:=by rw[HL,HL]; omega
 have hlong:¬ (!its.toArray.isEmpty&&KL (its.toArray.size+its2.toArray.size))=true:=by
  rw[nu hsz,MA];exact Ih
 refine Mz F.slot_list_extend #[_,e,rfl] F.entry_list_extend (F.args_list_extend_2 _ _)
  (OJ l its.toArray n b its2.toArray n2 hlong (by rw[HL]; omega) ∅) #[e,e2,?_]
 refine#[.non,_,I.lset (its':=its++its2) hH e (by simp) (r.append r2) ?_,rfl,q]
 rw[HK];omega
abbrev B1:V->Hr V->Hp->VK->Prop:=λx vs H Q=>∃l xs i k y,x=.ref l/\vs=[.int i]/\H l=ba (.lst xs)/\-(2 ^ 63)<=i/\i < 2 ^ 63/\seqIndex? i xs.length=ba k/\xs[k]?=ba y/\Q y (bc H l (.lst (xs.eraseIdx k)))
def u5:F9 X "list.pop" B1:=by
 intro J s Y H x vs v us Q I rx rv h;obtain⟨l,xs,i,k,y,rfl,rfl,hH,h1,h2,hk,hy,q⟩:=h;cases rx;obtain⟨u,rfl,ru⟩:=rv.one;obtain⟨t,rfl⟩:=ru;obtain⟨z,its,n,r,hl,e⟩:=I.lstM hH;obtain⟨w,hw,rw'⟩:=r.get hy;refine Mz F.slot_list_pop #[_,e,rfl] F.entry_list_pop (F.args_list_pop_2 _ _)
  (QJ l its.toArray n i t k w (PH h1 h2) (by rw[HL,<- hl]; exact hk) (by rw[<- Jd]; exact hw) (by rw[HL]; omega)) #[e,?_]
 refine#[y,_,I.lset (its':=its.eraseIdx k) hH e ?_ (r.eraseIdx k) ?_,rw',q]
 ·show its.toArray.eraseIdxIfInBounds k=(its.eraseIdx k).toArray;rw[List.eraseIdxIfInBounds_toArray]
 ·have:=kO xs k;omega
abbrev Ga:R2:=λx y H Q=>∃l b xs zs,x=.ref l/\y=.ref b/\H l=ba (.lst xs)/\H b=ba (.lst zs)/\xs.length+zs.length<=sizeLine/\∀p,H p=gV->Q (.ref p) (bc H p (.lst (xs++zs)))
def B2:OpR X (binaryOp .Add) Ga:=by
 intro J s Y H x y v u Q I rx ry h;obtain⟨l,b,xs,zs,rfl,rfl,hH,hB,hz,q⟩:=h;cases rx;cases ry;obtain⟨z,its,n,r,hl,e⟩:=I.lstM hH;obtain⟨z2,its2,n2,r2,hl2,e2⟩:=I.lstM hB;refine PySem.P.add_list e e2 ?_ (by rw[HL,HL]; omega)
 have ea:its.toArray++its2.toArray=(its++its2).toArray:=by simp
 rw[ea];exact#[.ref _,_,I.lnew (t':=s.toks) (r.append r2) (by rw[HK]; omega),rfl,q _ I.fresh]
abbrev Gb:R2:=λx y H Q=>∃l k xs,x=.ref l/\y=.int k/\H l=ba (.lst xs)/\-(2 ^ 63)<=k/\k < 2 ^ 63/\xs.length*k.toNat<=sizeLine/\
 ∀p,H p=gV->Q (.ref p) (bc H p (.lst (II k.toNat xs).flatten))
def yM {α:Type}(xs:Hr α)(k:HB):(II k xs).flatten.length=k*xs.length:=by
 induction k with
 | zero=>simp
 | succ k ih=>rw[JR,KG,HK,ih,OL,Nat.add_comm]
def B3:OpR X (binaryOp .Mult) Gb:=by
 intro J s Y H x y v u Q I rx ry h;obtain⟨l,k,xs,rfl,rfl,hH,h1,h2,hz,q⟩:=h;cases rx;obtain⟨t,rfl⟩:=ry;obtain⟨z,its,n,r,hl,e⟩:=I.lstM hH;have hlen:its.toArray.size*k.toNat<=sizeLine:=by rw[HL,<- hl]; exact hz
 have hcap:¬ its.toArray.size*k.toNat > (2 ^ 63 - 1) / 8:=by
  have:(sizeLine:HB)<=(2 ^ 63 - 1) / 8:=by decide
  omega
 have hfit:¬ (!PJ k)=true:=by
  rw[PH h1 h2];exact Ih
 have hlong:¬ KL (its.toArray.size*k.toNat)=true:=by
  rw[nu hlen];exact Ih
 have hnew:PF (λx1 x2=>x1++x2) #[] (II (if its.toArray.isEmpty=true then 0 else k.toNat) its.toArray)=(II k.toNat its).flatten.toArray:=by
  have f0:∀m:HB,PF (λx1 x2=>x1++x2) #[] (II m its.toArray)=(II m its).flatten.toArray:=λm=>by
   have:=kP its m [];rw[List.nil_append]at this;exact this
  rw[f0];cases its with
  | nil=>simp
  | cons a r'=>rw[Im (by simp)]
 refine wpAny_binaryOp_repeat_ref (T:="list") (U:="int") #v[] #[_,e,rfl] (λs'=>PD s' k t) noFill_list_mul F.fills_int_mul F.slot_int_rmul repeat_list F.slot_int_index.lookup
  (Mz F.slot_int_rmul (PD s k t) F.entry_int_rmul (F.args_int_rmul_2 _ _) (int___rmul___int_list k t l its.toArray n)
   #[e,rfl,#[_,e,rfl],Mz F.slot_list_mul #[_,e,rfl] F.entry_list_mul (F.args_list_mul_2 _ _) (Oy l its.toArray n k t hfit hcap hlong) #[e,?_]])
 rw[hnew];exact#[.ref _,_,I.lnew (t':=s.toks) (r.rep k.toNat) (by rw[yM,Lr]; exact hz),rfl,q _ I.fresh]
end
section
variable{X:Cx}{J:Hr (HD×JJ)}{Y:St}{H:Hp}{s:Hw}{a:HD}{y v:V}{u r:Hu}{o:HA V}{A:IB}{E:Hu->Hw->Prop}
def Inv.big (I:Inv X J Y H s):sysModules < s.heap.objs.size:=by
 have h:mainGlobals < s.heap.objs.size:=(I.mod.glob.keeps I.bk).lt;exact Nat.lt_trans #v[] h
def lT {h':IJ}{t':HB}{ob:HO}(I:Inv X J Y H s)(mu:Dw (H a))(hs:JW a s.heap h')(he:∃q,h'.get? a=ba q)(new:ObjOk X.prog X.w (bc H a ob) h' a ob) :
  Inv X J Y (bc H a ob) { s with heap:=h',toks:=t' }:=
 I.write (x:=a) (e:=a) mu (.inl rfl) (λb q hb z=>(hs.2 b hb).trans z) he new
end
noncomputable abbrev VV:Hr (V×V)->Hr (Hu×Hu)->Prop:=Nf λp q=>RelV p.1 q.1/\RelV p.2 q.2
end L2
namespace Att
open PySem PySem.W PySem.Calls PyProof.Rows
def i8 {P:Oo}{h:IJ}:∀(ns:Hr HM) (vs:Hr Hu),WellAll P h vs (ns.map WData.int)->Nj vs ns:=by
 intro ns
 induction ns with
 | nil=>
  intro vs w;rw[List.map_nil]at w;cases w;exact .nil
 | cons n ns ih=>
  intro vs w;rw[IZ]at w;cases w with
  | cons a b=>
   cases a;exact .cons _ _ (ih _ b)
def sO {l:OpenLaw}{n:HB}(hn:l.most=ba n){P:Oo}{h:IJ}{args:Hr WData}{vals:Hr Hu}
  (hpre:l.row.toRowW.claim.pre args=true) (hwl:WellAll P h vals args) :
  ∃a vs ns,vals=[IA a]/\args=[WData.list (ns.map WData.int)]/\h.get? a=ba { cls:=.type "list",data:=.seq vs.toArray }/\Nj vs ns/\ns.length<=n:=by
 have hsh:WShape.hasAll [] args [.list .int]=true:=(pre_splitW hpre).1;have hc:l.pre.holds [] { args:=args }=true:=(pre_splitW hpre).2;obtain⟨d,r,rfl,h1,h2⟩:=hasAllW_cons hsh;obtain rfl:=hasAllW_nil h2;obtain⟨xs,rfl,h3⟩:=hasW_list h1;obtain⟨ns,rfl⟩:=items_int h3;have hlen:ns.length<=n:=by
  unfold OpenLaw.pre at hc;have h4:(WTm.not (.lt (.lit (.int (n:HM))) (.len (.arg 0)))).holds [] { args:=[.list (ns.map .int)] }=true:=by
   have h4:=(holds_andW hc).1;rw[hn]at h4;exact h4
  have h5:=condW_of h4 (w_not (w_lt w_lit (w_len_list (w_arg rfl))));rw[Hv]at h5;refine O4 λq=>?_
  have q':(n:HM) < ((ns.length:HB):HM):=∅
  first
   | (rw[JL q']at h5; exact absurd h5 #v[])
   | (simp at h5; omega)
 cases hwl with
 | cons w1 w2=>
  cases w2;cases w1 with
  | list ho hall=>exact#[_,_,ns,rfl,rfl,ho,i8 ns _ hall,hlen]
def sP (l:OpenLaw)(args:Hr WData):l.row.toRowW.claim.post args (.bool true) args=true:=
 postW_of (r:=l.row.toRowW) (X:=(true==true))
  (show WShape.has [] (.bool true) .bool=true by first|rfl|decide|simp[WShape.has,WShape.arms,WShape.armsAll])
  (show(WTm.eq .res (.lit (.bool true))).value [] { args:=args,res:=ba (.bool true),after:=args }=ba (.bool (true==true))from w_eq_bool (w_res rfl) w_lit) rfl
def attach_call {l:OpenLaw}{n:HB}{q:Iw}{loose:Hr HY}{XP:(HY->HA Hu)->IJ->Prop}{YP:IE->IJ->Prop}{d:DefRec}
  (hn:l.most=ba n) (hdf:d.params.defaults=[])
  (call:∀(w:IE) (s₀ s₁:Hw) (mg mb:HY->HA Hu) (fa:HD) (o:JJ) (pm cd doc:Hu) (a:HD) (vs:Hr Hu) (ns:Hr HM),
   Ground q loose [] XP w s₀ mg mb s₁.heap->YP w s₁.heap->
   s₁.heap.get? fa=ba o->o.data=.func (docDef d.name d.params d.body d.scope pm cd doc)->s₁.heap.CodeRec cd d.name->mg d.name=ba (.ref fa)->
   s₁.heap.get? a=ba { cls:=.type "list",data:=.seq vs.toArray }->Nj vs ns->ns.length<=n->s₁.gens=#[]->
   codeAny (model l.prog w) callerA (.call (.ref fa) #[[.ref a],[]]) (λr s'=>r=.ok (.ret (.bool true))/\OldK s₁.heap s'.heap/\s'.os=s₁.os/\MW s'.gens) s₁) :
  WalkO q loose XP YP l.row.toRowW d [] (λf vs=>PK f vs):=by
 intro w s₀ s₁ mg mb G Yq fa o pm cd doc dV kV ho hd hcd hD hmg hg args vals as hpre hlay hrd hwl hlo;obtain rfl:dV=.none:=Dflts.none hD hdf;obtain rfl:kV=.none:=Dflts.noKw hD;obtain⟨a,vs,ns,rfl,rfl,hobj,hints,hlen⟩:=sO hn hpre hwl;refine enter_call (K5 (call w s₀ s₁ mg mb fa o pm cd doc a vs ns G Yq ho (fd_plain hd) hcd hmg hobj hints hlen hg) λr s' hq=>?_)
 obtain⟨rfl,h2,h3,h4⟩:=hq;exact#[.inl #[.bool true,.bool true,[],rfl,λ_=>rfl,.bool true,sP l _,λ_=>#[Rc,λ_ hm=>(nomatch hm)]],h2,h3,h4]
end Att
namespace L2
open PySem PySem.Spec PyProof.Rows
def kQ:∀ {vs:Hr Hu} {ns:Hr HM},Nj vs ns->Vals (ns.map V.int) vs
 | _,_,.nil=>.nil
 | _,_,.cons n t h=>.cons #[t,rfl] (kQ h)
abbrev u6 (H:Hp):Prop:=∀b,H b=gV\/∃o xs,H b=ba (.frz o (.lst xs))
def u7 {P:Iw}{w:IE}{K:HG}{mg mb:HY->HA Hu}{CX:uS}{k:HB}{fa a:HD}{fd:Ks}{x:HY}{sp:Sp}{s₁:Hw}{vs:Hr Hu}{ns:Hr HM}
  (KX:K.In s₁.heap) (hns:s₁.heap.Ns mainGlobals mg) (hb:s₁.heap.Ns builtinsNs mb) (hbb:∀x:HY,x≠"__name__"->mb x=bootBuiltins x) (hlim:s₁.heap.NoLimit) (hg:s₁.gens=#[])
  (ha:s₁.heap.get? a=ba { cls:=.type "list",data:=.seq vs.toArray }) (hi:Nj vs ns) (hl:ns.length<=sizeLine) (hr:Room k callerA)
  (F:∀base:IJ,K.In base->base.Ns mainGlobals mg->FnOk P w K mg base CX k fa fd [x] sp) (hbind:∀(s:Hw) (u:Hu),OE s fd #[[u],[]] [(x,u)])
  (hsp:∀H:Hp,u6 H->SqL K H a (ns.map V.int)->sp [.ref a] H (λv _=>v=.bl true) λ_ _ _=>Jt)
  (hCX:∀H e s',CX [] H s₁ (λ_ _ _=>Jt) e s'->Jt) :
  codeAny (model P w) callerA (.call (.ref fa) #[[.ref a],[]]) (λr s'=>r=.ok (.ret (.bool true))/\OldK s₁.heap s'.heap/\s'.os=s₁.os/\MW s'.gens) s₁:=by
 have rv:=kQ hi;have lenV:=hi.length;have core:∀H:Hp,u6 H->SqL K H a (ns.map V.int)->HOk P w H s₁.heap->(∀b,H b≠gV->b=a)->(H a≠gV->K.lookup a=gV)->
   codeAny (model P w) callerA (.call (.ref fa) #[[.ref a],[]]) (λr s'=>r=.ok (.ret (.bool true))/\OldK s₁.heap s'.heap/\s'.os=s₁.os/\MW s'.gens) s₁:=by
  intro H hO hS hok hA hK;have base_of:∀ {b:HD} {o:JJ},s₁.heap.get? b=ba o->H b=gV->(lL s₁.heap H).get? b=ba o:=λe n=>uG e n
  have noA:∀ {b:HD} {o:JJ} {es:Ik Kj} {ep:HB},s₁.heap.get? b=ba o->o.data=.dict es ep->H b=gV:=λ{b o es ep} e d=>by
   cases q:H b with
   | none=>rfl
   | some u=>
    have e':b=a:=hA b (by rw[q]; simp)
    subst e';rw[ha]at e; cases e
    have d':Data.seq vs.toArray _=Data.dict es ep:=d;cases d'
  have nsK:∀ {b:HD} {m:HY->HA Hu},s₁.heap.Ns b m->(lL s₁.heap H).Ns b m:=λ{b m} #[o,es,ep,e,d,r]=>#[o,es,ep,base_of e (noA e d),d,r]
  have hKb:K.In (lL s₁.heap H):=λb o e=>base_of (KX b o e) (by
   cases q:H b with
   | none=>rfl
   | some u=>
    have e':b=a:=hA b (by rw[q]; simp)
    subst e';rw[hK (by rw[q]; simp)]at e; cases e)
  have hM:Mod K mg (lL s₁.heap H):=#[hKb,nsK hns,#[mb,nsK hb,hbb],let ⟨mc,h1,h2⟩:=hlim; #[mc,nsK h1,h2]]
  have e0:Env0 P w K mg (lL s₁.heap H) callerA [] s₁ H:=#[rfl,hM,λb o e=>ym e,Nat.le_of_eq (sD _ _),trivial,λb hb=>absurd (show b∈([]:Hr HD)from hb) (by simp),hok,.of_eq hg]
  refine K5 ((F _ hKb (nsK hns)).run callerA [] s₁ H #[[.ref a],[]] [.ref a] [.ref a] _ _ hr e0 (hbind s₁ (.ref a)) #v[rfl] (hsp H hO hS)) λr s' h=>?_
  cases r with
  | error e=>exact(hCX H e s' h).elim
  | ok fl=>
   cases fl with
   | next=>exact Jt.elim h
   | brk=>exact Jt.elim h
   | cont=>exact Jt.elim h
   | ret u=>
    obtain⟨v,H',os,bare,un,hok',r',q⟩:=h;have q':v=.bl true:=q;subst q';obtain rfl:u=Lg true:=r';refine#[rfl,OldK.of_keep λb o e=>?_,os,bare]
    cases q:H b with
    | none=>exact un.keep b o e q (by intro z; exact absurd (show b∈([]:Hr HD)from z) (by simp)) (by simp)
    | some u=>
     rcases hO b with z|⟨ob,xs,z⟩
     ·rw[q]at z; cases z
     ·have z2:=un.frzs b ob _ z;obtain⟨e1,_⟩:=hok b _ z;obtain⟨e2,_⟩:=hok' b _ z2;rw[e]at e1; cases e1
      exact e2
 cases hk:K.lookup a with
 | some o=>
  have e:=KX a o hk;rw[ha]at e;cases e;refine core (λ_=>gV) (λ_=>.inl rfl) (.inr #[_,vs.toArray,_,hk,rfl,rfl,rfl,by rw[HL,lenV]; exact hl,by simpa using rv]) (λb u z=>by have z':(gV:HA HO)=ba u:=z; cases z') (λb z=>absurd rfl z) λz=>absurd rfl z
 | none=>
  refine core (λb=>if b=a then ba (.frz { cls:=.type "list",data:=.seq vs.toArray } (.lst (ns.map V.int)))else gV) (λb=>?_) (.inl (.inr #[{ cls:=.type "list",data:=.seq vs.toArray },Ic rfl])) (λb u z=>?_) (λb z=>?_) λ_=>hk
  ·by_cases hb:b=a
   ·exact .inr #[_,_,Ic hb]
   ·exact .inl (Im hb)
  ·by_cases hb:b=a
   ·have z':=(Ic hb).symm.trans z;cases z';subst hb;exact#[ha,by rw[Hv]; exact hl,vs,_,rv,ha]
   ·have z':=(Im hb).symm.trans z;cases z'
  ·by_cases hb:b=a
   ·exact hb
   ·exact absurd (Im hb) z
def yN {l:Nr}{n k:HB}{q:Iw}{loose:Hr HY}{XP:(HY->HA Hu)->IJ->Prop}{YP:IE->IJ->Prop}{d:DefRec}{K:Oo->HG}{CX:IE->uS}{sp:IE->Sp}{x:HY}
  (hn:l.most=ba n) (hn2:n<=sizeLine) (hdf:d.params.defaults=[]) (hr:Room k callerA)
  (hY:∀(w:IE) (h:IJ),YP w h->(K w.params).In h)
  (F:∀(w:IE) (mg:HY->HA Hu) (fa:HD) (h:IJ),(K w.params).In h->h.Ns mainGlobals mg->mg d.name=ba (.ref fa)->
   ∃fd:Ks,(∀(s:Hw) (u:Hu),OE s fd #[[u],[]] [(x,u)])/\
    ∀base:IJ,(K w.params).In base->base.Ns mainGlobals mg->FnOk l.prog w (K w.params) mg base (CX w) k fa fd [x] (sp w))
  (hsp:∀(w:IE) (H:Hp) (a:HD) (ns:Hr HM),ns.length<=n->u6 H->SqL (K w.params) H a (ns.map V.int)->sp w [.ref a] H (λv _=>v=.bl true) λ_ _ _=>Jt)
  (hCX:∀(w:IE) (H:Hp) (s:Hw) (e:Hu) (s':Hw),CX w [] H s (λ_ _ _=>Jt) e s'->Jt) :
  P9 q loose XP YP l.row.toRowW d [] (λf vs=>PK f vs):=by
 refine Att.attach_call hn hdf λw s₀ s₁ mg mb fa o pm cd doc a vs ns G Yq ho hd hcd hmg hobj hints hlen hg=>?_
 have KX:=hY w _ Yq;obtain⟨fd,hb,hF⟩:=F w mg fa _ KX G.T.g hmg;exact u7 KX G.T.g G.T.b G.T.builtins G.T.nolimit hg hobj hints (ID hlen hn2) hr hF hb (λH hO hS=>hsp w H a ns hlen hO hS) λH e s'=>hCX w H s₁ e s'
abbrev c7 (s:KO):Arguments:=match s with
 | .FunctionDef _ a _ _ _ _ _ _ _ _=>a
 | _=>{ posonlyargs:=[],args:=[],vararg:=gV,kwonlyargs:=[],kw_defaults:=[],kwarg:=gV,defaults:=[] }
abbrev bM (s:KO):Hr KO:=match s with
 | .FunctionDef _ _ b _ _ _ _ _ _ _=>b
 | _=>[]
abbrev aM (s:KO):Ld:=match s with
 | .FunctionDef _ _ _ _ _ _ sc _ _ _=>sc
 | _=>{ kind:=.function,names:=[],isGenerator:=false,isCoroutine:=false }
noncomputable abbrev uD:uS:=λ_ _ _ _ _ _=>Jt
noncomputable abbrev E0:XK:=λ_ _ _=>Jt
def AM {X:Cx}:lN uD X E0:=λ_ _ _ _ _ _ _ h=>h.elim
structure Fun (K:HG)(x qual:HY)(st:KO)(f:HD)(fd:Ks):Prop where
 ex:∃(oc:Hu) (od:HA HD) (kV doc pm:Hu) (an:HA HD) (cdv ct:Hu) (osl:Ik (HA Hu)),
  fd=Ke x qual (c7 st) (bM st) (aM st) .none kV doc pm an cdv ct/\K.lookup f=ba #[oc,od,.func fd,osl]/\KR K cdv qual=true
 kp:JC K (.ref f)=true
section
variable{P:Iw}{w:IE}{K:HG}{mg:HY->HA Hu}{base:IJ}
def Fun.ok {x qual:HY}{st:KO}{f:HD}{fd:Ks}{N ps:Hr HY}{k:HB}{sp:Sp}(F:Fun K x qual st f fd)(S:FnScope N ps (aM st))(len:∀vs H Q E,sp vs H Q E->vs.length=ps.length)
  (hbody:∀(cdv:Hu) (A:IB) (outer:Hr OA) (s:Hw) (H:Hp) (vs:Hr V) (Q:VK) (E:XK),Room k (A.deeper (envOfC qual (aM st) s.heap.objs.size f cdv))->sp vs H Q E->
   ∃t,PSs (pQ uD P w K mg base N qual (aM st) f cdv A outer s H E).nox (bM st) t/\t { nx:=λ_ H'=>Q .non H',rt:=Q } (eW N vs) H):FnOk P w K mg base uD (k+1) f fd ps sp:=by
 obtain⟨oc,od,kV,doc,pm,an,cdv,ct,osl,rfl,lk,hcd⟩:=F.ex;refine DV lk hcd S len λA outer s H vs Q E hr hsp=>?_
 obtain⟨t,h,q⟩:=hbody cdv A outer s H vs Q E hr hsp;exact#[t,h.nox,q]
def Fun.binds {x qual:HY}{st:KO}{f:HD}{fd:Ks}{ps:Hr HY}(F:Fun K x qual st f fd)
  (h:∀(kV doc pm:Hu) (an:HA HD) (cdv ct:Hu) (us:Hr Hu),us.length=ps.length->bindArgs (Ke x qual (c7 st) (bM st) (aM st) .none kV doc pm an cdv ct) #[us,[]]=pure (ps.zip us)):Binds K fd ps []:=by
 obtain⟨oc,od,kV,doc,pm,an,cdv,ct,osl,rfl,lk,hcd⟩:=F.ex;exact .all (h kV doc pm an cdv ct)
def u8 {x qual:HY}{st:KO}{f:HD}{oc:Hu}{od an:HA HD}{osl:Ik (HA Hu)}{kV doc pm cdv ct:Hu}(l:K.lookup f=ba #[oc,od,.func (Ke x qual (c7 st) (bM st) (aM st) .none kV doc pm an cdv ct),osl])
  (c:KR K cdv qual=true) (k:JC K (.ref f)=true):Fun K x qual st f (Ke x qual (c7 st) (bM st) (aM st) .none kV doc pm an cdv ct):=#[#[oc,od,kV,doc,pm,an,cdv,ct,osl,rfl,l,c],k]
end
section
variable{X:Cx}
def pv (i:HB){x:HY}{pos:Kr}(hN:X.N[i]?=ba x:=by rfl)(hv:Fh X.env.scope x)(hd:(x==("__debug__" : HY))=false:=by decide)
  (hcd:(x==("__classdict__" : HY))=false:=by decide):PE X (.Name x pos) (Br i):=uH hN hv hd hcd
end
end L2
namespace Mi
open PySem PySem.Spec PyProof.Rows L2
abbrev eB (t:Jl)(n:HB):Il:=decide (KT t.place 0=0)&&(Ix n).all λi=>decide (KT t.place (t.place.getD i 0+1)=i+1)
abbrev dW (w:IE):Il:=w.params.followText "set-order"
inductive W where
 | non|bl (b:Il)|int (i:HM)|str (x:HY)|tup (xs:Hr W)|ref (i:HB)
inductive T where
 | int (i:HM)|str (x:HY)|tup (xs:Hr T)
mutual
noncomputable def T.beq:T->T->Il
 | .int i,.int j=>i==j
 | .str x,.str y=>x==y
 | .tup xs,.tup ys=>T.beqs xs ys
 | _,_=>false
noncomputable def T.beqs:Hr T->Hr T->Il
 | [],[]=>true
 | x::xs,y::ys=>T.beq x y&&T.beqs xs ys
 | _,_=>false
end
mutual
theorem T.beq_iff:∀x y:T,T.beq x y=true↔x=y
 | .int i,.int j=>by simp[T.beq]
 | .str x,.str y=>by simp[T.beq]
 | .tup xs,.tup ys=>by simp[T.beq,T.beqs_iff xs ys]
 | .int _,.str _|.int _,.tup _|.str _,.int _|.str _,.tup _|.tup _,.int _|.tup _,.str _=>by simp[T.beq]
theorem T.beqs_iff:∀xs ys:Hr T,T.beqs xs ys=true↔xs=ys
 | [],[]=>by simp[T.beqs]
 | x::xs,y::ys=>by simp[T.beqs,T.beq_iff x y,T.beqs_iff xs ys]
 | [],_::_|_::_,[]=>by simp[T.beqs]
end
noncomputable instance:Lf T:=λx y=>decidable_of_iff (T.beq x y=true) (T.beq_iff x y)
mutual
noncomputable def T.w:T->W
 | .int i=>.int i
 | .str x=>.str x
 | .tup xs=>.tup (T.ws xs)
noncomputable def T.ws:Hr T->Hr W
 | []=>[]
 | x::xs=>T.w x::T.ws xs
end
mutual
noncomputable def W.t:W->HA T
 | .int i=>ba (.int i)
 | .str x=>ba (.str x)
 | .tup xs=>(W.ts xs).map .tup
 | _=>gV
noncomputable def W.ts:Hr W->HA (Hr T)
 | []=>ba []
 | x::xs=>match W.t x,W.ts xs with
  | some y,ba ys=>ba (y::ys)
  | _,_=>gV
end
mutual
theorem W.t_w:∀ {w:W} {k:T},W.t w=ba k->k.w=w
 | .int i,_,h=>by cases h; rfl
 | .str x,_,h=>by cases h; rfl
 | .tup xs,_,h=>by
  simp only[W.t,Hy]at h;obtain⟨ks,h1,h2⟩:=h;subst h2;simp only[T.w,W.ts_w h1]
 | .non,_,h|.bl _,_,h|.ref _,_,h=>by cases h
theorem W.ts_w:∀ {ws:Hr W} {ks:Hr T},W.ts ws=ba ks->T.ws ks=ws
 | [],_,h=>by cases h; rfl
 | w::ws,_,h=>by
  simp only[W.ts]at h;split at h
  ·rename_i y ys h1 h2;cases h;simp only[T.ws,W.t_w h1,W.ts_w h2]
  ·cases h
end
mutual
theorem T.w_t:∀k:T,W.t k.w=ba k
 | .int _=>rfl
 | .str _=>rfl
 | .tup xs=>by simp only[T.w,W.t,T.ws_ts xs,IK]
theorem T.ws_ts:∀ks:Hr T,W.ts (T.ws ks)=ba ks
 | []=>rfl
 | x::xs=>by simp only[T.ws,W.ts,T.w_t x,T.ws_ts xs]
end
mutual
noncomputable def T.depth:T->HB
 | .tup xs=>T.depths xs+1
 | _=>0
noncomputable def T.depths:Hr T->HB
 | []=>0
 | x::xs=>max (T.depth x) (T.depths xs)
end
mutual
noncomputable def T.draws:T->HB
 | .tup xs=>T.drawss xs+1
 | _=>1
noncomputable def T.drawss:Hr T->HB
 | []=>0
 | x::xs=>T.draws x+T.drawss xs
end
mutual
noncomputable def dJ (wd:IE):T->HM
 | .int i=>hashInt i
 | .str x=>hashStr wd x
 | .tup xs=>reduceHash (Lw (gp wd xs))
noncomputable def gp (wd:IE):Hr T->Hr HM
 | []=>[]
 | x::xs=>dJ wd x::gp wd xs
end
abbrev T.isTup:T->Il
 | .tup _=>true
 | _=>false
abbrev ap:HB:=6
inductive O where
 | lst (xs:Hr W)
 | fro (xs:Hr W)
 | stt (ks:Hr T)
 | sti (n:HB)
 | rng (lo hi:HM)
 | dic (U:Hr (T×W))
 | frd (U:Hr (T×W))
noncomputable abbrev aa:=Hr O
noncomputable abbrev Fm:=Hr (HA W)
section
variable (K:HG) (A:Hr HD) (H:Hp)
mutual
inductive Rel:W->V->Prop
 | non:Rel .non .non
 | bl {b:Il}:Rel (.bl b) (.bl b)
 | int {i:HM}:Rel (.int i) (.int i)
 | str {x:HY}:Rel (.str x) (.str x)
 | tup {ws:Hr W} {a:HD} {vs:Hr V}:SqT K H a vs->RelL ws vs->Rel (.tup ws) (.ref a)
 | ref {i:HB} {a:HD}:A[i]?=ba a->Rel (.ref i) (.ref a)
inductive RelL:Hr W->Hr V->Prop
 | nil:RelL [] []
 | cons {w:W} {v:V} {ws:Hr W} {vs:Hr V}:Rel w v->RelL ws vs->RelL (w::ws) (v::vs)
end
end
section
variable{K:HG}{A A' A'':Hr HD}{H H' H'':Hp}
structure Ext (K:HG)(A:Hr HD)(H:Hp)(A':Hr HD)(H':Hp):Prop where
 ad:∀(i:HB) (a:HD),A[i]?=ba a->A'[i]?=ba a
 tp:∀(a:HD) (vs:Hr V),SqT K H a vs->SqT K H' a vs
 fz:∀(a:HD) (o:JJ) (u:HO),H a=ba (.frz o u)->H' a=ba (.frz o u)
def Ext.refl:Ext K A H A H:=#[λ_ _ h=>h,λ_ _ h=>h,λ_ _ _ h=>h]
def Ext.trans (e:Ext K A H A' H')(f:Ext K A' H' A'' H''):Ext K A H A'' H'':=#[λi a h=>f.ad i a (e.ad i a h),λa vs h=>f.tp a vs (e.tp a vs h),λa o u h=>f.fz a o u (e.fz a o u h)]
mutual
theorem Rel.mono (e:Ext K A H A' H'):∀ {w:W} {v:V},Rel K A H w v->Rel K A' H' w v
 | _,_,.non=>.non
 | _,_,.bl=>.bl
 | _,_,.int=>.int
 | _,_,.str=>.str
 | _,_,.tup h r=>.tup (e.tp _ _ h) (RelL.mono e r)
 | _,_,.ref h=>.ref (e.ad _ _ h)
theorem RelL.mono (e:Ext K A H A' H'):∀ {ws:Hr W} {vs:Hr V},RelL K A H ws vs->RelL K A' H' ws vs
 | _,_,.nil=>.nil
 | _,_,.cons r t=>.cons (Rel.mono e r) (RelL.mono e t)
end
def RelL.length:∀ {ws:Hr W} {vs:Hr V},RelL K A H ws vs->ws.length=vs.length
 | _,_,.nil=>rfl
 | _,_,.cons _ t=>by simp[RelL.length t]
def RelL.get:∀ {ws:Hr W} {vs:Hr V} {i:HB} {w:W},RelL K A H ws vs->ws[i]?=ba w->∃v,vs[i]?=ba v/\Rel K A H w v
 | _,_,_,_,.nil,e=>by simp at e
 | _,_,0,_,.cons r _,e=>by simp at e; subst e; exact#[_,rfl,r]
 | _,_,i+1,w,.cons _ t,e=>by
  obtain⟨u,h1,h2⟩:=RelL.get (i:=i) (w:=w) t (by simpa using e)
  exact#[u,by simpa using h1,h2]
def RelL.append:∀ {xs ys:Hr W} {us ws:Hr V},RelL K A H xs us->RelL K A H ys ws->RelL K A H (xs++ys) (us++ws)
 | _,_,_,_,.nil,s=>s
 | _,_,_,_,.cons r t,s=>.cons r (RelL.append t s)
def RelL.take:∀ {xs:Hr W} {us:Hr V} (n:HB),RelL K A H xs us->RelL K A H (xs.take n) (us.take n)
 | _,_,0,_=>.nil
 | _,_,_+1,.nil=>.nil
 | _,_,n+1,.cons r t=>.cons r (RelL.take n t)
def RelL.drop:∀ {xs:Hr W} {us:Hr V} (n:HB),RelL K A H xs us->RelL K A H (xs.drop n) (us.drop n)
 | _,_,0,r=>r
 | _,_,_+1,.nil=>.nil
 | _,_,n+1,.cons _ t=>RelL.drop n t
def RelL.set {x:W}{u:V}(r:Rel K A H x u):∀ {xs:Hr W} {us:Hr V} (i:HB),RelL K A H xs us->RelL K A H (xs.set i x) (us.set i u)
 | _,_,_,.nil=>.nil
 | _,_,0,.cons _ t=>.cons r t
 | _,_,i+1,.cons q t=>.cons q (RelL.set r i t)
def RelL.rep {xs:Hr W}{us:Hr V}(h:RelL K A H xs us):∀k:HB,RelL K A H (II k xs).flatten (II k us).flatten
 | 0=>.nil
 | k+1=>by
  rw[JR,JR,KG,KG];exact RelL.append h (RelL.rep h k)
def RelL.eraseIdx:∀ {xs:Hr W} {us:Hr V} (i:HB),RelL K A H xs us->RelL K A H (xs.eraseIdx i) (us.eraseIdx i)
 | _,_,_,.nil=>.nil
 | _,_,0,.cons _ t=>t
 | _,_,i+1,.cons r t=>.cons r (RelL.eraseIdx i t)
abbrev FroL (K:HG)(H:Hp)(a:HD)(vs:Hr V):Prop:=
 (∃o,H a=ba (.frz o (.lst vs)))\/
  ∃(o:JJ) (its:Ik Hu) (n:HB),K.lookup a=ba o/\o.cls=.type "list"/\o.dict=gV/\o.data=.seq its n/\its.size<=sizeLine/\Vals vs its.toList
def FroL.sq {a:HD}{vs:Hr V}(h:FroL K H a vs):SqL K H a vs:=by
 rcases h with⟨o,h⟩|h
 ·exact .inl (.inr #[o,h])
 ·exact .inr h
abbrev u9 (wd:IE)(x:T×HD×Hu):Kj:=#[dJ wd x.1,.ref x.2.1,x.2.2]
abbrev DicAt (wd:IE)(a:HD)(xs:Hr (T×HD×Hu))(h:IJ):Prop:=
 xs.length<=sizeLine/\(a==sysModules)=false/\(xs.map (·.1)).Nodup/\∃o es ep,h.get? a=ba o/\o.ExactDict/\o.data=.dict es ep/\es.toList=xs.map (u9 wd)
abbrev dt (wd:IE)(a:HD)(xs:Hr (T×HD×Hu)):HO:=.ext (DicAt wd a xs)
abbrev KRel (K:HG)(A:Hr HD)(H:Hp):Hr (T×W)->Hr (T×HD×Hu)->Prop:=
 Nf λ(p:T×W) (q:T×HD×Hu)=>p.1=q.1/\p.1.isTup=true/\p.1.depth<=ap/\Rel K A H p.1.w (.ref q.2.1)/\∃v,Rel K A H p.2 v/\RelV v q.2.2
def KRel.mono (e:Ext K A H A' H'){U:Hr (T×W)}{xs:Hr (T×HD×Hu)}(h:KRel K A H U xs):KRel K A' H' U xs:=
 Paired.mapP h λ_ _ #[h1,h2,h3,h4,v,h5,h6]=>#[h1,h2,h3,h4.mono e,v,h5.mono e,h6]
variable{wd:IE}
abbrev yO (wd:IE)(as:Hr HD)(o:JJ):Prop:=o.ExactSet/\∃es ep t,o.data=.set es ep t/\es.size<=sizeLine/\t.fits es.size=true/\t.led=(!dW wd)/\(t.plain=true->es.size=0\/eB t es.size=true)/\es.toList.map (·.2)=as.map IA
abbrev B4 (n:HB)(o:JJ):Prop:=o.ExactSet/\∃es ep t,o.data=.set es ep t/\es.size=n/\t.fits es.size=true
abbrev ObjRel (wd:IE)(K:HG)(A:Hr HD)(H:Hp)(a:HD):O->Prop
 | .lst ws=>∃vs,H a=ba (.lst vs)/\RelL K A H ws vs
 | .fro ws=>∃vs,FroL K H a vs/\RelL K A H ws vs
 | .stt ks=>∃o φ as,H a=ba (.frz o (.ext φ))/\yO wd as o/\RelL K A H (T.ws ks) (as.map V.ref)
 | .sti n=>∃o φ,H a=ba (.frz o (.ext φ))/\B4 n o
 | .rng lo hi=>H a=ba (.rng lo hi)
 | .dic U=>∃xs,H a=ba (dt wd a xs)/\KRel K A H U xs
 | .frd U=>∃o xs,H a=ba (.frz o (dt wd a xs))/\KRel K A H U xs
abbrev O.mut:O->Il
 | .fro _=>false
 | .stt _=>false
 | .sti _=>false
 | .rng _ _=>false
 | .frd _=>false
 | _=>true
structure StoreOk (wd:IE)(K:HG)(A:Hr HD)(H:Hp)(S:aa):Prop where
 len:A.length=S.length
 nd:∀(i j:HB) (a:HD) (o u:O),S[i]?=ba o->o.mut=true->S[j]?=ba u->u.mut=true->A[i]?=ba a->A[j]?=ba a->i=j
 obj:∀(i:HB) (o:O) (a:HD),S[i]?=ba o->A[i]?=ba a->ObjRel wd K A H a o
abbrev EnvRel (K:HG)(A:Hr HD)(H:Hp)(Z:Fm)(Y:L2.St):Prop:=
 Z.length=Y.length/\∀(i:HB) (w:W),Z[i]?=ba (ba w)->∃v,Y[i]?=ba (ba v)/\Rel K A H w v
def EnvRel.mono {Z:Fm}{Y:L2.St}(e:Ext K A H A' H')(h:EnvRel K A H Z Y):EnvRel K A' H' Z Y:=
 #[h.1,λi w q=>let ⟨v,a,b⟩:=h.2 i w q; #[v,a,b.mono e]]
def EnvRel.set {Z:Fm}{Y:L2.St}{w:W}{v:V}(h:EnvRel K A H Z Y)(r:Rel K A H w v)(i:HB):EnvRel K A H (Z.set i (ba w)) (Y.set i (ba v)):=by
 refine#[by simp[h.1],λj w' q=>?_]
 rw[J5]at q ⊢
 by_cases e:i=j
 ·subst e;rw[Ic rfl]at q ⊢
  by_cases hl:i < Z.length
  ·rw[Ic hl]at q;rw[Ic (h.1 ▸ hl)];cases q;exact#[v,rfl,r]
  ·rw[Im hl]at q; cases q
 ·rw[Im e]at q ⊢;exact h.2 j w' q
abbrev Wr (H:Hp)(p:HD):Prop:=H p=gV\/(∃xs,H p=ba (.lst xs))\/(∃φ,H p=ba (.ext φ))\/∃ks,H p=ba (.dK ks)
def Wr.lst {p:HD}{xs:Hr V}(h:H p=ba (.lst xs)):Wr H p:=.inr (.inl #[xs,h])
def Wr.ext {p:HD}{φ:IJ->Prop}(h:H p=ba (.ext φ)):Wr H p:=.inr (.inr (.inl #[φ,h]))
def Wr.ne_tup {p a:HD}{xs:Hr V}(hp:Wr H p)(h:H a=ba (.tup xs)):a≠p:=by
 intro e; subst e
 rcases hp with q|⟨xs,q⟩|⟨φ,q⟩|⟨ks,q⟩ <;> (rw[h]at q; cases q)
def Wr.ne_frz {p a:HD}{o:JJ}{u:HO}(hp:Wr H p)(h:H a=ba (.frz o u)):a≠p:=by
 intro e; subst e
 rcases hp with q|⟨xs,q⟩|⟨φ,q⟩|⟨ks,q⟩ <;> (rw[h]at q; cases q)
def Wr.ne_rng {p a:HD}{lo hi:HM}(hp:Wr H p)(h:H a=ba (.rng lo hi)):a≠p:=by
 intro e; subst e
 rcases hp with q|⟨xs,q⟩|⟨φ,q⟩|⟨ks,q⟩ <;> (rw[h]at q; cases q)
def qV {p:HD}{o:HO}(hp:Wr H p){a:HD}{vs:Hr V}(h:SqT K H a vs):SqT K (bc H p o) a vs:=by
 rcases h with(h|⟨o',h⟩)|h
 ·exact .inl (.inl (by rw[ay (hp.ne_tup h)]; exact h))
 ·exact .inl (.inr #[o',by rw[ay (hp.ne_frz h)]; exact h])
 ·exact .inr h
def vc {p:HD}{o:HO}(hp:Wr H p){a:HD}{vs:Hr V}(h:FroL K H a vs):FroL K (bc H p o) a vs:=by
 rcases h with⟨o',h⟩|h
 ·exact .inl #[o',by rw[ay (hp.ne_frz h)]; exact h]
 ·exact .inr h
def bN {p:HD}{o:HO}(hp:Wr H p):Ext K A H A (bc H p o):=#[λ_ _ h=>h,λ_ _ h=>qV hp h,λ_ _ _ h=>by rw[ay (hp.ne_frz h)]; exact h]
def bY {p:HD}{o:HO}(hp:H p=gV):Ext K A H (A++[p]) (bc H p o):=
 #[λi a h=>by rw[IN (HH.mp h).1]; exact h,λ_ _ h=>qV (.inl hp) h,λ_ _ _ h=>by rw[ay (Wr.ne_frz (.inl hp) h)]; exact h]
def ObjRel.keep {p a:HD}{o:HO}{b:O}(hp:Wr H p)(hne:b.mut=true->a≠p)(e:Ext K A H A' (bc H p o))(h:ObjRel wd K A H a b):ObjRel wd K A' (bc H p o) a b:=by
 cases b with
 | lst ws=>
  obtain⟨vs,q,r⟩:=h;exact#[vs,by rw[ay (hne rfl)]; exact q,r.mono e]
 | fro ws=>
  obtain⟨vs,q,r⟩:=h;exact#[vs,vc hp q,r.mono e]
 | stt ks=>
  obtain⟨ob,φ,as,q,r1,r2⟩:=h;exact#[ob,φ,as,by rw[ay (hp.ne_frz q)]; exact q,r1,r2.mono e]
 | sti n=>
  obtain⟨ob,φ,q,r1⟩:=h;exact#[ob,φ,by rw[ay (hp.ne_frz q)]; exact q,r1]
 | rng lo hi=>
  have h:H a=ba (.rng lo hi):=h;show bc H p o a=ba (.rng lo hi);rw[ay (hp.ne_rng h)];exact h
 | dic U=>
  obtain⟨xs,q,r⟩:=h;exact#[xs,by rw[ay (hne rfl)]; exact q,r.mono e]
 | frd U=>
  obtain⟨ob,xs,q,r⟩:=h;exact#[ob,xs,by rw[ay (hp.ne_frz q)]; exact q,r.mono e]
def ObjRel.there {a:HD}{b:O}(h:ObjRel wd K A H a b)(hm:b.mut=true):H a≠gV:=by
 cases b with
 | lst ws=>obtain⟨vs,q,r⟩:=h; rw[q]; intro z; cases z
 | fro ws=>cases hm
 | stt ws=>cases hm
 | sti _=>cases hm
 | rng lo hi=>cases hm
 | dic U=>obtain⟨vs,q,r⟩:=h; rw[q]; intro z; cases z
 | frd ws=>cases hm
def ObjRel.wr {a:HD}{b:O}(h:ObjRel wd K A H a b)(hm:b.mut=true):Wr H a:=by
 cases b with
 | lst ws=>obtain⟨vs,q,r⟩:=h; exact .lst q
 | fro ws=>cases hm
 | stt ws=>cases hm
 | sti _=>cases hm
 | rng lo hi=>cases hm
 | dic U=>obtain⟨vs,q,r⟩:=h; exact .ext q
 | frd ws=>cases hm
def StoreOk.lay {S:aa}{p:HD}{o:HO}(h:StoreOk wd K A H S)(hp:H p=gV):StoreOk wd K A (bc H p o) S:=
 #[h.len,h.nd,λi b a e ea=>(h.obj i b a e ea).keep (.inl hp) (λhm z=>(h.obj i b a e ea).there hm (z ▸ hp)) (bN (.inl hp))]
def StoreOk.pushO {S:aa}{p:HD}{n:O}{u:HO}(h:StoreOk wd K A H S)(hp:H p=gV)(r:ObjRel wd K (A++[p]) (bc H p u) p n):StoreOk wd K (A++[p]) (bc H p u) (S++[n]):=by
 have ex:Ext K A H (A++[p]) (bc H p u):=bY hp;have old:∀ {i:HB} {o:O} {a:HD},(S++[n])[i]?=ba o->(A++[p])[i]?=ba a->i < S.length->S[i]?=ba o/\A[i]?=ba a:=λ{i o a} e ea hl=>by
  rw[IN hl]at e;rw[IN (h.len ▸ hl)]at ea;exact#[e,ea]
 have new:∀ {i:HB} {o:O} {a:HD},(S++[n])[i]?=ba o->(A++[p])[i]?=ba a->¬ i < S.length->i=S.length/\o=n/\a=p:=λ{i o a} e ea hl=>by
  have hi:i=S.length:=by
   have:=(HH.mp e).1;simp at this;omega
  subst hi;simp at e;rw[<- h.len]at ea;simp at ea;exact#[rfl,e.symm,ea.symm]
 refine#[by simp[h.len],λi j a o u e1 m1 e2 m2 a1 a2=>?_,λi o a e ea=>?_]
 ·by_cases hi:i < S.length <;> by_cases hj:j < S.length
  ·obtain⟨x1,y1⟩:=old e1 a1 hi;obtain⟨x2,y2⟩:=old e2 a2 hj;exact h.nd i j a o u x1 m1 x2 m2 y1 y2
  ·obtain⟨x1,y1⟩:=old e1 a1 hi;obtain⟨_,_,z⟩:=new e2 a2 hj;subst z;exact absurd hp ((h.obj i o a x1 y1).there m1)
  ·obtain⟨x2,y2⟩:=old e2 a2 hj;obtain⟨_,_,z⟩:=new e1 a1 hi;subst z;exact absurd hp ((h.obj j u a x2 y2).there m2)
  ·rw[(new e1 a1 hi).1,(new e2 a2 hj).1]
 ·by_cases hi:i < S.length
  ·obtain⟨x1,y1⟩:=old e ea hi;exact(h.obj i o a x1 y1).keep (.inl hp) (λhm z=>(h.obj i o a x1 y1).there hm (z ▸ hp)) ex
  ·obtain⟨_,rfl,rfl⟩:=new e ea hi;exact r
def StoreOk.push {S:aa}{p:HD}{ws:Hr W}{vs:Hr V}(h:StoreOk wd K A H S)(hp:H p=gV)(r:RelL K A H ws vs):StoreOk wd K (A++[p]) (bc H p (.lst vs)) (S++[.lst ws]):=
 h.pushO hp #[vs,aA,r.mono (bY hp)]
def StoreOk.writeO {S:aa}{i:HB}{p:HD}{o0 n:O}{u:HO}(h:StoreOk wd K A H S)(e:S[i]?=ba o0)(m0:o0.mut=true)(ea:A[i]?=ba p)(r:ObjRel wd K A (bc H p u) p n) :
  StoreOk wd K A (bc H p u) (S.set i n)/\Ext K A H A (bc H p u):=by
 have hw:Wr H p:=(h.obj i _ p e ea).wr m0;have ex:Ext K A H A (bc H p u):=bN hw;have hl:i < S.length:=(HH.mp e).1;refine#[#[by simp[h.len],λj k a o u e1 m1 e2 m2 a1 a2=>?_,λj o a e1 a1=>?_],ex]
 ·have get:∀ {j:HB} {o:O},(S.set i n)[j]?=ba o->o.mut=true->∃o',S[j]?=ba o'/\o'.mut=true:=λ{j o} q m=>by
   rw[J5]at q
   by_cases z:i=j
   ·subst z; exact#[_,e,m0]
   ·rw[Im z]at q; exact#[o,q,m]
  obtain⟨o',x1,m1'⟩:=get e1 m1;obtain⟨u',x2,m2'⟩:=get e2 m2;exact h.nd j k a o' u' x1 m1' x2 m2' a1 a2
 ·rw[J5]at e1
  by_cases z:i=j
  ·subst z;rw[Ic rfl,Ic hl]at e1;cases e1;rw[ea]at a1; cases a1
   exact r
  ·rw[Im z]at e1;exact(h.obj j o a e1 a1).keep hw (λhm q=>z (h.nd i j p _ o e m0 e1 hm ea (q ▸ a1))) ex
def StoreOk.write {S:aa}{i:HB}{p:HD}{ws:Hr W}{us:Hr V}{ws0:Hr W}(h:StoreOk wd K A H S)(e:S[i]?=ba (.lst ws0))(ea:A[i]?=ba p)(r:RelL K A H ws us) :
  StoreOk wd K A (bc H p (.lst us)) (S.set i (.lst ws))/\Ext K A H A (bc H p (.lst us)):=
 h.writeO e rfl ea #[us,aA,r.mono (bN ((h.obj i _ p e ea).wr rfl))]
end
abbrev eO (S:aa)(i:HB):HA (Hr W):=match S[i]? with
 | some (.lst xs)=>ba xs
 | some (.fro xs)=>ba xs
 | _=>gV
abbrev mW (S:aa)(i:HB):HA (Hr W):=match S[i]? with
 | some (.lst xs)=>ba xs
 | _=>gV
abbrev kD (S:aa)(xs:Hr W):HA (W×aa):=if xs.length<=sizeLine then ba (.ref S.length,S++[.lst xs])else gV
abbrev pV (S:aa)(xs:Hr W):HA (W×aa):=if xs.length<=sizeLine then ba (.tup xs,S)else gV
abbrev yP (j:HM):Il:=decide (0 < j)&&decide (j < 1073741824)
abbrev sQ (i j:HM):Il:=(decide (-(2 ^ 64) < i)&&decide (i < 2 ^ 64))||(decide (-(2 ^ 64) < j)&&decide (j < 2 ^ 64))
abbrev D0 (i j:HM):Il:=decide (0<=j)&&decide (j<=1000000)&&decide (i.natAbs < 2 ^ 64)
inductive BOp where|add|sub|mul|fdiv|mod|pow
 deriving Lf
abbrev yh (c:HM->HM->Il)(f:HM->HM->HM)(x y:W)(S:aa):HA (W×aa):=match x,y with
 | .int i,.int j=>if c i j then ba (.int (f i j),S)else gV
 | _,_=>gV
abbrev sR (x y:W)(S:aa):HA (W×aa):=match x with
 | .int i=>match y with
  | .int j=>ba (.int (i+j),S)
  | _=>gV
 | .str x=>match y with
  | .str y=>if x.length+y.length<=sizeLine then ba (.str (x++y),S)else gV
  | _=>gV
 | .tup xs=>match y with
  | .tup ys=>pV S (xs++ys)
  | _=>gV
 | .ref i=>match y with
  | .ref j=>match mW S i,mW S j with
   | some xs,ba ys=>kD S (xs++ys)
   | _,_=>gV
  | _=>gV
 | _=>gV
abbrev vd (x y:W)(S:aa):HA (W×aa):=match x with
 | .str x=>match y with
  | .int k=>if k < 2 ^ 24/\-(2 ^ 24)<=k/\x.length*k.toNat<=sizeLine then ba (.str (RD x k),S)else gV
  | _=>gV
 | .ref i=>match y with
  | .int k=>match mW S i with
   | some xs=>if k < 2 ^ 24/\-(2 ^ 24)<=k/\xs.length*k.toNat<=sizeLine then kD S (II k.toNat xs).flatten else gV
   | none=>gV
  | _=>gV
 | x=>yh sQ (· * ·) x y S
abbrev eS:BOp->W->W->aa->HA (W×aa)
 | .add,x,y,S=>sR x y S
 | .sub,x,y,S=>yh (λ_ _=>true) (· - ·) x y S
 | .mul,x,y,S=>vd x y S
 | .fdiv,x,y,S=>yh (λ_ j=>yP j) (· / ·) x y S
 | .mod,x,y,S=>yh (λ_ j=>decide (0 < j)) (· % ·) x y S
 | .pow,x,y,S=>yh D0 (λi j=>i ^ j.toNat) x y S
abbrev BOp.py:BOp->OD
 | .add=>.Add|.sub=>.Sub|.mul=>.Mult|.fdiv=>.FloorDiv|.mod=>.Mod|.pow=>.Pow
section
variable (X:Cx)
abbrev cY (J:Hr (HD×JJ))(Y:L2.St)(A:Hr HD)(H:Hp)(S':aa)(w:W)(u:Hu)(s':Hw):Prop:=
 ∃v H' A',Inv X J Y H' s'/\RelV v u/\Ext X.K A H A' H'/\StoreOk X.w X.K A' H' S'/\Rel X.K A' H' w v
noncomputable abbrev FE:=Fm->aa->HA (W×aa)
abbrev LOp (f:Hu->Hu->QP Hu)(g:W->W->aa->HA (W×aa)):Prop:=
 ∀(J:Hr (HD×JJ)) (s:Hw) (Y:L2.St) (H:Hp) (A:Hr HD) (S:aa) (x y:W) (a b:V) (u v:Hu) (w:W) (S':aa),Inv X J Y H s->StoreOk X.w X.K A H S->
  Rel X.K A H x a->RelV a u->Rel X.K A H y b->RelV b v->g x y S=ba (w,S')->wpAny (model X.prog X.w) X.A (f u v) (cY X J Y A H S' w) X.xe s
end
section
variable{X:Cx}
def jr {S:aa}{i:HB}{xs:Hr W}(h:mW S i=ba xs):S[i]?=ba (.lst xs):=by
 unfold mW at h;split at h
 ·cases h; assumption
 ·cases h
def dX {A:Hr HD}{H:Hp}{S:aa}{i:HB}{xs:Hr W}{a:HD}(so:StoreOk X.w X.K A H S)(h:mW S i=ba xs)(ea:A[i]?=ba a):∃vs,H a=ba (.lst vs)/\RelL X.K A H xs vs:=
 so.obj i _ a (jr h) ea
def aR {A:Hr HD}{H:Hp}{S:aa}{i:HB}{xs:Hr W}{a:HD}(so:StoreOk X.w X.K A H S)(h:eO S i=ba xs)(ea:A[i]?=ba a):∃vs,SqL X.K H a vs/\RelL X.K A H xs vs:=by
 unfold eO at h;split at h
 ·cases h;obtain⟨vs,q,r⟩:=so.obj i _ a (by assumption) ea
  exact#[vs,.of q,r]
 ·cases h;obtain⟨vs,q,r⟩:=so.obj i _ a (by assumption) ea
  exact#[vs,q.sq,r]
 ·cases h
def jd {S S':aa}{xs:Hr W}{w:W}(h:kD S xs=ba (w,S')):xs.length<=sizeLine/\w=.ref S.length/\S'=S++[.lst xs]:=by
 unfold kD at h;split at h
 ·cases h; exact#[by assumption,rfl,rfl]
 ·cases h
def qW {S S':aa}{xs:Hr W}{w:W}(h:pV S xs=ba (w,S')):xs.length<=sizeLine/\w=.tup xs/\S'=S:=by
 unfold pV at h;split at h
 ·cases h; exact#[by assumption,rfl,rfl]
 ·cases h
def yQ {A:Hr HD}{H:Hp}{S:aa}{ws:Hr W}{vs:Hr V}{Q:VK}{p:HD}(so:StoreOk X.w X.K A H S)(r:RelL X.K A H ws vs)(hp:H p=gV)
  (q:∀v H' A',Ext X.K A H A' H'->StoreOk X.w X.K A' H' (S++[.lst ws])->Rel X.K A' H' (.ref S.length) v->Q v H'):Q (.ref p) (bc H p (.lst vs)):=
 q _ _ (A++[p]) (bY hp) (so.push hp r) (.ref (by rw[<- so.len]; simp))
def yR {A:Hr HD}{H:Hp}{S:aa}{ws:Hr W}{vs:Hr V}{Q:VK}{p:HD}(so:StoreOk X.w X.K A H S)(r:RelL X.K A H ws vs)(hp:H p=gV)
  (q:∀v H' A',Ext X.K A H A' H'->StoreOk X.w X.K A' H' S->Rel X.K A' H' (.tup ws) v->Q v H'):Q (.ref p) (bc H p (.tup vs)):=
 q _ _ A (bN (.inl hp)) (so.lay hp) (.tup (.of aA) (r.mono (bN (.inl hp))))
abbrev D1 (K:HG):R2:=λx y H Q=>∃a b xs ys,x=.ref a/\y=.ref b/\SqT K H a xs/\SqT K H b ys/\xs.length+ys.length<=sizeLine/\
 (xs=[]->Q (.ref b) H)/\(ys=[]->Q (.ref a) H)/\(∀p,H p=gV->Q (.ref p) (bc H p (.tup (xs++ys))))
def yS:OpR X (binaryOp .Add) (D1 X.K):=by
 intro J s Y H x y v u Q I rx ry h;obtain⟨a,b,xs,ys,rfl,rfl,ha,hb,hz,q0,q1,q2⟩:=h;cases rx;cases ry;obtain⟨its,r1,p1,_⟩:=I.tuple ha;obtain⟨its2,r2,p2,_⟩:=I.tuple hb
 by_cases hx:xs=[]
 ·obtain⟨⟨cls,dd,data,sl⟩,ho,hc,n,hd⟩:=id p1;obtain⟨⟨cls2,dd2,data2,sl2⟩,ho2,hc2,n2,hd2⟩:=id p2;simp only at hc hd hc2 hd2;subst hc hd hc2 hd2;exact OF #[_,ho,rfl] #[_,ho2,rfl] Na Oa LQ LM (LC _ _)
   (tuple_addW0 a b its.toArray its2.toArray n n2 dd dd2 sl sl2 (by simp[r1.nil_iff.mpr hx])) #[ho,ho2,#[.ref b,H,I,rfl,q0 hx]]
 ·refine HT.yD p1 p2 (λz=>hx (r1.nil_iff.mp z)) (λz=>#[.ref a,H,I,rfl,q1 (r2.nil_iff.mp z)]) (λz=>?_) (by rw[<- r1.length,<- r2.length]; exact hz)
  refine#[.ref s.heap.objs.size,_,I.laid (t':=s.toks) (o:=.tup (xs++ys)) (λb ob q=>Ht _ q) (HE _) ?_,rfl,q2 _ (I.hok.fresh (HE _))]
  exact#[by rw[HK]; exact hz,_,r1.append r2,OY _ _]
def RelL.nil_iff {K:HG}{A:Hr HD}{H:Hp}{ws:Hr W}{vs:Hr V}(r:RelL K A H ws vs):vs=[]↔ws=[]:=by
 cases r <;> simp
def pW:OpR X (binaryOp .Mult) (λx y H Q=>∃z k,x=.str z/\y=.int k/\MulOk z k/\Q (.str (RD z k)) H):=by
 intro J s Y H x y v u Q I rx ry h;obtain⟨z,k,rfl,rfl,ok,q⟩:=h;obtain⟨t,rfl⟩:=rx;obtain⟨t',rfl⟩:=ry;exact SB.mul ok λt2 k2=>#[.str _,H,I.tok _,#[_,rfl],q]
def ve {x:HY}{k:HM}(h1:k < 16777216)(h2 : -16777216<=k)(h3:x.length*k.toNat<=sizeLine):MulOk x k:=by
 have hs:sizeLine=16777216:=IX;rw[hs]at h3;refine#[?_,λa b=>?_,λ_ _=>?_]
 ·rw[Bool.or_eq_false_iff];exact#[Iz ∅,Iz ∅]
 ·have hk:0 < k:=∅
  have e:(x.length:HM)*k=((x.length*k.toNat:HB):HM):=by
   rw[Nt,N4 ∅]
  intro hgt;have h4:(2 ^ 63 - 1:HM) < (x.length:HM)*k:=(Int.ediv_lt_iff_lt_mul hk).mp hgt;rw[e]at h4;generalize x.length*k.toNat=z at h3 h4;omega
 ·unfold P2;rw[hs];exact Iz ∅
abbrev EndV (wd:IE)(K:HG)(A:Hr HD)(H:Hp)(S':aa)(w:W):VK:=λv H'=>∃A',Ext K A H A' H'/\StoreOk wd K A' H' S'/\Rel K A' H' w v
def EndV.here {A:Hr HD}{H:Hp}{S:aa}{w:W}{v:V}(so:StoreOk X.w X.K A H S)(r:Rel X.K A H w v):EndV X.w X.K A H S w v H:=#[A,.refl,so,r]
def EndV.lst {A:Hr HD}{H:Hp}{S:aa}{ws:Hr W}{vs:Hr V}{p:HD}(so:StoreOk X.w X.K A H S)(r:RelL X.K A H ws vs)(hp:H p=gV):EndV X.w X.K A H (S++[.lst ws]) (.ref S.length) (.ref p) (bc H p (.lst vs)):=
 yQ (Q:=EndV X.w X.K A H (S++[.lst ws]) (.ref S.length)) so r hp λv H' A' a b c=>#[A',a,b,c]
def EndV.tup {A:Hr HD}{H:Hp}{S:aa}{ws:Hr W}{vs:Hr V}{p:HD}(so:StoreOk X.w X.K A H S)(r:RelL X.K A H ws vs)(hp:H p=gV):EndV X.w X.K A H S (.tup ws) (.ref p) (bc H p (.tup vs)):=
 yR (Q:=EndV X.w X.K A H S (.tup ws)) so r hp λv H' A' a b c=>#[A',a,b,c]
def EP.post {J:Hr (HD×JJ)}{Y:L2.St}{A:Hr HD}{H:Hp}{S':aa}{w:W}{u:Hu}{s':Hw}(h:EP X J Y (EndV X.w X.K A H S' w) u s'):cY X J Y A H S' w u s':=by
 obtain⟨v,H',I',r,A',x,y,z⟩:=h;exact#[v,H',A',I',r,x,y,z]
def OpR.go {f:Hu->Hu->QP Hu}{r:R2}(h:OpR X f r){J:Hr (HD×JJ)}{Y:L2.St}{A:Hr HD}{H:Hp}{S':aa}{w:W}{s:Hw}{a b:V}{u v:Hu}(I:Inv X J Y H s)(ru:RelV a u)(rv:RelV b v)
  (q:r a b H (EndV X.w X.K A H S' w)):wpAny (model X.prog X.w) X.A (f u v) (cY X J Y A H S' w) X.xe s:=bf (h J s Y H a b u v _ I ru rv q) λ_ _=>EP.post
def yT:LOp X (binaryOp .Add) (eS .add):=by
 intro J s Y H A S x y a b u v w S' I so rx ru ry rv e;cases rx with
 | int=>cases ry with
  | int=>cases e; exact OpR.go BL I ru rv #[_,_,rfl,rfl,.here so .int]
  | _=>cases e
 | str=>cases ry with
  | str=>
   dsimp only[eS,sR]at e;split at e
   ·cases e; exact OpR.go pP I ru rv #[_,_,rfl,rfl,by assumption,.here so .str]
   ·cases e
  | _=>cases e
 | tup h1 r1=>cases ry with
  | tup h2 r2=>
   obtain⟨hl,rfl,rfl⟩:=qW (show pV S _=_ from e)
   rw[HK,r1.length,r2.length]at hl;refine OpR.go yS I ru rv #[_,_,_,_,rfl,rfl,h1,h2,hl,λz=>?_,λz=>?_,λp hp=>.tup so (r1.append r2) hp]
   ·have z':=r1.nil_iff.mp z;subst z';exact .here so (.tup h2 r2)
   ·have z':=r2.nil_iff.mp z;subst z';rw[Jp];exact .here so (.tup h1 r1)
  | _=>cases e
 | ref h1=>cases ry with
  | ref h2=>
   dsimp only[eS,sR]at e;split at e
   ·obtain⟨hl,rfl,rfl⟩:=jd e;obtain⟨vs,q1,r1⟩:=dX so (by assumption) h1
    obtain⟨us,q2,r2⟩:=dX so (by assumption) h2
    rw[HK,r1.length,r2.length]at hl;exact OpR.go B2 I ru rv #[_,_,_,_,rfl,rfl,q1,q2,hl,λp hp=>.lst so (r1.append r2) hp]
   ·cases e
  | _=>cases e
 | _=>cases e
def nv {f:Hu->Hu->QP Hu}{c:HM->HM->Il}{g:HM->HM->HM}{r:R2}(h:OpR X f r)(hr:∀i j H Q,c i j=true->Q (.int (g i j)) H->r (.int i) (.int j) H Q):LOp X f (yh c g):=by
 intro J s Y H A S x y a b u v w S' I so rx ru ry rv e;cases rx with
 | int=>cases ry with
  | int=>
   unfold yh at e;dsimp only at e;split at e
   ·cases e; exact OpR.go h I ru rv (hr _ _ _ _ (by assumption) (.here so .int))
   ·cases e
  | _=>cases e
 | _=>cases e
def yU:LOp X (binaryOp .Sub) (eS .sub):=nv BM λ_ _ _ _ _ q=>#[_,_,rfl,rfl,q]
def yV {i j:HM}(h:sQ i j=true):CMul i j:=by
 unfold sQ at h;rw[JY,Hz,Hz,HQ,HQ,HQ,HQ]at h;exact h
def yW:LOp X (binaryOp .Mult) (eS .mul):=by
 have hI:LOp X (binaryOp .Mult) (yh sQ (· * ·)):=nv BN λ_ _ _ _ h q=>#[_,_,rfl,rfl,yV h,q]
 intro J s Y H A S x y a b u v w S' I so rx ru ry rv e;cases x with
 | str z=>
  cases rx with
  | str=>cases ry with
   | int=>
    dsimp only[eS,vd]at e;split at e
    ·rename_i hc;cases e; exact OpR.go pW I ru rv #[_,_,rfl,rfl,ve ∅ ∅ hc.2.2,.here so .str]
    ·cases e
   | _=>cases e
 | ref z=>
  cases rx with
  | ref h1=>cases ry with
   | int=>
    dsimp only[eS,vd]at e;split at e
    ·split at e
     ·rename_i hc;obtain⟨hl,rfl,rfl⟩:=jd e;obtain⟨vs,q1,r1⟩:=dX so (by assumption) h1
      rw[r1.length]at hc;exact OpR.go B3 I ru rv #[_,_,_,rfl,rfl,q1,∅,∅,hc.2.2,λp hp=>.lst so (r1.rep _) hp]
     ·cases e
    ·cases e
   | _=>cases e
 | _=>exact hI _ _ _ _ _ _ _ _ _ _ _ _ _ _ I so rx ru ry rv e
def vf:LOp X (binaryOp .FloorDiv) (eS .fdiv):=nv yy λ_ _ _ _ h q=>#[_,_,rfl,rfl,by
 unfold yP at h;rw[Hz,HQ,HQ]at h;exact h,q]
def yX:LOp X (binaryOp .Mod) (eS .mod):=nv BO λ_ _ _ _ h q=>#[_,_,rfl,rfl,IQ h,q]
def yY:LOp X (binaryOp .Pow) (eS .pow):=nv BP λ_ _ _ _ h q=>#[_,_,rfl,rfl,by
 unfold D0 at h;rw[Hz,Hz,HQ,HQ,HQ]at h;exact#[h.1.1,h.1.2,h.2],q]
def qX (o:BOp):LOp X (binaryOp o.py) (eS o):=by
 cases o
 ·exact yT
 ·exact yU
 ·exact yW
 ·exact vf
 ·exact yX
 ·exact yY
end
abbrev gq (f:W->W->HA Il):Hr W->Hr W->HA Il
 | [],[]=>ba true
 | [],_::_=>ba false
 | _::_,[]=>ba false
 | x::xs,y::ys=>match f x y,gq f xs ys with
  | some a,ba b=>ba (a&&b)
  | _,_=>gV
abbrev b2 (b:Il):HM:=if b then 1 else 0
abbrev iq (S:aa):HB->W->W->HA Il
 | _,.non,y=>match y with
  | .non=>ba true
  | _=>gV
 | _,.bl a,y=>match y with
  | .bl b=>ba (a==b)
  | _=>gV
 | _,.int a,y=>match y with
  | .int b=>ba (a==b)
  | _=>gV
 | _,.str a,y=>match y with
  | .str b=>ba (a==b)
  | _=>gV
 | 0,_,_=>gV
 | d+1,.tup xs,y=>match y with
  | .tup ys=>gq (iq S d) xs ys
  | _=>gV
 | d+1,.ref i,y=>match y with
  | .ref j=>match mW S i,mW S j with
   | some xs,ba ys=>if xs.length=ys.length then gq (iq S d) xs ys else ba false
   | _,_=>gV
  | _=>gV
section
variable{X:Cx}{J:Hr (HD×JJ)}{Y:L2.St}{H:Hp}{s:Hw}{A:Hr HD}{S:aa}
abbrev RU (K:HG)(A:Hr HD)(H:Hp)(w:W)(u:Hu):Prop:=∃v,Rel K A H w v/\RelV v u
def qY {ws:Hr W}{vs:Hr V}{us:Hr Hu}(r:RelL X.K A H ws vs)(q:Vals vs us):∀(j:HB) (h1:j < ws.length) (h2:j < us.length),RU X.K A H ws[j] us[j]:=by
 induction ws generalizing vs us with
 | nil=>intro j h1; simp at h1
 | cons w ws ih=>
  cases r with
  | cons r1 rr=>
   cases q with
   | cons q1 qq=>
    intro j h1 h2;cases j with
    | zero=>exact#[_,r1,q1]
    | succ j=>exact ih rr qq j (by simpa using h1) (by simpa using h2)
def vg {ws:Hr W}{u:Hu}(I:Inv X J Y H s)(h:RU X.K A H (.tup ws) u):∃a its,u=.ref a/\Oz s.heap a its/\its.size=ws.length/\ws.length<=sizeLine/\∀(j:HB) (h1:j < ws.length) (h2:j < its.size),RU X.K A H ws[j] its[j]:=by
 obtain⟨v,r,q⟩:=h;cases r with
 | tup sq rl=>
  obtain⟨its,rv,ht,hz⟩:=I.tuple sq;refine#[_,its.toArray,q,ht,by rw[HL,<- rv.length,rl.length],by rw[rl.length]; exact hz,λj h1 h2=>?_]
  have:=qY rl rv j h1 (by simpa using h2)
  simpa using this
def vh {i:HB}{ws:Hr W}{u:Hu}(I:Inv X J Y H s)(so:StoreOk X.w X.K A H S)(e:mW S i=ba ws)(h:RU X.K A H (.ref i) u):∃a its,u=.ref a/\A[i]?=ba a/\s.heap.IsList a its/\its.size=ws.length/\ws.length<=sizeLine/\∀(j:HB) (h1:j < ws.length) (h2:j < its.size),RU X.K A H ws[j] its[j]:=by
 obtain⟨v,r,q⟩:=h;cases r with
 | ref ea=>
  obtain⟨vs,hq,rl⟩:=dX so e ea;obtain⟨its,rv,ht,hz⟩:=I.list (.of hq);refine#[_,its.toArray,q,ea,ht.isList,by rw[HL,<- rv.length,rl.length],by rw[rl.length]; exact hz,λj h1 h2=>?_]
  have:=qY rl rv j h1 (by simpa using h2)
  simpa using this
def jt {f:W->W->HA Il}:∀ {xs ys:Hr W} {k:Il},gq f xs ys=ba k->∃e:HB->Il,(∀(j:HB) (h1:j < xs.length) (h2:j < ys.length),f xs[j] ys[j]=ba (e j))/\
  k=((Ix (min xs.length ys.length)).all e&&xs.length==ys.length)
 | [],[],k,h=>#[λ_=>true,λj h1=>by simp at h1,by cases h; rfl]
 | [],_::_,k,h=>#[λ_=>true,λj h1=>by simp at h1,by cases h; simp]
 | _::_,[],k,h=>#[λ_=>true,λj h1 h2=>by simp at h2,by cases h; simp]
 | x::xs,y::ys,k,h=>by
  dsimp only[gq]at h;split at h
  ·rename_i a b ha hb;cases h;obtain⟨e,h1,h2⟩:=jt hb;refine#[λj=>match j with|0=>a|j+1=>e j,λj hj1 hj2=>?_,?_]
   ·cases j with
    | zero=>exact ha
    | succ j=>exact h1 j (by simpa using hj1) (by simpa using hj2)
   ·subst h2;simp only[IW,Nat.add_min_add_right,Nk,IY,Qt,Bool.and_assoc];congr 2;simp
  ·cases h
def yZ (I:Inv X J Y H s)(so:StoreOk X.w X.K A H S):∀(d:HB) {x y:W} {v:V} {k:Il},Rel X.K A H x v->Rel X.K A H y v->iq S d x y=ba k->k=true:=by
 intro d
 induction d with
 | zero=>
  intro x y v k rx ry e;cases rx with
  | non=>cases ry; cases e; rfl
  | bl=>cases ry; cases e; exact IS _
  | int=>cases ry; cases e; exact IS _
  | str=>cases ry; cases e; exact IS _
  | tup _ _=>cases e
  | ref _=>cases e
 | succ d ih=>
  have lists:∀ {xs ys:Hr W} {vs:Hr V} {k:Il},RelL X.K A H xs vs->RelL X.K A H ys vs->gq (iq S d) xs ys=ba k->k=true:=by
   intro xs
   induction xs with
   | nil=>
    intro ys vs k r1 r2 e;cases r1; cases r2; cases e; rfl
   | cons x xs ihx=>
    intro ys vs k r1 r2 e;cases r1 with
    | cons p1 q1=>
     cases r2 with
     | cons p2 q2=>
      dsimp only[gq]at e;split at e
      ·rename_i a b ha hb;cases e;rw[ih p1 p2 ha,ihx q1 q2 hb];rfl
      ·cases e
  intro x y v k rx ry e;cases rx with
  | non=>cases ry; cases e; rfl
  | bl=>cases ry; cases e; exact IS _
  | int=>cases ry; cases e; exact IS _
  | str=>cases ry; cases e; exact IS _
  | tup h1 r1=>
   cases ry with
   | tup h2 r2=>
    rw[I.tuple_inj h1 h2]at r1;exact lists r1 r2 e
   | ref ea=>cases e
  | ref ea=>
   cases ry with
   | tup h2 r2=>cases e
   | ref eb=>
    dsimp only[iq]at e;split at e
    ·rename_i xs ys hx hy;have:=so.nd _ _ _ _ _ (jr hx) rfl (jr hy) rfl ea eb;subst this;rw[hx]at hy; cases hy
     rw[Ic rfl]at e;obtain⟨vs,q,r⟩:=dX so hx ea;exact lists r r e
    ·cases e
def aB (A:IB):A.in1.units=A.units+1:=rfl
noncomputable abbrev Do (B:IB)(s:Hw)(u v:Hu)(k:Il):Prop:=SeqAt.RcAt B s u v k/\SeqAt.RcNeAt B s u v (!k)/\L1 B s u v k
open SeqAt in
def AN (I:Inv X J Y H s)(so:StoreOk X.w X.K A H S):∀(d:HB) (B:IB) {x y:W} {u v:Hu} {k:Il},B.units+d < cLine->RU X.K A H x u->RU X.K A H y v->iq S d x y=ba k->Do B s u v k:=by
 have non:∀ {B:IB} {y:W} {u v:Hu} {k:Il} {d:HB},RU X.K A H .non u->RU X.K A H y v->iq S d .non y=ba k->Do B s u v k:=by
  intro B y u v k d ⟨_,rx,ra⟩ ⟨_,ry,rb⟩ e;cases rx;cases(show u=IP from ra)
  cases y with
  | non=>
   have e:ba (true)=ba k:=by cases d <;> exact e
   cases e;cases ry;cases(show v=IP from rb)
   exact#[.none_none,.none_none,.same _]
  | _=>cases d <;> cases e
 have bl:∀ {B:IB} {b:Il} {y:W} {u v:Hu} {k:Il} {d:HB},RU X.K A H (.bl b) u->RU X.K A H y v->iq S d (.bl b) y=ba k->Do B s u v k:=by
  intro B b y u v k d ⟨_,rx,ra⟩ ⟨_,ry,rb⟩ e;cases rx;cases(show u=Lg _ from ra)
  cases y with
  | bl c=>
   have e:ba (b==c)=ba k:=by cases d <;> exact e
   cases e;cases ry;cases(show v=Lg _ from rb)
   exact#[.bool_bool _ _,.bool_bool _ _,.bool_bool _ _]
  | _=>cases d <;> cases e
 have int:∀ {B:IB} {b:HM} {y:W} {u v:Hu} {k:Il} {d:HB},RU X.K A H (.int b) u->RU X.K A H y v->iq S d (.int b) y=ba k->Do B s u v k:=by
  intro B b y u v k d ⟨_,rx,ra⟩ ⟨_,ry,rb⟩ e;cases rx;obtain⟨t0,rfl⟩ : ∃t,u=M9 _ t:=ra;cases y with
  | int c=>
   have e:ba (b==c)=ba k:=by cases d <;> exact e
   cases e;cases ry;obtain⟨t,rfl⟩ : ∃t,v=M9 _ t:=rb;exact#[.int_int _ _ _ _,.int_int _ _ _ _,.int_int _ _ _ _]
  | _=>cases d <;> cases e
 have str:∀ {B:IB} {b:HY} {y:W} {u v:Hu} {k:Il} {d:HB},RU X.K A H (.str b) u->RU X.K A H y v->iq S d (.str b) y=ba k->Do B s u v k:=by
  intro B b y u v k d ⟨_,rx,ra⟩ ⟨_,ry,rb⟩ e;cases rx;obtain⟨t0,rfl⟩ : ∃t,u=L0 _ t:=ra;cases y with
  | str c=>
   have e:ba (b==c)=ba k:=by cases d <;> exact e
   cases e;cases ry;obtain⟨t,rfl⟩ : ∃t,v=L0 _ t:=rb;exact#[.str_str _ _ _ _,.str_str _ _ _ _,.str_str _ _ _ _]
  | _=>cases d <;> cases e
 intro d
 induction d with
 | zero=>
  intro B x y u v k hu rx ry e;cases x with
  | non=>exact non rx ry e
  | bl b=>exact bl rx ry e
  | int b=>exact int rx ry e
  | str b=>exact str rx ry e
  | _=>cases e
 | succ d ih=>
  intro B x y u v k hu rx ry e;have hu0:B.units < cLine:=∅
  have hu1:B.in1.units+d < cLine:=by rw[aB]; omega
  have rx0:=rx;have ry0:=ry;have fin:∀ {a b:HD},u=.ref a->v=.ref b->RcAt B s u v k->RcNeAt B s u v (!k)->Do B s u v k:=by
   intro a b ea eb h1 h2;subst ea eb;refine#[h1,h2,?_]
   by_cases hab:a=b
   ·subst hab;obtain⟨v1,q1,z1⟩:=rx0;obtain⟨v2,q2,z2⟩:=ry0;have e12:v1=v2:=z1.inj z2;subst e12;have:=yZ I so (d+1) q1 q2 e;subst this;exact EqAt.same _
   ·exact EqAt.of_refs hab h1
  cases x with
  | non=>exact non rx ry e
  | bl b=>exact bl rx ry e
  | int b=>exact int rx ry e
  | str b=>exact str rx ry e
  | tup xs=>
   cases y with
   | tup ys=>
    obtain⟨a,its,rfl,ht,hs,_,hi⟩:=vg I rx;obtain⟨b,its2,rfl,ht2,hs2,_,hi2⟩:=vg I ry;obtain⟨f,h1,h2⟩:=jt (show gq (iq S d) xs ys=ba k from e)
    have he:∀j (h1:j < its.size) (h2:j < its2.size),EqAt B.in1 s its[j] its2[j] (f j):=λj j1 j2=>
     (ih B.in1 hu1 (hi j (hs ▸ j1) j1) (hi2 j (hs2 ▸ j2) j2) (h1 j (hs ▸ j1) (hs2 ▸ j2))).2.2
    rw[<- hs,<- hs2]at h2;subst h2;exact fin rfl rfl (RcAt.tuples ht ht2 hu0 he) (RcNeAt.tuples ht ht2 hu0 he)
   | _=>cases e
  | ref i=>
   cases y with
   | ref j=>
    dsimp only[iq]at e;split at e
    ·rename_i ws ws2 hw hw2;obtain⟨a,its,rfl,_,hl,hs,_,hi⟩:=vh I so hw rx;obtain⟨b,its2,rfl,_,hl2,hs2,_,hi2⟩:=vh I so hw2 ry;split at e
     ·rename_i hlen;obtain⟨f,h1,h2⟩:=jt e;have he:∀j (h1:j < its.size) (h2:j < its2.size),EqAt B.in1 s its[j] its2[j] (f j):=λj j1 j2=>
       (ih B.in1 hu1 (hi j (hs ▸ j1) j1) (hi2 j (hs2 ▸ j2) j2) (h1 j (hs ▸ j1) (hs2 ▸ j2))).2.2
      have hk:k=(Ix its.size).all f:=by rw[h2,hs,hlen]; simp
      subst hk;exact fin rfl rfl (RcAt.lists hl hl2 (by rw[hs,hs2,hlen]) hu0 he) (RcNeAt.lists hl hl2 (by rw[hs,hs2,hlen]) hu0 he)
     ·rename_i hlen;cases e;have hb:(its.size != its2.size)=true:=by rw[hs,hs2]; simpa using hlen
      exact fin rfl rfl (RcAt.lists_lengths hl hl2 hb hu0) (RcNeAt.lists_lengths hl hl2 hb hu0)
    ·cases e
   | _=>cases e
end
abbrev LtAt (B:IB)(s:Hw)(u v:Hu)(k:Il):Prop:=
 ∀(prog:Iw) (w:IE) (E:Hu->Hw->Prop) (Q:Hu->Hw->Prop),Q (.bool k) s->wpAny (model prog w) B (richCompare .Lt u v) Q E s
inductive LexR (B:IB)(s:Hw):Hr Hu->Hr Hu->Il->Prop
 | nn:LexR B s [] [] false
 | nc {v:Hu} {vs:Hr Hu}:LexR B s [] (v::vs) true
 | cn {v:Hu} {vs:Hr Hu}:LexR B s (v::vs) [] false
 | eq {u v:Hu} {us vs:Hr Hu} {k:Il}:L1 B s u v true->LexR B s us vs k->LexR B s (u::us) (v::vs) k
 | ne {u v:Hu} {us vs:Hr Hu} {k:Il}:L1 B s u v false->LtAt B s u v k->LexR B s (u::us) (v::vs) k
section
open PySem.SeqAt
open PySem.AutoSeq1 (wpAny_loadPart')
open PySem.MeetsSeq PySem.MeetsSeq2 PySem.MeetsSeq3
def lU (l b:HD)(items items2:Ik Hu)(n n2:HB)(dd dd2:HA HD)(sl sl2:Ik (HA Hu))(k:Il) :
  Meets (KI.«tuple.__lt__» #[[.ref l,.ref b],[]])
   (λB R s=>s.heap.get? l=ba { cls:=.type "tuple",dict:=dd,data:=.seq items n,slots:=sl }/\s.heap.get? b=ba { cls:=.type "tuple",dict:=dd2,data:=.seq items2 n2,slots:=sl2 }/\
    LexR B.in1 s items.toList items2.toList k/\R (.ok (.ret (.bool k))) s):=
 .of_wp λprog w A R s h=>by
  obtain⟨hp,g,d,tk,os⟩:=s; obtain⟨hl,hb,hx,h⟩:=h
  have f2:=Qa;have z1:items.toList.length=items.size:=by simp
  have z2:items2.toList.length=items2.size:=by simp
  wp_walk using Mb hl,Mb hb,Ls _ (λbe b s'=>b.1=gV/\s'=#[hp,g,d,tk,os]/\∃(vs ws:Hr Hu),be=vs.zip ws/\
   LexR A.in1 #[hp,g,d,tk,os] vs ws k/\vs.length+items2.size=ws.length+items.size) _
  case turn=>
   rintro⟨y,x⟩ be b s' ⟨hb',rfl,vs,ws,hz,hlx,hlen⟩;cases hlx with
   | nn=>rw[OM]at hz; cases hz
   | nc=>rw[OM]at hz; cases hz
   | cn=>rw[List.zip_nil_right]at hz; cases hz
   | eq he hr=>
    rw[K7]at hz;injection hz with hyx hrest
    injection hyx with hy hx
    subst hy hx;simp only[IW]at hlen;refine Hs (he prog w _ _ ?_)
    wp_walk
    exact#[rfl,rfl,_,_,hrest,hr,∅]
   | ne he hr=>
    rw[K7]at hz;injection hz with hyx hrest
    injection hyx with hy hx
    subst hy hx;refine Hs (he prog w _ _ ?_);have hri:=hr prog w
    wp_walk using hri
    exact#[_,rfl,by simpa using h]
  case fin=>
   rintro⟨b1,b2⟩ s' ⟨hb',rfl,vs,ws,hz,hlx,hlen⟩;simp only at hb';subst hb';have hv:k=decide (items.size < items2.size):=by
    cases hlx with
    | nn=>simp only[J8]at hlen; exact(Iz ∅).symm
    | nc=>simp only[J8,IW]at hlen; exact(JL ∅).symm
    | cn=>simp only[J8,IW]at hlen; exact(Iz ∅).symm
    | eq _ _=>rw[K7]at hz; cases hz
    | ne _ _=>rw[K7]at hz; cases hz
   subst hv
   wp_walk
   exact#[_,rfl,by simpa [OV]using h]
  case h=>
   exact#[rfl,rfl,items.toList,items2.toList,rfl,hx,∅]
end
def LtAt.tuples {B:IB}{s:Hw}{l b:HD}{items items2:Ik Hu}{k:Il}(hl:Oz s.heap l items)(hb:Oz s.heap b items2)(hu:B.units < cLine)(hx:LexR B.in1 s items.toList items2.toList k) :
  LtAt B s (.ref l) (.ref b) k:=λprog w E Q h=>by
 obtain⟨⟨cls,dd,data,sl⟩,ho,hc,n,hd⟩:=id hl;obtain⟨⟨cls2,dd2,data2,sl2⟩,ho2,hc2,n2,hd2⟩:=id hb;simp only at hc hd hc2 hd2;subst hc hd hc2 hd2;exact richCompare_meets_room (op:=.Lt) #[_,ho,rfl] #[_,ho2,rfl] PySem.F.slot_tuple_lt PySem.F.entry_tuple_lt (PySem.F.args_tuple_lt_2 _ _) (lU l b items items2 n n2 dd dd2 sl sl2 k)
  #[ho,ho2,hx,show Lg k≠Value.notImplemented/\Q (.bool k) s from#[(λx=>nomatch x),h]] hu
inductive COp where|eq|ne|lt|le|gt|ge|isin|notin|is|isnot
 deriving Lf
abbrev COp.py:COp->Qp
 | .eq=>.Eq|.ne=>.NotEq|.lt=>.Lt|.le=>.LtE|.gt=>.Gt|.ge=>.GtE|.isin=>.In|.notin=>.NotIn|.is=>.Is|.isnot=>.IsNot
abbrev bG:W->Il
 | .non=>true
 | .bl _=>true
 | .int _=>true
 | .str _=>true
 | _=>false
abbrev yi:W->W->Il
 | .non,.non=>true
 | .bl a,.bl b=>a==b
 | .bl a,.int b=>b2 a==b
 | .int a,.bl b=>a==b2 b
 | .int a,.int b=>a==b
 | .str a,.str b=>a==b
 | _,_=>false
abbrev dL (S:aa):W->HA (Hr W)
 | .tup xs=>ba xs
 | .ref i=>eO S i
 | _=>gV
noncomputable abbrev gr:HB:=20
abbrev AO (x y:W)(S:aa):HA Il:=match dL S y with
 | some ys=>if bG x&&ys.all bG then ba (ys.any λz=>yi z x)else gV
 | none=>gV
abbrev vk:W->Il
 | .non=>true
 | _=>false
abbrev vm (f:HM->HM->Il):W->W->HA Il
 | .int i,.int j=>ba (f i j)
 | _,_=>gV
abbrev Dp:COp->W->W->aa->HA Il
 | .eq,x,y,S=>iq S gr x y
 | .ne,x,y,S=>(iq S gr x y).map (!·)
 | .lt,x,y,_=>vm (λi j=>decide (i < j)) x y
 | .le,x,y,_=>vm (λi j=>decide (i<=j)) x y
 | .gt,x,y,_=>vm (λi j=>decide (j < i)) x y
 | .ge,x,y,_=>vm (λi j=>decide (j<=i)) x y
 | .isin,x,y,S=>AO x y S
 | .notin,x,y,S=>(AO x y S).map (!·)
 | .is,x,y,_=>if vk y then ba (vk x)else gV
 | .isnot,x,y,_=>if vk y then ba (!vk x)else gV
abbrev iu (o:COp)(x y:W)(S:aa):HA (W×aa):=(Dp o x y S).map λk=>(.bl k,S)
section
variable{X:Cx}
def qZ {J:Hr (HD×JJ)}{Y:L2.St}{H:Hp}{s:Hw}{A:Hr HD}{S:aa}{k:Il}(I:Inv X J Y H s)(so:StoreOk X.w X.K A H S):cY X J Y A H S (.bl k) (.bool k) s:=
 #[.bl k,H,A,I,rfl,.refl,so,.bl]
def y4 {o:COp}{x y w:W}{S S':aa}(h:iu o x y S=ba (w,S')):∃k,Dp o x y S=ba k/\w=.bl k/\S'=S:=by
 unfold iu at h;rw[Hy]at h;obtain⟨k,h1,h2⟩:=h;cases h2;exact#[k,h1,rfl,rfl]
def nw {A:Hr HD}{H:Hp}{w:W}{v:V}(r:Rel X.K A H w v)(f:bG w=true):fT v=true:=by
 cases r <;> first|rfl|cases f
def kR {A:Hr HD}{H:Hp}:∀ {ws:Hr W} {vs:Hr V},RelL X.K A H ws vs->ws.all bG=true->vs.all fT=true
 | _,_,.nil,_=>rfl
 | _,_,.cons r t,f=>by
  rw[IY,Hz]at f ⊢;exact#[nw r f.1,kR t f.2]
def y6 {A:Hr HD}{H:Hp}{x y:W}{u v:V}(r:Rel X.K A H x u)(q:Rel X.K A H y v)(fx:bG x=true)(fy:bG y=true):yJ u v=yi x y:=by
 cases r <;> cases q <;> first|rfl|cases fx|cases fy
def q8 {A:Hr HD}{H:Hp}{y:W}{v:V}(q:Rel X.K A H y v)(fy:bG y=true):∀ {ws:Hr W} {vs:Hr V},RelL X.K A H ws vs->ws.all bG=true->Fk v vs=ws.any λz=>yi z y
 | _,_,.nil,_=>rfl
 | _,_,.cons r t,f=>by
  rw[IY,Hz]at f;have:=q8 q fy t f.2;unfold Fk at this ⊢;rw[Ko,Ko,y6 r q f.1 fy,this]
def lV {J:Hr (HD×JJ)}{Y:L2.St}{H:Hp}{s:Hw}{A:Hr HD}{S:aa}{y:W}{b:V}{ys:Hr W}(so:StoreOk X.w X.K A H S)(r:Rel X.K A H y b)(e:dL S y=ba ys):∃p vs,b=.ref p/\(SqL X.K H p vs\/SqT X.K H p vs)/\RelL X.K A H ys vs:=by
 cases r with
 | tup h1 r1=>cases e; exact#[_,_,rfl,.inr h1,r1]
 | ref ea=>
  obtain⟨vs,h1,r1⟩:=aR so e ea;exact#[_,vs,rfl,.inl h1,r1]
 | _=>cases e
def vn {neg:Il}{o:Qp}(ho:OpR X (compareOp o) (F7 X.K neg)){J:Hr (HD×JJ)}{Y:L2.St}{H:Hp}{s:Hw}{A:Hr HD}{S:aa}{x y:W}{a b:V}{u v:Hu}{ys:Hr W}(I:Inv X J Y H s)(so:StoreOk X.w X.K A H S)
  (rx:Rel X.K A H x a) (ru:RelV a u) (ry:Rel X.K A H y b) (rv:RelV b v) (e:dL S y=ba ys) (f:(bG x&&ys.all bG)=true) :
  wpAny (model X.prog X.w) X.A (compareOp o u v) (cY X J Y A H S (.bl (if neg then !ys.any λz=>yi z x else ys.any λz=>yi z x))) X.xe s:=by
 obtain⟨p,vs,rfl,hq,rl⟩:=lV (J:=J) (Y:=Y) (s:=s) so ry e;rw[Hz]at f;refine OpR.go ho I ru rv #[p,vs,rfl,hq,nw rx f.1,kR rl f.2,?_];rw[q8 rx f.1 rl f.2];exact .here so .bl
def y8 (hu:X.A.units+gr < cLine)(o:COp):LOp X (compareOp o.py) (iu o):=by
 intro J s Y H A S x y a b u v w S' I so rx ru ry rv e;obtain⟨k,ek,e1,e2⟩:=y4 e;subst e1;subst e2;clear e
 rename aa=>S
 have twoI:∀ {f:HM->HM->Il},vm f x y=ba k->∃i j,x=.int i/\y=.int j/\k=f i j:=by
  intro f h;cases x with
  | int i=>cases y with
   | int j=>cases h; exact#[i,j,rfl,rfl,rfl]
   | _=>cases h
  | _=>cases h
 have hu1:X.A.units+1 < cLine:=by have:gr=20:=rfl; omega
 have ofSq:∀ {c:Il},AO x y S=ba c->(∃ys,dL S y=ba ys/\(bG x&&ys.all bG)=true/\c=ys.any λz=>yi z x):=by
  intro c h;unfold AO at h;split at h
  ·split at h
   ·cases h; exact#[_,by assumption,by assumption,rfl]
   ·cases h
  ·cases h
 have ofN:∀ {c:Il},(if vk y then ba c else gV)=ba k->y=.non/\k=c:=by
  intro c h;cases y with
  | non=>cases h; exact#[rfl,rfl]
  | _=>cases h
 cases o with
 | eq=>exact(AN I so gr X.A hu #[a,rx,ru] #[b,ry,rv] ek).1 _ _ _ _ (qZ I so)
 | ne=>
  obtain⟨k',h1,rfl⟩:=Hy.mp ek;exact(AN I so gr X.A hu #[a,rx,ru] #[b,ry,rv] h1).2.1 _ _ _ _ (qZ I so)
 | lt=>
  obtain⟨i,j,rfl,rfl,rfl⟩:=twoI ek;cases rx; cases ry
  exact OpR.go DO I ru rv #[_,_,rfl,rfl,.here so .bl]
 | le=>
  obtain⟨i,j,rfl,rfl,rfl⟩:=twoI ek;cases rx; cases ry
  exact OpR.go DP I ru rv #[_,_,rfl,rfl,.here so .bl]
 | gt=>
  obtain⟨i,j,rfl,rfl,rfl⟩:=twoI ek;cases rx; cases ry
  exact OpR.go DQ I ru rv #[_,_,rfl,rfl,.here so .bl]
 | ge=>
  obtain⟨i,j,rfl,rfl,rfl⟩:=twoI ek;cases rx; cases ry
  exact OpR.go DR I ru rv #[_,_,rfl,rfl,.here so .bl]
 | isin=>
  obtain⟨ys,h1,h2,rfl⟩:=ofSq ek;exact vn (neg:=false) sL I so rx ru ry rv h1 h2
 | notin=>
  obtain⟨c,h,rfl⟩:=Hy.mp ek;obtain⟨ys,h1,h2,rfl⟩:=ofSq h;exact vn (neg:=true) lR I so rx ru ry rv h1 h2
 | is=>
  obtain⟨rfl,rfl⟩:=ofN ek;cases ry;refine OpR.go BR I ru rv #[rfl,?_];cases rx <;> exact .here so .bl
 | isnot=>
  obtain⟨rfl,rfl⟩:=ofN ek;cases ry;refine OpR.go yz I ru rv #[rfl,?_];cases rx <;> exact .here so .bl
end
end Mi
namespace HT
open PySem PyProof.Rows
section
variable{prog:Iw}{w:IE}{A:IB}{E:Hu->Hw->Prop}{s:Hw}
def fN {t sl:HD}{items:Ik Hu}{vl vu:Hu}{lo hi:HA HM}{Q:Hu->Hw->Prop}(ht:Oz s.heap t items)(hs:s.heap.IsSliceOf sl vl vu .none)(pl:Mx vl lo)(pu:Mx vu hi)
  (hw:bI items.size 0 lo=0/\bI items.size items.size hi=items.size) (h:Q (.ref t) s):wpAny (model prog w) A (getItem (.ref t) (.ref sl)) Q E s:=by
 obtain⟨os,hos,hcs,hds⟩:=id hs;have hTs:s.TypeIs (.ref sl) "slice":=#[os,hos,hcs];unfold getItem
 try with_reducible refine Jg ?_
 first|refine Hs (Hx ?_)|skip
 refine Hs (OG ht.typeIs #v[] ?_)
 refine Hs (IV (name:=JX "__getitem__") ht.typeIs J9
  (Jb J9 ht.typeIs N3 ?_ (Om _ _)))
 show wpAny _ _ (Lh (.ref t) >>= _) _ _ s;refine Hs (P6 ht ?_);refine Hs (K6 hTs ?_);rw[Ic #v[]]
 refine Hs (d8 hs pl pu ?_);have hyes:((((bI items.size 0 lo:HB):HM)==0&&(1:HM)==1&&(bI items.size items.size hi - bI items.size 0 lo)==items.size)=true):=by
  rw[hw.1,hw.2];simp
 show wpAny _ _ (if (((bI items.size 0 lo:HB):HM)==0&&(1:HM)==1&&(bI items.size items.size hi - bI items.size 0 lo)==items.size)=true then _ else _) _ _ s
 rw[Ic hyes];unfold PL;refine Hs (Hs (K6 ht.typeIs (Hx ?_)));rw[Ic #v[]]
 exact Hs (Mv (Hs (Hx (Hx #[_,rfl,Hx h]))))
end
end HT
namespace Mi
open PySem PySem.Spec PyProof.Rows L2
abbrev sS (x y:W)(S:aa):HA (W×aa):=match x,y with
 | .tup xs,.int i=>(nr xs i).map λw=>(w,S)
 | .ref r,.int i=>match eO S r with
  | some xs=>(nr xs i).map λw=>(w,S)
  | none=>gV
 | .str x,.int i=>if x.length<=sizeLine then(nr x.cps.toList i).map λc=>(.str #[[c].toArray],S)else gV
 | _,_=>gV
abbrev ju (xs:Hr W)(lo hi:HA HM):Hr W:=(xs.drop (HT.bI xs.length 0 lo)).take (HT.bI xs.length xs.length hi - HT.bI xs.length 0 lo)
abbrev uE (x:W)(lo hi:HA HM)(S:aa):HA (W×aa):=match x with
 | .tup xs=>ba (.tup (ju xs lo hi),S)
 | .ref r=>match eO S r with
  | some xs=>ba (.ref S.length,S++[.lst (ju xs lo hi)])
  | none=>gV
 | _=>gV
abbrev sT (o i v:W)(S:aa):HA aa:=match o,i with
 | .ref r,.int k=>match mW S r with
  | some xs=>match qT xs.length k with
   | some j=>ba (S.set r (.lst (xs.set j v)))
   | none=>gV
  | none=>gV
 | _,_=>gV
section
variable (X:Cx)
abbrev LIx (g:W->W->aa->HA (W×aa)):Prop:=
 ∀(value slice:Ii) (J:Hr (HD×JJ)) (s:Hw) (Y:L2.St) (H:Hp) (A:Hr HD) (S:aa) (x y:W) (a b:V) (u v:Hu) (w:W) (S':aa),Inv X J Y H s->StoreOk X.w X.K A H S->
  Rel X.K A H x a->RelV a u->Rel X.K A H y b->RelV b v->g x y S=ba (w,S')->subscripted slice false u v=operate [u,v] (getItem u v)->wpAny (model X.prog X.w) X.A (subscriptTail value slice u v) (cY X J Y A H S' w) X.xe s
abbrev LSl (g:W->HA HM->HA HM->aa->HA (W×aa)):Prop:=
 ∀(J:Hr (HD×JJ)) (s:Hw) (Y:L2.St) (H:Hp) (A:Hr HD) (S:aa) (x:W) (a:V) (v vl vu:Hu) (lo hi:HA HM) (sl:HD) (w:W) (S':aa),Inv X J Y H s->StoreOk X.w X.K A H S->
  Rel X.K A H x a->RelV a v->s.heap.IsSliceOf sl vl vu .none->Mx vl lo->Mx vu hi->g x lo hi S=ba (w,S')->
  ∃T id,typeLookup (.type T) "__getitem__" = pure (ba (.builtin id))/\s.TypeIs v T/\wpAny (model X.prog X.w) X.A (getItem v (.ref sl)) (cY X J Y A H S' w) X.xe s
abbrev LSet (g:W->W->W->aa->HA aa):Prop:=
 ∀(J:Hr (HD×JJ)) (s:Hw) (Y:L2.St) (H:Hp) (A:Hr HD) (S:aa) (o i x:W) (ao ai ax:V) (uo ui ux:Hu) (S':aa),Inv X J Y H s->StoreOk X.w X.K A H S->
  Rel X.K A H o ao->RelV ao uo->Rel X.K A H i ai->RelV ai ui->Rel X.K A H x ax->RelV ax ux->g o i x S=ba S'->
  wpAny (model X.prog X.w) X.A (setItem uo ui ux) (λ_ s'=>∃H' A',Inv X J Y H' s'/\Ext X.K A H A' H'/\StoreOk X.w X.K A' H' S') X.xe s
abbrev LCall (f:Hu)(g:Hr W->aa->HA (W×aa)):Prop:=
 ∀(J:Hr (HD×JJ)) (s:Hw) (Y:L2.St) (H:Hp) (A:Hr HD) (S:aa) (xs:Hr W) (vs:Hr V) (us:Hr Hu) (w:W) (S':aa),Inv X J Y H s->StoreOk X.w X.K A H S->
  RelL X.K A H xs vs->Vals vs us->g xs S=ba (w,S')->wpAny (model X.prog X.w) X.A (call f us) (cY X J Y A H S' w) X.xe s
abbrev kS (id:Jy)(g:W->Hr W->aa->HA (W×aa)):Prop:=
 ∀(J:Hr (HD×JJ)) (s:Hw) (Y:L2.St) (H:Hp) (A:Hr HD) (S:aa) (x:W) (a:V) (u:Hu) (xs:Hr W) (vs:Hr V) (us:Hr Hu) (w:W) (S':aa),Inv X J Y H s->StoreOk X.w X.K A H S->
  Rel X.K A H x a->RelV a u->RelL X.K A H xs vs->Vals vs us->g x xs S=ba (w,S')->wpAny (model X.prog X.w) X.A (call (.builtin id) (u::us)) (cY X J Y A H S' w) X.xe s
end
section
variable{X:Cx}{J:Hr (HD×JJ)}{Y:L2.St}{H:Hp}{s:Hw}{A:Hr HD}{S:aa}
def IxR.go {r:R2}(h:IxR X r){S':aa}{w:W}{a b:V}{u v:Hu}{value slice:Ii}(I:Inv X J Y H s)(ru:RelV a u)(rv:RelV b v)(q:r a b H (EndV X.w X.K A H S' w))(hs:subscripted slice false u v=operate [u,v] (getItem u v)) :
  wpAny (model X.prog X.w) X.A (subscriptTail value slice u v) (cY X J Y A H S' w) X.xe s:=bf (h value slice J s Y H a b u v _ I ru rv q hs) λ_ _=>EP.post
def CallR.go {f:Hu}{r:Hr V->Hp->VK->Prop}(h:CallR X f r){S':aa}{w:W}{vs:Hr V}{us:Hr Hu}(I:Inv X J Y H s)(rv:Vals vs us)(q:r vs H (EndV X.w X.K A H S' w)) :
  wpAny (model X.prog X.w) X.A (call f us) (cY X J Y A H S' w) X.xe s:=bf (h J s Y H vs us _ I rv q) λ_ _=>EP.post
def MtR.go {id:Jy}{r:V->Hr V->Hp->VK->Prop}(h:MtR X id r){S':aa}{w:W}{a:V}{u:Hu}{vs:Hr V}{us:Hr Hu}(I:Inv X J Y H s)(ru:RelV a u)(rv:Vals vs us)(q:r a vs H (EndV X.w X.K A H S' w)) :
  wpAny (model X.prog X.w) X.A (call (.builtin id) (u::us)) (cY X J Y A H S' w) X.xe s:=bf (h J s Y H a vs u us _ I ru rv q) λ_ _=>EP.post
def q9 {xs:Hr W}{vs:Hr V}{i:HM}{w:W}(r:RelL X.K A H xs vs)(e:nr xs i=ba w):∃v,nr vs i=ba v/\Rel X.K A H w v:=by
 unfold nr at e ⊢;rw[r.length]at e;cases q:qT vs.length i with
 | none=>rw[q]at e; cases e
 | some j=>
  rw[q]at e;obtain⟨v,h1,h2⟩:=r.get (show xs[j]?=ba w from e)
  exact#[v,h1,h2]
def Hd (hu:X.A.units+10 < cLine):LIx X sS:=by
 intro value slice J s Y H A S x y a b u v w S' I so rx ru ry rv e hs;cases rx with
 | tup h1 r1=>cases ry with
  | int=>
   (dsimp only[sS]at e; simp only[Hy]at e)
   obtain⟨w',e1,e2⟩:=e;cases e2;obtain⟨z,h2,r2⟩:=q9 r1 e1;exact IxR.go BY I ru rv #[_,_,_,_,rfl,rfl,h1,h2,.here so r2] hs
  | _=>cases e
 | ref ea=>cases ry with
  | int=>
   dsimp only[sS]at e;split at e
   ·rename_i ws hw;rw[Hy]at e;obtain⟨w',e1,e2⟩:=e;cases e2;obtain⟨vs,h1,r1⟩:=aR so hw ea;obtain⟨z,h2,r2⟩:=q9 r1 e1;exact IxR.go yH I ru rv #[_,_,_,_,rfl,rfl,h1,h2,.here so r2] hs
   ·cases e
  | _=>cases e
 | str=>cases ry with
  | int=>
   dsimp only[sS]at e;split at e
   ·rw[Hy]at e;obtain⟨c,e1,e2⟩:=e;cases e2;exact IxR.go BZ I ru rv #[_,_,_,rfl,rfl,by assumption,e1,.here so .str] hs
   ·cases e
  | _=>cases e
 | _=>cases ry <;> cases e
def lW {xs:Hr W}{vs:Hr V}{lo hi:HA HM}(r:RelL X.K A H xs vs):RelL X.K A H (ju xs lo hi) (jq vs lo hi):=by
 unfold ju jq;rw[r.length];exact(r.drop _).take _
def y9:DX X (λx lo hi H Q=>∃a xs,x=.ref a/\SqT X.K H a xs/\(jq xs lo hi=xs->Q (.ref a) H)/\∀p,H p=gV->Q (.ref p) (bc H p (.tup (jq xs lo hi)))):=by
 intro J s Y H x v vl vu lo hi sl Q I rx hs pl pu h;obtain⟨a,xs,rfl,hx,q0,q⟩:=h
 by_cases hw:(HT.bI xs.length 0 lo=0/\HT.bI xs.length xs.length hi=xs.length)
 ·cases rx;obtain⟨its,r,ht,hz⟩:=I.tuple hx;have hlen:its.toArray.size=xs.length:=by rw[HL]; exact r.length.symm
  refine#["tuple",_,PyProof.Rows.slot_tuple_getitem.lookup,ht.typeIs,?_];refine HT.fN ht hs pl pu (by rw[hlen]; exact hw) #[.ref a,H,I,rfl,q0 ?_]
  unfold jq;rw[hw.1,hw.2];simp
 ·exact BX J s Y H (.ref a) v vl vu lo hi sl Q I rx hs pl pu #[a,xs,rfl,hx,hw,q]
def He:LSl X uE:=by
 intro J s Y H A S x a v vl vu lo hi sl w S' I so rx rv hs pl pu e;cases rx with
 | tup h1 r1=>
  cases e;obtain⟨T,id,z1,z2,z3⟩:=y9 J s Y H _ v vl vu lo hi sl (EndV X.w X.K A H S (.tup (ju _ lo hi))) I rv hs pl pu #[_,_,rfl,h1,λq=>.here so (.tup h1 (by have:=lW (lo:=lo) (hi:=hi) r1; rw[q]at this; exact this)),λp hp=>.tup so (lW r1) hp]
  exact#[T,id,z1,z2,bf z3 λ_ _=>EP.post]
 | ref ea=>
  simp only[uE]at e;split at e
  ·rename_i ws hw;cases e;obtain⟨vs,h1,r1⟩:=aR so hw ea;obtain⟨T,id,z1,z2,z3⟩:=yI J s Y H _ v vl vu lo hi sl (EndV X.w X.K A H (S++[.lst (ju ws lo hi)]) (.ref S.length)) I rv hs pl pu #[_,_,rfl,h1,λp hp=>.lst so (lW r1) hp]
   exact#[T,id,z1,z2,bf z3 λ_ _=>EP.post]
  ·cases e
 | _=>cases e
def lset (hu:X.A.units+10 < cLine):LSet X sT:=by
 intro J s Y H A S o i x ao ai ax uo ui ux S' I so ro ruo ri rui rx rux e;cases ro with
 | ref ea=>cases ri with
  | int=>
   simp only[sT]at e;split at e
   ·rename_i ws hw;split at e
    ·rename_i j hj;cases e;obtain⟨vs,h1,r1⟩:=dX so hw ea;rw[r1.length]at hj;obtain⟨so',ex⟩:=so.write (jr hw) ea (r1.set rx j);exact bf (uY J s Y H _ _ _ uo ui ux (λH'=>H'=bc H _ (.lst (vs.set j ax))) I ruo rui rux #[_,_,_,_,rfl,rfl,h1,hj,rfl]) λ_ s' #[H',I',e']=>#[_,A,e' ▸ I',ex,so']
    ·cases e
   ·cases e
  | _=>cases e
 | _=>cases ri <;> cases e
abbrev ny (xs:Hr W)(S:aa):HA (W×aa):=match xs with
 | [.tup ys]=>ba (.int ys.length,S)
 | [.str y]=>if y.length<=sizeLine then ba (.int y.length,S)else gV
 | [.ref i]=>(eO S i).map λys=>(.int ys.length,S)
 | _=>gV
def sU:LCall X (.builtin "len") ny:=by
 intro J s Y H A S xs vs us w S' I so rl rv e;cases rl with
 | nil=>cases e
 | cons r t=>
  cases t with
  | cons _ _=>cases r <;> cases e
  | nil=>
   cases r with
   | tup h1 r1=>cases e; rw[r1.length]; exact CallR.go jo I rv #[_,_,rfl,.inr #[_,h1,rfl],.here so .int]
   | str=>
    dsimp only[ny]at e;split at e
    ·cases e; exact CallR.go jo I rv #[_,_,rfl,#[by assumption,rfl],.here so .int]
    ·cases e
   | ref ea=>
    (dsimp only[ny]at e; simp only[Hy]at e)
    obtain⟨ws,hw,e2⟩:=e;cases e2;obtain⟨vs',h1,r1⟩:=aR so hw ea;rw[r1.length];exact CallR.go jo I rv #[_,_,rfl,.inl #[_,h1,rfl],.here so .int]
   | _=>cases e
abbrev fW (xs:Hr W)(S:aa):HA (W×aa):=match xs with
 | [x]=>match dL S x with
  | some ys=>ba (.ref S.length,S++[.lst ys])
  | none=>gV
 | _=>gV
def gv:LCall X (.type "list") fW:=by
 intro J s Y H A S xs vs us w S' I so rl rv e;cases rl with
 | nil=>cases e
 | cons r t=>
  cases t with
  | cons _ _=>cases e
  | nil=>
   simp only[fW]at e;split at e
   ·rename_i ys hy;cases e;obtain⟨p,vs',rfl,hq,r1⟩:=lV (J:=J) (Y:=Y) (s:=s) so r hy;exact CallR.go lS I rv #[p,vs',rfl,hq,λl hl=>.lst so r1 hl]
   ·cases e
abbrev jv (xs:Hr W)(S:aa):HA (W×aa):=match xs with
 | [.tup ys]=>ba (.tup ys,S)
 | [.ref i]=>match eO S i with
  | some ys=>ba (.tup ys,S)
  | none=>gV
 | _=>gV
def iT:LCall X (.type "tuple") jv:=by
 intro J s Y H A S xs vs us w S' I so rl rv e;cases rl with
 | nil=>cases e
 | cons r t=>
  cases t with
  | cons _ _=>cases r <;> cases e
  | nil=>
   cases r with
   | tup h1 r1=>cases e; exact CallR.go fU I rv #[_,_,rfl,.inr #[h1,.here so (.tup h1 r1)]]
   | ref ea=>
    dsimp only[jv]at e;split at e
    ·rename_i ys hy;cases e;obtain⟨vs',h1,r1⟩:=aR so hy ea;exact CallR.go fU I rv #[_,_,rfl,.inl #[h1,λl hl=>.tup so r1 hl]]
    ·cases e
   | _=>cases e
abbrev D2 (xs:Hr W)(S:aa):HA (W×aa):=match xs with
 | [.int i]=>ba (.int i,S)
 | [.bl b]=>ba (.int (if b then 1 else 0),S)
 | _=>gV
def sV:LCall X (.type "int") D2:=by
 intro J s Y H A S xs vs us w S' I so rl rv e;cases rl with
 | nil=>cases e
 | cons r t=>
  cases t with
  | cons _ _=>cases r <;> cases e
  | nil=>
   cases r with
   | int=>cases e; exact CallR.go kJ I rv (.inl #[_,rfl,.here so .int])
   | bl=>cases e; exact CallR.go kJ I rv (.inr #[_,rfl,.here so .int])
   | _=>cases e
abbrev gM (x:W)(xs:Hr W)(S:aa):HA (W×aa):=match x,xs with
 | .ref i,[y]=>match mW S i with
  | some ys=>if ys.length < sizeLine then ba (.non,S.set i (.lst (ys++[y])))else gV
  | none=>gV
 | _,_=>gV
def iw {i:HB}{p:HD}{ws ws0:Hr W}{us:Hr V}(so:StoreOk X.w X.K A H S)(e:mW S i=ba ws0)(ea:A[i]?=ba p)(r:RelL X.K A H ws us){w:W}{v:V}(rw':Rel X.K A H w v) :
  EndV X.w X.K A H (S.set i (.lst ws)) w v (bc H p (.lst us)):=by
 obtain⟨so',ex⟩:=so.write (jr e) ea r;exact#[A,ex,so',rw'.mono ex]
def lX:kS X "list.append" gM:=by
 intro J s Y H A S x a u xs vs us w S' I so rx ru rl rv e;cases rx with
 | ref ea=>
  cases rl with
  | nil=>cases e
  | cons r t=>
   cases t with
   | cons _ _=>cases e
   | nil=>
    simp only[gM]at e;split at e
    ·rename_i ys hy;split at e
     ·rename_i hl;cases e;obtain⟨vs',h1,r1⟩:=dX so hy ea;rw[r1.length]at hl;exact MtR.go sM I ru rv #[_,_,_,rfl,rfl,h1,hl,iw so hy ea (r1.append #v[r]) .non]
     ·cases e
    ·cases e
 | _=>cases e
abbrev je (x:W)(xs:Hr W)(S:aa):HA (W×aa):=match x,xs with
 | .ref i,[.ref j]=>match mW S i,mW S j with
  | some ys,ba zs=>if ys.length+zs.length<=sizeLine then ba (.non,S.set i (.lst (ys++zs)))else gV
  | _,_=>gV
 | _,_=>gV
def lY:kS X "list.extend" je:=by
 intro J s Y H A S x a u xs vs us w S' I so rx ru rl rv e;cases rx with
 | ref ea=>
  cases rl with
  | nil=>cases e
  | cons r t=>
   cases t with
   | cons _ _=>cases r <;> cases e
   | nil=>
    cases r with
    | ref eb=>
     dsimp only[je]at e;split at e
     ·rename_i ys zs hy hz;split at e
      ·rename_i hl;cases e;obtain⟨vs',h1,r1⟩:=dX so hy ea;obtain⟨vs2,h2,r2⟩:=dX so hz eb;rw[r1.length,r2.length]at hl;exact MtR.go sN I ru rv #[_,_,_,_,rfl,rfl,h1,h2,hl,iw so hy ea (r1.append r2) .non]
      ·cases e
     ·cases e
    | _=>cases e
 | _=>cases e
abbrev zd (x:W)(xs:Hr W)(S:aa):HA (W×aa):=match x,xs with
 | .ref i,[.int k]=>match mW S i with
  | some ys=>if -(2 ^ 63)<=k/\k < 2 ^ 63 then match seqIndex? k ys.length with
   | some j=>match ys[j]? with
    | some y=>ba (y,S.set i (.lst (ys.eraseIdx j)))
    | none=>gV
   | none=>gV
   else gV
  | none=>gV
 | _,_=>gV
def sW:kS X "list.pop" zd:=by
 intro J s Y H A S x a u xs vs us w S' I so rx ru rl rv e;cases rx with
 | ref ea=>
  cases rl with
  | nil=>cases e
  | cons r t=>
   cases t with
   | cons _ _=>cases r <;> cases e
   | nil=>
    cases r with
    | int=>
     dsimp only[zd]at e;split at e
     ·rename_i ys hy;split at e
      ·rename_i hk;split at e
       ·rename_i j hj;split at e
        ·rename_i y hyj;cases e;obtain⟨vs',h1,r1⟩:=dX so hy ea;obtain⟨v',h2,r2⟩:=r1.get hyj;rw[r1.length]at hj;exact MtR.go u5 I ru rv #[_,_,_,_,_,rfl,rfl,h1,hk.1,hk.2,hj,h2,iw so hy ea (r1.eraseIdx j) r2]
        ·cases e
       ·cases e
      ·cases e
     ·cases e
    | _=>cases e
 | _=>cases e
abbrev iy:Hr W->HA (Hr HY)
 | []=>ba []
 | .str x::xs=>(iy xs).map (x :: ·)
 | _::_=>gV
abbrev rc (x:W)(xs:Hr W)(S:aa):HA (W×aa):=match x,xs with
 | .str x,[y]=>match dL S y with
  | some ys=>match iy ys with
   | some zs=>if (zs.map (·.length)).sum+zs.length*x.length<=16777216 then ba (.str (QK x zs),S)else gV
   | none=>gV
  | none=>gV
 | _,_=>gV
def jw:∀ {ws:Hr W} {vs:Hr V} {us:Hr Hu} {zs:Hr HY},RelL X.K A H ws vs->Vals vs us->iy ws=ba zs->StrsAre us zs
 | _,_,_,zs,.nil,.nil,e=>by cases e; exact .nil
 | _,_,_,zs,.cons r t,.cons q p,e=>by
  cases r with
  | str=>
   simp only[iy,Hy]at e;obtain⟨z,e1,e2⟩:=e;subst e2;obtain⟨tk,rfl⟩ : ∃t,_=L0 _ t:=q;exact .cons _ tk (jw t p e1)
  | _=>cases e
def pX:kS X "str.join" rc:=by
 intro J s Y H A S x a u xs vs us w S' I so rx ru rl rv e;cases rx with
 | str=>
  cases rl with
  | nil=>cases e
  | cons r t=>
   cases t with
   | cons _ _=>cases e
   | nil=>
    simp only[rc]at e;split at e
    ·rename_i ys hy;split at e
     ·rename_i zs hz;split at e
      ·rename_i hl;cases e;obtain⟨p,vs',rfl,hq,r1⟩:=lV (J:=J) (Y:=Y) (s:=s) so r hy;obtain⟨t0,rfl⟩ : ∃t,u=L0 _ t:=ru;obtain⟨u1,rfl,ru1⟩:=kI rv;have ru1':u1=IA p:=ru1;subst ru1';rcases hq with hq|hq
       ·obtain⟨its,rr,pl,hz'⟩:=I.list hq;exact join_list pl.isList (by simpa using jw r1 rr hz) hl λt' k=>#[.str _,H,A,I.tok _,#[_,rfl],.refl,so,.str]
       ·obtain⟨its,rr,pl,hz'⟩:=I.tuple hq;exact join_tuple pl (by simpa using jw r1 rr hz) hl λt' k=>#[.str _,H,A,I.tok _,#[_,rfl],.refl,so,.str]
      ·cases e
     ·cases e
    ·cases e
 | _=>cases e
abbrev ee (S:aa):W->HA Il
 | .non=>ba false
 | .bl b=>ba b
 | .int i=>ba (i != 0)
 | .str y=>if y.length<=sizeLine then ba ((y.length:HM) != 0)else gV
 | .tup xs=>ba (!xs.isEmpty)
 | .ref i=>(eO S i).map λxs=>!xs.isEmpty
def iU {ws:Hr W}{vs:Hr V}(r:RelL X.K A H ws vs):(!ws.isEmpty) = !vs.isEmpty:=by cases r <;> rfl
def Gc {x:W}{a:V}{u:Hu}{k:Il}{Q:Il->Hw->Prop}(I:Inv X J Y H s)(so:StoreOk X.w X.K A H S)(rx:Rel X.K A H x a)(ru:RelV a u)(e:ee S x=ba k)(hq:∀s',Inv X J Y H s'->Q k s') :
  wpAny (model X.prog X.w) X.A (truthy u) Q X.xe s:=by
 refine bf (BS J s Y H a u (λb H'=>b=k/\H'=H) I ru #[k,?_,rfl,rfl]) λb s' #[H',I',e1,e2]=>?_
 ·cases rx with
  | non=>cases e; rfl
  | bl=>cases e; rfl
  | int=>cases e; rfl
  | str=>
   simp only[ee]at e;split at e
   ·cases e; exact#[by assumption,rfl]
   ·cases e
  | tup h1 r1=>cases e; exact .inr (.inl #[_,h1,iU r1])
  | ref ea=>
   simp only[ee,Hy]at e;obtain⟨ws,hw,e2⟩:=e;subst e2;obtain⟨vs,h1,r1⟩:=aR so hw ea;exact .inl #[_,h1,iU r1]
 ·subst e1 e2;exact hq s' I'
end
abbrev aP (w:IE):JJ:={ cls:=.type "set",dict:=gV,data:=.set #[] 0 (.fresh 0 0 (!dW w)) }
section
variable{prog:Iw}{w:IE}{A:IB}{E:Hu->Hw->Prop}{s:Hw}{R:OZ->Hw->Prop}{I:HD}{fp wr:Hr HD}{G:Ik NL->Ik NL->Prop}{n:HB}{P:HB->Hu->Prop}{St:HB->Hw->Prop}
def nz (a:Hu){Q₁:Hu->Hw->Prop}(h:Q₁ (.ref s.heap.objs.size) { s with heap:=s.heap.push (aP w) }):codeAny (model prog w) A (.call (.builtin "set.__new__") #[[.type "set",a],[]]) (wants Q₁ E) s:=by
 refine Mc ?_;show wpAny _ A.in1 (checkBuiltinCall "set.__new__" #[[.type "set",a],[]] >>= λ_=>again (.builtin "set.__new__" #[[.type "set",a],[]])) _ _ s
 refine Hs (LN (F.newCall_set_1 a) (Hx #[J4 F.plain_set_new _,Jf F.entry_set_new ?_]));rw[Jc F.plain_set_new _];unfold KI.«set.__new__» PM;have hsub:=Op;obtain⟨hp,g,d,tk,os⟩:=s;dsimp only
 wp_walk
 refine KU (Hx ?_);dsimp only;simp only[newObj];exact Hs (QL (Hx (Hx h)))
end
def eY:Slot "set_iterator" "__next__" "set_iterator.__next__":=.of (owner:="set_iterator") (n:="__next__") (by rw[Pq,NB]; kernel_rfl) (by decide +kernel) (by decide +kernel) (by decide +kernel) (by first|exact .inl (by decide +kernel)|exact .inr (by decide +kernel)) (by rw[PN]; kernel_rfl)
def nA:Slot "set_iterator" "__iter__" "set_iterator.__iter__":=.of (owner:="set_iterator") (n:="__iter__") (by rw[Pq,NB]; kernel_rfl) (by decide +kernel) (by decide +kernel) (by decide +kernel) (by first|exact .inl (by decide +kernel)|exact .inr (by decide +kernel)) (by rw[PN]; kernel_rfl)
def sX:entryFor table "set_iterator.__next__" = ba KI.«set_iterator.__next__»:=entryFor_of_tree (by kernel_rfl)
def pY:entryFor table "set.__iter__" = ba KI.«frozenset.__iter__»:=PP (id':="frozenset.__iter__") (by kernel_rfl) rfl (by decide +kernel) (by kernel_rfl)
def vo (a:Hu):argsOk "set_iterator.__next__" #[[a],[]]:=by unfold argsOk; kernel_rfl
section
variable{α:Type}{prog:Iw}{w:IE}{A:IB}{E:Hu->Hw->Prop}{s:Hw}
def sY {src:Source}{n:HB}{Q:HB->Hw->Prop}(hn:n≠0)(h:∀i dr,i < n->Q i { s with drawn:=dr }):wpAny (model prog w) A (choose src n) Q E s:=λ_ _ _=>#[hn,h _ _ (Nl _ (Nat.pos_of_ne_zero hn))]
def gN:∀ {l:Hr α} {i:HB} (h:i < l.length),(l[i]::l.eraseIdx i).Perm l
 | x::l,0,_=>.refl _
 | x::l,i+1,h=>(Rw _ _ _).trans ((gN (l:=l) (i:=i) (by simpa using h)).cons x)
def jx:∀(n:HB) (xs:Hr α) {s:Hw} {Q:Hr α->Hw->Prop},xs.length=n->(∀ys dr,ys.Perm xs->Q ys { s with drawn:=dr })->wpAny (model prog w) A (drawOrder n xs) Q E s
 | 0,xs,s,Q,hl,h=>by
  obtain rfl:=Jo.mp hl;exact Hx (h [] s.drawn .nil)
 | n+1,[],s,Q,hl,h=>by cases hl
 | n+1,x::xs,s,Q,hl,h=>by
  unfold drawOrder;refine Hs (sY (by simp) λi dr hi=>?_)
  rw[HC hi];dsimp only;refine Hs (jx n _ (by rw[Li hi,hl]; rfl) λys dr' hp=>Hx (h _ dr' ?_))
  exact(hp.cons _).trans (gN hi)
def re {next:HB->HB}:∀(f k:HB) (lf9:Hr α) (out:Ik α),f=lf9.length->(pickOrder.go next f k lf9 out).toList.Perm (out.toList++lf9)
 | 0,k,lf9,out,h=>by
  obtain rfl:=Jo.mp h.symm;simp[pickOrder.go]
 | f+1,k,lf9,out,h=>by
  unfold pickOrder.go;have hp:0 < lf9.length:=∅
  have hi:next k % lf9.length < lf9.length:=Nl _ hp;rw[HC hi];dsimp only;refine(re f (k+1) _ _ (by rw[Li hi]; omega)).trans ?_
  rw[MX,Ja];exact(gN hi).append_left _
def fD {next:HB->HB}{xs:Ik α}:(pickOrder next xs).toList.Perm xs.toList:=by
 have:=re (next:=next) xs.size 0 xs.toList #[] (by simp)
 simpa [pickOrder]using this
abbrev SIt (I:HD)(f r:Hu)(i n ep:HB)(h:IJ):Prop:=h.get? I=ba { cls:=.type "set_iterator",data:=.fields [f,.int i 0,r,.int n 0,.int ep 0].toArray }
def SIt.type {I:HD}{f r:Hu}{i n ep:HB}(x:SIt I f r i n ep s.heap):s.TypeIs (.ref I) "set_iterator":=#[_,x,rfl]
def nB {I:HD}{Q:HA Hu->Hw->Prop}{f r:Hu}{i n ep:HB}(x:SIt I f r i n ep s.heap)(h:wpAny (model prog w) A.in1 (KI.«set_iterator.__next__» #[[.ref I],[]]) (λfin s'=>∃v,fin=.done (.ret v)/\Q (ba v) s') (λe s'=>wpAny (model prog w) A (do if <- isInstance e (.type "StopIteration")then pure gV else throw e) Q E s') s):wpAny (model prog w) A (pyNext (.ref I)) Q E s:=by
 unfold pyNext;refine Hs (La (IV (name:=JX "__next__") x.type eY (Jb eY x.type sX ?_ (vo _))));exact J0 h (λ_ _ #[v,e,q]=>#[v,e,Hx q]) λ_ _ q=>q
abbrev D3 (prog:Iw)(w:IE)(A:IB)(Q:HA Hu->Hw->Prop)(E:Hu->Hw->Prop)(e:Hu)(s':Hw):Prop:=wpAny (model prog w) A (do if <- isInstance e (.type "StopIteration")then pure gV else throw e) Q E s'
def nC {Q:HA Hu->Hw->Prop}{Q2:Rk->Hw->Prop}(hh:A.handled=gV)(h:∀h',(∀b o,s.heap.get? b=ba o->h'.get? b=ba o)->Q gV { s with heap:=h' }):wpAny (model prog w) A.in1 (newExc (.type "StopIteration") [] >>= λx=>raiseNew x) Q2 (D3 prog w A Q E) s:=by
 refine Hs ?_;simp only[newExc,newTuple];refine Hs (IH ?_ (by size_fits))
 refine Hs (m:=firstArgMember _ _) (LN (a:=IP) (by first|rfl|(simp only[firstArgMember]; rfl)) ?_)
 refine IH ?_ (by size_fits)
 simp only[raiseNew];refine Hs (Oc ?_);rw[show A.in1.handled=gV from hh]
 refine Hs (Hx (Pi ?_));refine Hs (KW (T:="StopIteration") (b:=true) #[_,HI _ rfl,rfl] MB ?_);exact Hx (h _ λb o e=>Ht _ (Ht _ e))
section
variable{I a:HD}{f r:Hu}{i n ep sl:HB}{o:JJ}{es:Ik (HM×Hu)}{t:Jl}{Q:HA Hu->Hw->Prop}
def fE {Q:Rt->Hw->Prop}{vs:Ik Hu}{k:HB}{v:Hu}(x:s.heap.get? I=ba { cls:=.type "set_iterator",data:=.fields vs })(hk:k < vs.size)(h:∀h',h'.get? I=ba { cls:=.type "set_iterator",data:=.fields (vs.setIfInBounds k v) }->JW I s.heap h'->Q () { s with heap:=h' }):wpAny (model prog w) A (setField (.ref I) k v) Q E s:=Ku x hk h
def fF (x:SIt I (.int sl 0) (.ref a) i n ep s.heap)(ho:s.heap.get? a=ba o)(hd:o.data=.set es ep t)(hf:t.fits es.size=true)(hn:es.size=n)(hh:A.handled=gV){rs:HA (Hu×HB)}
  (hx:∀Q':HA (Hu×HB)->Hw->Prop,Q' rs s->wpAny (model prog w) A.in1 (setNext a sl i ep) Q' (D3 prog w A Q E) s)
  (h1:∀v sl',rs=ba (v,sl')->∀h',SIt I (.int sl' 0) (.ref a) (i+1) n ep h'->(∀b o,b≠I->s.heap.get? b=ba o->h'.get? b=ba o)->Q (ba v) { s with heap:=h' })
  (h2:rs=gV->∀h',(∀b o,b≠I->s.heap.get? b=ba o->h'.get? b=ba o)->Q gV { s with heap:=h' }):wpAny (model prog w) A (pyNext (.ref I)) Q E s:=by
 refine nB x ?_;refine Hs (Hx ?_);show wpAny _ _ (fieldsOf (.ref I) >>= _) _ _ s;refine Hs (MC x rfl ?_);refine Hs (Mm ho hd hf ?_);rw[Im (by simp[hn])]
 refine Hs (hx _ ?_);cases rs with
 | some p=>
  obtain⟨v,sl'⟩:=p;dsimp only;refine Hs (fE x (by simp) λh' x' sb'=>?_)
  refine Hs (fE x' (by simp) λh2 x2 sb2=>?_)
  refine Hx #[v,rfl,h1 v sl' rfl h2 ?_ λb o hb e=>?_]
  ·simpa [SIt,rawInt]using x2
  ·rw[sb2.2 b hb,sb'.2 b hb]; exact e
 | none=>
  dsimp only;refine Hs (fE x (by simp) λh' x' sb'=>?_)
  refine nC hh λh'' k=>h2 rfl h'' λb o hb e=>k b o (by rw[sb'.2 b hb]; exact e)
def kU {tp:HD}{ps:Hr HB}(x:SIt I (.ref tp) (.ref a) i n ep s.heap)(ho:s.heap.get? a=ba o)(hd:o.data=.set es ep t)(hf:t.fits es.size=true)(hn:es.size=n)(hh:A.handled=gV)
  (ht:s.heap.get? tp=ba { cls:=.type "tuple",data:=.seq (ps.map λk=>rawInt (k:HB)).toArray 0 })
  (h1:∀p e,ps[i]?=ba p->es[p]?=ba e->∀h',SIt I (.ref tp) (.ref a) (i+1) n ep h'->(∀b o,b≠I->s.heap.get? b=ba o->h'.get? b=ba o)->Q (ba e.2) { s with heap:=h' })
  (hp:∀p,ps[i]?=ba p->∃e,es[p]?=ba e)
  (h2:ps[i]?=gV->∀h',(∀b o,b≠I->s.heap.get? b=ba o->h'.get? b=ba o)->Q gV { s with heap:=h' }):wpAny (model prog w) A (pyNext (.ref I)) Q E s:=by
 refine nB x ?_;refine Hs (Hx ?_);show wpAny _ _ (fieldsOf (.ref I) >>= _) _ _ s;refine Hs (MC x rfl ?_);refine Hs (Mm ho hd hf ?_);rw[Im (by simp[hn])]
 refine Hs (JD ht rfl ?_);dsimp only;have hg:(ps.map λk=>rawInt (k:HB)).toArray[(i:HM).toNat]?=(ps[i]?).map λk=>rawInt (k:HB):=by simp
 rw[hg];cases q:ps[i]? with
 | some p=>
  obtain⟨e,he⟩:=hp p q;show wpAny _ _ (setNextDrawn a (p:HM).toNat (ep:HM).toNat >>= _) _ _ s;unfold setNextDrawn;refine Hs (Hs (Js ho hd hf ?_));dsimp only;rw[Im (by simp)]
  simp only[HU,he];refine Hx ?_;refine Hs (fE x (by simp) λh' x' sb'=>?_)
  refine Hx #[e.2,rfl,h1 p e q he h' ?_ λb o hb z=>?_]
  ·simpa [SIt,rawInt]using x'
  ·rw[sb'.2 b hb]; exact z
 | none=>
  dsimp only[Option.map_none];refine Hs (fE x (by simp) λh' x' sb'=>?_)
  refine Hs (fE x' (by simp) λh3 x3 sb3=>?_)
  refine nC hh λh'' k=>h2 q h'' λb o hb e=>k b o (by rw[sb3.2 b hb,sb'.2 b hb]; exact e)
def kW {E:Hu->Hw->Prop}{Q:HA (Hu×HB)->Hw->Prop}(ho:s.heap.get? a=ba o)(hd:o.data=.set es ep t)(hf:t.fits es.size=true)(hb:dW w=true)(h:Q ((((pickOrder (w.params.setOrder a ep) es).toList.map (·.2))[i]?).map λv=>(v,sl)) s):wpAny (model prog w) A (setNext a sl i ep) Q E s:=by
 unfold setNext;refine Hs (Js ho hd hf ?_);dsimp only;have ask1:∀ {Q:Il->Hw->Prop},Q true s->wpAny (model prog w) A setsByText Q E s:=λ{Q} hq=>by
  unfold setsByText;refine Hs (KU (Hx ?_));show Q (dW w) s;rw[hb]; exact hq
 refine Hs (ask1 ?_);rw[Ic rfl,Im (by simp)]
 refine Hs ?_;unfold setWalk;refine Hs (Js ho hd hf ?_);dsimp only;refine Hs (ask1 ?_);rw[Ic rfl];refine Hs (KU (Hx (Hx ?_)));have e:(((pickOrder (w.params.setOrder a ep) es)[i]?).map λe=>(e.2,sl))=((((pickOrder (w.params.setOrder a ep) es).toList.map (·.2))[i]?).map λv=>(v,sl)):=by
  rw[HF,Jd,PQ]; rfl
 show Q (((pickOrder (w.params.setOrder a ep) es)[i]?).map λe=>(e.2,sl)) s
 rw[e]; exact h
def nD {E:Hu->Hw->Prop}{Q:HA (Hu×HB)->Hw->Prop}(ho:s.heap.get? a=ba o)(hd:o.data=.set es ep t)(hf:t.fits es.size=true)(hb:dW w=false)(hl:t.led=true)(h1:es.size<=1)(hi:i=0/\sl=0\/i=es.size/\sl=(t.place.getD 0 0)+1)
  (h:Q (((es.toList.map (·.2))[i]?).map λv=>(v,t.place.getD 0 0+1)) s):wpAny (model prog w) A (setNext a sl i ep) Q E s:=by
 unfold setNext;refine Hs (Js ho hd hf ?_);dsimp only;have ask1:∀ {Q:Il->Hw->Prop},Q false s->wpAny (model prog w) A setsByText Q E s:=λ{Q} hq=>by
  unfold setsByText;refine Hs (KU (Hx ?_));show Q (dW w) s;rw[hb]; exact hq
 refine Hs (ask1 ?_);rw[Im Ih];refine K8 (λhc=>absurd hc (by show ¬ ((!t.plain&&decide (es.size > 1))=true); simp; omega)) (λ_=>?_)
 refine Hs ?_;show wpAny _ _ (if (!t.led && !es.isEmpty)=true then unsupported "set:maker-not-led" else pure ()) _ _ s
 rw[Im (by simp[hl])]
 refine Hx (Hx ?_);obtain⟨es⟩:=es;obtain⟨mk,pl,dm,fg,ld,mv,pn⟩:=t;obtain⟨pl⟩:=pl;simp only[Qb,Hz,beq_iff_eq]at hf
 match es,pl,hf.1,h1 with
 | [],[],_,_=>
  have:i=0:=by rcases hi with z|z <;> simpa using z.1
  subst this;exact h
 | [e],[j],_,_=>
  rcases hi with⟨rfl,rfl⟩|⟨rfl,rfl⟩
  ·exact h
  ·have e1:KT [j].toArray (j+1)=1:=by
    show ON [j].toArray (j+1) 1 0 1=1;simp[ON]
   have e2:(({ mask:=mk,place:=[j].toArray,dummies:=dm,finger:=fg,led:=ld,moves:=mv,plain:=pn }:Jl).place.getD 0 0)=j:=rfl;show Q (match ([e].toArray:Ik (HM×Hu))[KT [j].toArray (j+1)]?,([j].toArray:Ik HB)[KT [j].toArray (j+1)]? with|some (_,x),ba j=>ba (x,j+1)|_,_=>gV) s
   rw[e1];exact h
 | e::e'::es,_,_,z=>simp at z
 | [],_::_,z,_=>simp at z
 | [_],[],z,_=>simp at z
 | [_],_::_::_,z,_=>simp at z
def jy {E:Hu->Hw->Prop}{Q:HA (Hu×HB)->Hw->Prop}(ho:s.heap.get? a=ba o)(hd:o.data=.set es ep t)(hf:t.fits es.size=true)(hb:dW w=false)(hl:t.led=true)(hp:t.plain=true)(hw:KT t.place sl=i)
  (h:Q (((es.toList.map (·.2))[i]?).map λv=>(v,t.place.getD i 0+1)) s):wpAny (model prog w) A (setNext a sl i ep) Q E s:=by
 unfold setNext;refine Hs (Js ho hd hf ?_);dsimp only;have ask1:∀ {Q:Il->Hw->Prop},Q false s->wpAny (model prog w) A setsByText Q E s:=λ{Q} hq=>by
  unfold setsByText;refine Hs (KU (Hx ?_));show Q (dW w) s;rw[hb]; exact hq
 refine Hs (ask1 ?_);rw[Im Ih];refine K8 (λhc=>absurd hc (by show ¬ ((!t.plain&&decide (es.size > 1))=true); simp[hp])) (λ_=>?_)
 refine Hs ?_;show wpAny _ _ (if (!t.led && !es.isEmpty)=true then unsupported "set:maker-not-led" else pure ()) _ _ s
 rw[Im (by simp[hl])]
 refine Hx (Hx ?_);rw[hw];have hz:t.place.size=es.size:=by
  simp only[Qb,Hz,beq_iff_eq]at hf;exact hf.1
 rw[HF,Jd]at h
 by_cases hi:i < es.size
 ·have e1:es[i]?=ba es[i]:=by simp[hi]
  have e2:t.place[i]?=ba (t.place.getD i 0):=by simp[LJ,hz,hi]
  rw[e1]at h ⊢;rw[e2];exact h
 ·have e1:es[i]?=gV:=by simp; omega
  rw[e1]at h ⊢;exact h
end
end
def sZ:entryFor table "set_iterator.__iter__" = ba KI.«dict_keyiterator.__iter__»:=PP (id':="dict_keyiterator.__iter__") (by kernel_rfl) rfl (by decide +kernel) (by kernel_rfl)
def vp (a:Hu):argsOk "set_iterator.__iter__" #[[a],[]]:=by unfold argsOk; kernel_rfl
section
variable{prog:Iw}{w:IE}{A:IB}{E:Hu->Hw->Prop}{s:Hw}{I a tp:HD}{f r:Hu}{i n ep sl:HB}{o:JJ}{es:Ik (HM×Hu)}{t:Jl}
def gO {Q:Hu->Hw->Prop}(x:SIt I f r i n ep s.heap)(h:Q (.ref I) s):wpAny (model prog w) A (pyIter (.ref I)) Q E s:=by
 refine MY x.type nA (Jb nA x.type sZ ?_ (vp _));show wpAny _ _ (ret (.ref I)) _ _ s;exact Hx #[_,rfl,"set_iterator",_,x.type,eY.lookup,h]
def nE {b x y:HD}(h:b∉[x]):b≠x:=λz=>h (by simp[z])
def pZ (hh:A.handled=gV)(hne:a≠I)(hd:o.data=.set es ep t)(hf:t.fits es.size=true)(hb:dW w=true) :
  Pj prog w A I [I,a] [I] es.size (λi v=>((pickOrder (w.params.setOrder a ep) es).toList.map (·.2))[i]?=ba v) (λi h=>SIt I (.int 0 0) (.ref a) i es.size ep h/\h.get? a=ba o) where
 sub:=λb hb=>by simp at hb; simp[hb]
 frame:=λ_ _ _ st hk=>#[hk I (by simp) _ st.1,hk a (by simp) _ st.2]
 item:=λi s Q E hi st hQ=>by
  have hl:((pickOrder (w.params.setOrder a ep) es).toList.map (·.2)).length=es.size:=by rw[Hv,fD.length_eq,HS]
  refine fF (sl:=0) st.1 st.2 hd hf rfl hh (λQ' hq=>kW st.2 hd hf hb hq) (λv sl' e h' x' k=>?_) λe h' k=>?_
  ·obtain⟨v',q,e⟩:=Hy.mp e;cases e;exact hQ v h' s.toks q #[x',k a _ hne st.2] λb o hb e=>k b o (nE (y:=b) hb) e
  ·rw[LS,IT]at e;omega
 done:=λs Q E st hQ=>by
  have hl:((pickOrder (w.params.setOrder a ep) es).toList.map (·.2)).length=es.size:=by rw[Hv,fD.length_eq,HS]
  refine fF (sl:=0) st.1 st.2 hd hf rfl hh (λQ' hq=>kW st.2 hd hf hb hq) (λv sl' e h' x' k=>?_) λe h' k=>hQ h' s.toks λb o hb e=>k b o (nE (y:=b) hb) e
  obtain⟨v',q,e⟩:=Hy.mp e;have:=(HH.mp q).1;omega
 self:=λ_ _ _ _ st hQ=>gO st.1 hQ
def tf (hh:A.handled=gV)(hne:a≠I)(hd:o.data=.set es ep t)(hf:t.fits es.size=true)(hb:dW w=false)(hl:t.led=true)(h1:es.size<=1) :
  Pj prog w A I [I,a] [I] es.size (λi v=>(es.toList.map (·.2))[i]?=ba v) (λi h=>SIt I (.int ((if i=0 then 0 else t.place.getD 0 0+1:HB):HM) 0) (.ref a) i es.size ep h/\h.get? a=ba o) where
 sub:=λb hb=>by simp at hb; simp[hb]
 frame:=λ_ _ _ st hk=>#[hk I (by simp) _ st.1,hk a (by simp) _ st.2]
 item:=λi s Q E hi st hQ=>by
  have i0:i=0:=∅
  subst i0;refine fF st.1 st.2 hd hf rfl hh (λQ' hq=>nD st.2 hd hf hb hl h1 (.inl #[rfl,rfl]) hq) (λv sl' e h' x' k=>?_) λe h' k=>?_
  ·obtain⟨v',q,e⟩:=Hy.mp e;cases e;exact hQ v h' s.toks q #[x',k a _ hne st.2] λb o hb e=>k b o (nE (y:=b) hb) e
  ·rw[LS,IT,Hv,HS]at e;omega
 done:=λs Q E st hQ=>by
  refine fF st.1 st.2 hd hf rfl hh (λQ' hq=>nD st.2 hd hf hb hl h1 ?_ hq) (λv sl' e h' x' k=>?_) λe h' k=>hQ h' s.toks λb o hb e=>k b o (nE (y:=b) hb) e
  ·by_cases h0:es.size=0
   ·exact .inl #[h0,by rw[Ic h0]]
   ·exact .inr #[rfl,by rw[Im h0]]
  ·obtain⟨v',q,e⟩:=Hy.mp e;have:=(HH.mp q).1;rw[Hv,HS]at this;omega
 self:=λ_ _ _ _ st hQ=>gO st.1 hQ
def nF (hh:A.handled=gV)(hne:a≠I)(hd:o.data=.set es ep t)(hf:t.fits es.size=true)(hb:dW w=false)(hl:t.led=true)(hp:t.plain=true)(hw:eB t es.size=true) :
  Pj prog w A I [I,a] [I] es.size (λi v=>(es.toList.map (·.2))[i]?=ba v) (λi h=>SIt I (.int ((if i=0 then 0 else t.place.getD (i - 1) 0+1:HB):HM) 0) (.ref a) i es.size ep h/\h.get? a=ba o):=by
 have go:∀i,i<=es.size->KT t.place (if i=0 then 0 else t.place.getD (i - 1) 0+1)=i:=λi hi=>by
  simp only[eB,Hz,HQ,Ig,IU]at hw
  by_cases h0:i=0
  ·rw[Ic h0,h0]; exact hw.1
  ·rw[Im h0,hw.2 (i - 1) ∅]; omega
 exact {
  sub:=λb hb=>by simp at hb; simp[hb]
  frame:=λ_ _ _ st hk=>#[hk I (by simp) _ st.1,hk a (by simp) _ st.2]
  item:=λi s Q E hi st hQ=>by
   refine fF st.1 st.2 hd hf rfl hh (λQ' hq=>jy st.2 hd hf hb hl hp (go i ∅) hq) (λv sl' e h' x' k=>?_) λe h' k=>?_
   ·obtain⟨v',q,e⟩:=Hy.mp e;cases e;exact hQ v h' s.toks q #[by rw[Im (O5 i)]; exact x',k a _ hne st.2] λb o hb e=>k b o (nE (y:=b) hb) e
   ·rw[LS,IT,Hv,HS]at e;omega
  done:=λs Q E st hQ=>by
   refine fF st.1 st.2 hd hf rfl hh (λQ' hq=>jy st.2 hd hf hb hl hp (go _ (HE _)) hq) (λv sl' e h' x' k=>?_) λe h' k=>hQ h' s.toks λb o hb e=>k b o (nE (y:=b) hb) e
   obtain⟨v',q,e⟩:=Hy.mp e;have:=(HH.mp q).1;rw[Hv,HS]at this;omega
  self:=λ_ _ _ _ st hQ=>gO st.1 hQ }
def nG {ps:Hr HB}(hh:A.handled=gV)(hne:a≠I)(hnt:tp≠I)(hd:o.data=.set es ep t)(hf:t.fits es.size=true)(hp:ps.Perm (Ix es.size)) :
  Pj prog w A I [I,a,tp] [I] es.size (λi v=>(ps.map λp=>(es.getD p (0,.none)).2)[i]?=ba v) (λi h=>SIt I (.ref tp) (.ref a) i es.size ep h/\h.get? a=ba o/\h.get? tp=ba { cls:=.type "tuple",data:=.seq (ps.map λk=>rawInt (k:HB)).toArray 0 }) where
 sub:=λb hb=>by simp at hb; simp[hb]
 frame:=λ_ _ _ st hk=>#[hk I (by simp) _ st.1,hk a (by simp) _ st.2.1,hk tp (by simp) _ st.2.2]
 item:=λi s Q E hi st hQ=>by
  have lt:∀ {p},ps[i]?=ba p->p < es.size:=λq=>IU.mp (hp.mem_iff.mp (HZ q))
  refine kU st.1 st.2.1 hd hf rfl hh st.2.2 (λp e q qe h' x' k=>?_) (λp q=>#[es[p]'(lt q),by simp[lt q]]) λe h' k=>?_
  ·refine hQ e.2 h' s.toks ?_ #[x',k a _ hne st.2.1,k tp _ hnt st.2.2] λb o hb e=>k b o (nE (y:=b) hb) e
   rw[HF,q];simp[LJ,lt q];rw[Kb (lt q)]at qe;cases qe; rfl
  ·rw[IT,hp.length_eq,IL]at e;omega
 done:=λs Q E st hQ=>by
  refine kU st.1 st.2.1 hd hf rfl hh st.2.2 (λp e q qe h' x' k=>?_) (λp q=>?_) λe h' k=>hQ h' s.toks λb o hb e=>k b o (nE (y:=b) hb) e
  ·have:=(HH.mp q).1;rw[hp.length_eq,IL]at this;omega
  ·have:=(HH.mp q).1;rw[hp.length_eq,IL]at this;omega
 self:=λ_ _ _ _ st hQ=>gO st.1 hQ
end
section
variable{prog:Iw}{w:IE}{A:IB}{E:Hu->Hw->Prop}{s:Hw}{a:HD}{o:JJ}{xs:Hr HY}{es:Ik (HM×Hu)}{ep:HB}{t:Jl}
structure SetWalk (prog:Iw)(w:IE)(A:IB)(s:Hw)(a:HD)(es:Ik (HM×Hu))(I:HD)(h':IJ):Prop where
 ex:∃(fp:Hr HD) (St:HB->IJ->Prop) (us:Hr Hu) (n:HB),us.Perm (es.toList.map (·.2))/\us.length=n/\Pj prog w A I fp [I] n (λi v=>us[i]?=ba v) St/\St 0 h'/\∀b∈fp,b=a\/s.heap.objs.size<=b/\b < h'.objs.size
 new:s.heap.objs.size<=I
 keep:∀b u,s.heap.get? b=ba u->h'.get? b=ba u
def vt {Q:Hu->Hw->Prop}(hh:A.handled=gV)(ho:s.heap.get? a=ba o)(hex:o.ExactSet)(hd:o.data=.set es ep t)(hz:es.size<=sizeLine)(fit:t.fits es.size=true)(led:t.led = !dW w)(pl:t.plain=true->es.size=0\/eB t es.size=true)(h:∀I h' dr,SetWalk prog w A s a es I h'->Q (.ref I) { s with heap:=h',drawn:=dr }):wpAny (model prog w) A (pyIter (.ref a)) Q E s:=by
 have hT:s.TypeIs (.ref a) "set":=#[o,ho,hex.1];have ha:a < s.heap.objs.size:=HP ho;refine MY hT F.slot_set_iter (Jb F.slot_set_iter hT pY ?_ (F.args_set_iter_1 _));unfold KI.«frozenset.__iter__»;refine Hs (Hs (Hx ?_));show wpAny _ _ (pure a) _ _ s;refine Hx ?_;unfold Qc setDrawn;refine Hs (Hs (Mm ho hd fit (Hx ?_)));refine Hs (Hs (Js ho hd fit ?_));dsimp only;unfold setsByText;refine Hs (Hs (KU (Hx (Hx ?_))));have oI:∀(f:Hu) (h0:IJ),(h0.push { cls:=.type "set_iterator",data:=.fields [f,rawInt 0,.ref a,rawInt es.size,rawInt ep].toArray }).get? h0.objs.size=ba { cls:=.type "set_iterator",data:=.fields [f,rawInt 0,.ref a,rawInt es.size,rawInt ep].toArray }:=λf h0=>HI _ rfl
 refine K8 (λhc=>?_) (λhc=>?_)
 ·refine Hs (jx es.size _ IL λps dr hp=>?_)
  refine Hs (MD ?_ (by rw[Hv,hp.length_eq,IL]; exact hz))
  have o1:=Ht (seqObj "tuple" (ps.map λk=>rawInt (k:HB)).toArray 0) ho
  refine Hs (OO o1 hd fit ?_);refine Hs (IH (Hx #[_,rfl,"set_iterator",_,#[_,oI _ _,rfl],eY.lookup,?_]));have z1:(s.heap.push (seqObj "tuple" (ps.map λk=>rawInt (k:HB)).toArray 0)).objs.size=s.heap.objs.size+1:=Ju ..
  have W:=nG (prog:=prog) (w:=w) (A:=A) (a:=a) (I:=(s.heap.push (seqObj "tuple" (ps.map λk=>rawInt (k:HB)).toArray 0)).objs.size) (tp:=s.heap.objs.size) (ps:=ps) hh (by rw[z1]; exact HV (JT ha)) (by rw[z1]; exact HV (Jq _)) hd fit hp
  have eL:(ps.map λp=>(es.getD p (0,IP)).2).length=es.size:=by rw[Hv,hp.length_eq,IL]
  refine h _ _ dr #[#[_,_,ps.map λp=>(es.getD p (0,IP)).2,_,?_,eL,W,#[oI _ _,Ht _ o1,Ht _ (HI _ rfl)],λb hb=>?_],by rw[z1]; exact KH _,λb u e=>Ht _ (Ht _ e)]
  ·refine(hp.map _).trans ?_;have e:((Ix es.size).map λp=>(es.getD p (0,IP)).2)=es.toList.map λe=>e.2:=by
    apply L4
    ·simp
    ·intro k h1 h2;simp only[Hv,IL]at h1;simp[LJ,h1]
   rw[e]
  ·rw[Ju,z1];simp only[HW,Iy,JH]at hb;rcases hb with rfl|rfl|rfl
   ·exact .inr #[by rw[z1]; exact KH _,by rw[z1]; exact Jq _]
   ·exact .inl rfl
   ·exact .inr #[HE _,JT (Jq _)]
 ·refine Hs (Hx (Hs (OO ho hd fit ?_)));refine Hs (IH (Hx #[_,rfl,"set_iterator",_,#[_,oI _ _,rfl],eY.lookup,?_]));have near:∀b∈[s.heap.objs.size,a],b=a\/s.heap.objs.size<=b/\b < (s.heap.push { cls:=.type "set_iterator",data:=.fields [rawInt 0,rawInt 0,.ref a,rawInt es.size,rawInt ep].toArray }).objs.size:=λb hb=>by
   rw[Ju];simp only[HW,Iy,JH]at hb;rcases hb with rfl|rfl
   ·exact .inr #[HE _,Jq _]
   ·exact .inl rfl
  cases hb:dW w with
  | true=>
   have W:=pZ (prog:=prog) (A:=A) (I:=s.heap.objs.size) hh (HV ha) hd fit hb;have eL:((pickOrder (w.params.setOrder a ep) es).toList.map (·.2)).length=es.size:=by rw[Hv,fD.length_eq,HS]
   refine h _ _ s.drawn #[#[[s.heap.objs.size,a],_,(pickOrder (w.params.setOrder a ep) es).toList.map (·.2),_,fD.map _,eL,W,#[oI _ _,Ht _ ho],near],HE _,λb u e=>Ht _ e]
  | false=>
   have hl:t.led=true:=by rw[led,hb]; rfl
   have eL:(es.toList.map (·.2)).length=es.size:=by rw[Hv,HS]
   by_cases hpw:t.plain=true/\eB t es.size=true
   ·have W:=nF (prog:=prog) (A:=A) (I:=s.heap.objs.size) hh (HV ha) hd fit hb hl hpw.1 hpw.2;refine h _ _ s.drawn #[#[[s.heap.objs.size,a],_,es.toList.map (·.2),_,.refl _,eL,W,#[oI _ _,Ht _ ho],near],HE _,λb u e=>Ht _ e]
   have h1:es.size<=1:=by
    cases hp:t.plain with
    | true=>
     rcases pl hp with z|z
     ·rw[z]; exact Jx _
     ·exact absurd #[hp,z] hpw
    | false=>
     refine O4 λz=>hc ?_
     show((!dW w)&&((!t.plain)&&decide (es.size > 1)))=true;rw[hb,hp]
     simpa using z
   have W:=tf (prog:=prog) (A:=A) (I:=s.heap.objs.size) hh (HV ha) hd fit hb hl h1;refine h _ _ s.drawn #[#[[s.heap.objs.size,a],_,es.toList.map (·.2),_,.refl _,eL,W,#[oI _ _,Ht _ ho],near],HE _,λb u e=>Ht _ e]
def vw {Q:Il->Hw->Prop}(hT:s.TypeIs (.ref a) "set")(h:Q false s):wpAny (model prog w) A (Mq (.ref a)) Q E s:=by
 unfold Mq;refine Hs (Nu hT F.slot_set_len.lookup ?_);generalize hid:("set.__len__" : Jy)=k0
 wp_delta
 rw[show splitId k0=ba ("set","__len__")from by subst hid; decide +kernel]
 subst hid;refine Hs (KW (T:="set") (b:=true) hT Op ?_);refine K8 (λz=>absurd z #v[]) (λ_=>K8 (λ_=>?_) (λz=>absurd (by decide +kernel) z))
 exact Hs (K6 hT (Hx h))
def nH {Q:Hr Hu->Hw->Prop}(hh:A.handled=gV)(ho:s.heap.get? a=ba o)(hex:o.ExactSet)(hd:o.data=.set es ep t)(hz:es.size<=sizeLine)(fit:t.fits es.size=true)(led:t.led = !dW w)(pl:t.plain=true->es.size=0\/eB t es.size=true)
  (hQ:∀h' tk dr us,(∀b u,s.heap.get? b=ba u->h'.get? b=ba u)->s.heap.objs.size<=h'.objs.size->us.Perm (es.toList.map (·.2))->Q us { s with heap:=h',toks:=tk,drawn:=dr }):wpAny (model prog w) A (collect (.ref a)) Q E s:=by
 have ha:a < s.heap.objs.size:=HP ho;unfold collect;refine Hs (Lj (Jf F.entry_proto_collect ?_));rw[Jc F.plain_proto_collect _];show wpAny _ A.in1 (newList [] >>= λl=>again (.builtin "list.__iadd__" #[[l,.ref a],[]])) _ _ s
 refine Hs (IH ?_);have oL:(s.heap.push { cls:=.type "list",data:=.seq ([]:Hr Hu).toArray }).get? s.heap.objs.size=ba { cls:=.type "list",data:=.seq #[] 0 }:=HI _ rfl;have o1:=Ht { cls:=.type "list",data:=.seq ([]:Hr Hu).toArray } ho;have z1:(s.heap.push { cls:=.type "list",data:=.seq ([]:Hr Hu).toArray }).objs.size=s.heap.objs.size+1:=Ju ..;refine Hx #[J4 F.plain_list_iadd _,Jf F.entry_list_iadd ?_];rw[Jc F.plain_list_iadd _];show wpAny _ A.in1 (JI (.ref s.heap.objs.size) (.ref a) (.ref s.heap.objs.size)) _ _ _;unfold JI;refine Hs (K6 (T:="set") #[o,o1,hex.1] ?_);have n1:M4 (.ref s.heap.objs.size) (.ref a)=false:=by
  have:s.heap.objs.size≠a:=Jz ha;simp[M4,this]
 have n2:(JE "set" == JE "list")=false:=by decide
 have n3:(JE "set" == JE "tuple")=false:=by decide
 simp only[n1,n2,n3,Ob,Ij,Jn];refine Hs (vt (A:=A.in1) (by simp[hh]) o1 hex hd hz fit led pl λI h' dr W=>?_)
 obtain⟨⟨fp,St,us,n,hP,hn,W,st,hfp⟩,hI,kp⟩:=W;rw[z1]at hI;have oa:=kp a o o1;refine Hs (Jg (vw #[o,oa,hex.1] ?_));have oL1:=kp _ _ oL;have hD:s.heap.objs.size∉fp:=λz=>by
  rcases hfp _ z with e|⟨e,_⟩
  ·exact Jz ha e
  ·rw[z1]at e; exact Nat.not_succ_le_self _ e
 refine K8 (λ_=>?_) (λz=>absurd (by decide +kernel) z)
 refine Hs (Mv (Hs ?_));show wpAny _ _ (updateSeq s.heap.objs.size (·.push .none) >>= λ_=>updateSeq s.heap.objs.size (·.pop)) _ _ _
 refine Hs (LH oL1 rfl ?_);have oL2:=JF (JA (·.push IP)) oL1 rfl
 refine LH (hz:=by seq_fits) oL2 rfl ?_
 have oL3:=JF (JA (·.pop)) oL2 rfl
 have hnl:n<=sizeLine:=by rw[<- hn,hP.length_eq,Hv,HS]; exact hz
 refine Hx #[J4 PySem.F.plain_extend_loop _,codeAny_extend_loopS W.toS hnl s.heap.objs.size hD (.ref s.heap.objs.size) n 0 _ #[] _ rfl (Jx _) (W.frame 0 _ _ st λb hb u e=>?_) oL3 (ItemsOf.nil _) λs' acc c' mv oS hacc=>?_]
 ·have hb':b≠s.heap.objs.size:=λz=>hD (z ▸ hb)
  exact(IM _ _ (Ne.symm hb')).trans ((IM _ _ (Ne.symm hb')).trans e)
 ·rw[Od mv];show wpAny (model prog w) A (do
    let o <- load s.heap.objs.size
    match o.data with
    | .seq xs _=>pure xs.toList
    | _=>unsupported "internal:collect") Q E _
  refine Hs (Nh oS (Hx ?_));have eU:acc.toList=us:=by
   apply MZ;intro i
   by_cases hi:i < n
   ·have h1:i < acc.size:=by rw[hacc.1]; exact hi
    have:=hacc.2 i acc[i] (by simp[h1])
    rw[this,Jd]; simp[h1]
   ·rw[Lb (by rw[HS,hacc.1]; omega),Lb ∅]
  rw[eU];refine hQ _ _ dr us (λb u e=>?_) (K4 (HP oS)) hP
  have hb:=HP e;have hb':b≠s.heap.objs.size:=HV hb;refine mv.heap b u (λz=>?_) ((IM _ _ (Ne.symm hb')).trans ((IM _ _ (Ne.symm hb')).trans (kp b u (Ht _ e))))
  simp only[HW,Iy,JH]at z;rcases z with z|z
  ·exact hb' z
  ·rw[z]at hb; exact Jw _ (Iu (JT hb) hI)
end
abbrev uF (S:aa)(i:HB):HA (HM×HM):=match S[i]? with
 | some (.rng lo hi)=>ba (lo,hi)
 | _=>gV
abbrev jA (xs:Hr W)(S:aa):HA (W×aa):=match xs with
 | [.int j]=>if -(2 ^ 62)<=j/\j < 2 ^ 62 then ba (.ref S.length,S++[.rng 0 j])else gV
 | _=>gV
abbrev ze (lo:HM)(n:HB):Hr W:=(Ix n).map λ(k:HB)=>.int (lo+(k:HM))
abbrev gP (xs:Hr W)(S:aa):HA (W×aa):=match xs with
 | [.ref i]=>match uF S i with
  | some (lo,hi)=>if -(2 ^ 62)<=lo/\lo < 2 ^ 62/\-(2 ^ 62)<=hi/\hi < 2 ^ 62/\(hi - lo).toNat<=sizeLine then ba (.ref S.length,S++[.lst (ze lo (hi - lo).toNat)])else gV
  | none=>fW [.ref i] S
 | xs=>fW xs S
section
variable{X:Cx}{J:Hr (HD×JJ)}{Y:L2.St}{H:Hp}{s:Hw}{A:Hr HD}{S:aa}
def Inv.drawn (I:Inv X J Y H s)(d:Rr):Inv X J Y H { s with drawn:=d }:=#[I.ok,I.os,I.bare,I.base,I.loc,I.cell,I.free,I.freeC,I.pin,I.hok,I.len]
def ef {h':IJ}{tk:HB}{dr:Rr}{D:HD}{n:O}{u:HO}(I:Inv X J Y H s)(so:StoreOk X.w X.K A H S)(hk:∀b o,s.heap.get? b=ba o->h'.get? b=ba o)(hD:s.heap.objs.size<=D)(new:ObjOk X.prog X.w (bc H D u) h' D u)
  (r:H D=gV->ObjRel X.w X.K (A++[D]) (bc H D u) D n):cY X J Y A H (S++[n]) (.ref S.length) (.ref D) { s with heap:=h',toks:=tk,drawn:=dr }:=by
 have hn:H D=gV:=I.hok.fresh hD;refine#[.ref D,_,A++[D],Mi.Inv.drawn (I.laid (a:=D) (o:=u) (t':=tk) hk hD new) dr,rfl,bY hn,so.pushO hn (r hn),.ref ?_];rw[<- so.len]; simp
def lZ:∀ {vs:Hr V} {us:Hr Hu},vs.length=us.length->(∀(i:HB) v u,vs[i]?=ba v->us[i]?=ba u->L2.RelV v u)->Vals vs us
 | [],[],_,_=>.nil
 | v::vs,u::us,hl,h=>.cons (h 0 v u rfl rfl) (lZ (by simpa using hl) λi v u a b=>h (i+1) v u (by simpa using a) (by simpa using b))
 | [],_::_,hl,_=>by cases hl
 | _::_,[],hl,_=>by cases hl
def l5 {K:HG}{lo:HM}:∀(l:Hr HB),RelL K A H (l.map λ(k:HB)=>W.int (lo+(k:HM))) (l.map λ(k:HB)=>V.int (lo+(k:HM)))
 | []=>.nil
 | _::l=>.cons .int (l5 l)
def eC {xs:Hr W}{vs:Hr V}{us:Hr Hu}{i:HB}(rl:RelL X.K A H [.ref i] vs)(rv:Vals vs us):∃a,A[i]?=ba a/\us=[.ref a]:=by
 cases rl with
 | cons r t=>
  cases t;cases r with
  | @ref _ a ea=>
   cases rv with
   | cons ru rv=>
    cases rv;obtain rfl:_=IA a:=ru;exact#[a,ea,rfl]
def nI:LCall X (.type "range") jA:=by
 intro J s Y H A S xs vs us w S' I so rl rv e;unfold jA at e;split at e
 ·rename_i j;split at e
  ·rename_i hb;cases e;cases rl with
   | cons r t=>
    cases t;cases r;cases rv with
    | cons ru rv=>
     cases rv;obtain⟨tk,rfl⟩:=ru;exact Qs (ef (dr:=s.drawn) (u:=.rng 0 j) I so (λb o e=>Ht _ e) (HE _) #[_,_,_,HI _ rfl] λ_=>aA)
  ·cases e
 ·cases e
def nJ (hh:X.A.handled=gV):LCall X (.type "list") gP:=by
 intro J s Y H A S xs vs us w S' I so rl rv e;unfold gP at e;split at e
 ·rename_i i;split at e
  ·rename_i lo hi hr;split at e
   ·rename_i hb;cases e;obtain⟨a,ea,rfl⟩:=eC (xs:=[]) rl rv;obtain⟨b1,b2,b3,b4,b5⟩:=hb;have hH:H a=ba (.rng lo hi):=by
     unfold uF at hr;split at hr
     ·rename_i hx; cases hr; exact so.obj i _ a hx ea
     ·cases hr
    obtain⟨t,u,v,ho⟩:=I.hok a _ hH;have hn:J1 lo hi 1=((hi - lo).toNat:HB):=by rw[N9]; split <;> omega
    refine call_list_range hh ho (Qo b1 b2 b3 b4) hn b5 λh' tk acc c hk hD hacc=>?_
    have hv:Vals ((Ix (hi - lo).toNat).map λ(k:HB)=>V.int (lo+(k:HM))) acc.toList:=by
     refine lZ (by rw[Hv,IL,HS,hacc.1]) λi v u e1 e2=>?_
     rw[HF,Hy]at e1;obtain⟨k,e1,rfl⟩:=e1;obtain⟨hk,rfl⟩:=HH.mp e1;obtain⟨t,rfl⟩:=hacc.2 i u (by rw[<- Jd]; exact e2)
     exact#[t,by simp]
    refine ef (dr:=s.drawn) (u:=.lst ((Ix (hi - lo).toNat).map λ(k:HB)=>V.int (lo+(k:HM)))) I so hk (HE _) #[by simpa using b5,acc.toList,c,hv,by simpa using hD] λhn=>#[_,aA,?_]
    exact l5 _
   ·cases e
  ·exact gv J s Y H A S _ vs us w S' I so rl rv e
 ·exact gv J s Y H A S _ vs us w S' I so rl rv e
end
mutual
inductive IsT (h:IJ):T->Hu->Prop
 | int {i:HM} {t:RC}:IsT h (.int i) (.int i t)
 | str {x:HY} {t:RC}:IsT h (.str x) (.str x t)
 | tup {ks:Hr T} {a:HD} {o:JJ} {items:Ik Hu} {n:HB}:h.get? a=ba o->o.cls=.type "tuple"->o.data=.seq items n->IsTs h ks items.toList->IsT h (.tup ks) (.ref a)
inductive IsTs (h:IJ):Hr T->Hr Hu->Prop
 | nil:IsTs h [] []
 | cons {k:T} {v:Hu} {ks:Hr T} {vs:Hr Hu}:IsT h k v->IsTs h ks vs->IsTs h (k::ks) (v::vs)
end
mutual
theorem IsT.inj {h:IJ}:∀ {x y:T} {v:Hu},IsT h x v->IsT h y v->x=y
 | _,_,_,.int,h2=>by cases h2; rfl
 | _,_,_,.str,h2=>by cases h2; rfl
 | _,_,_,.tup a1 _ d1 t1,h2=>by
  cases h2 with
  | tup a2 _ d2 t2=>
   rw[a1]at a2; cases a2
   rw[d1]at d2; cases d2
   rw[IsTs.inj t1 t2]
theorem IsTs.inj {h:IJ}:∀ {x y:Hr T} {v:Hr Hu},IsTs h x v->IsTs h y v->x=y
 | _,_,_,.nil,h2=>by cases h2; rfl
 | _,_,_,.cons a b,h2=>by
  cases h2 with
  | cons c d=>rw[IsT.inj a c,IsTs.inj b d]
end
mutual
theorem IsT.keeps {h h':IJ}{d:HD}{o:JJ}{es:Ik Kj}{ep:HB}(ho:h.get? d=ba o)(hd:o.data=.dict es ep)(hs:JW d h h'):∀ {x:T} {v:Hu},IsT h x v->IsT h' x v
 | _,_,.int=>.int
 | _,_,.str=>.str
 | _,_,.tup (a:=a) a1 c1 d1 t1=>by
  have hne:a≠d:=by
   rintro rfl;rw[a1]at ho; cases ho
   rw[d1]at hd; cases hd
  exact .tup ((hs.2 a hne).trans a1) c1 d1 (IsTs.keeps ho hd hs t1)
theorem IsTs.keeps {h h':IJ}{d:HD}{o:JJ}{es:Ik Kj}{ep:HB}(ho:h.get? d=ba o)(hd:o.data=.dict es ep)(hs:JW d h h'):∀ {x:Hr T} {v:Hr Hu},IsTs h x v->IsTs h' x v
 | _,_,.nil=>.nil
 | _,_,.cons a b=>.cons (IsT.keeps ho hd hs a) (IsTs.keeps ho hd hs b)
end
def IsTs.length {h:IJ}:∀ {x:Hr T} {v:Hr Hu},IsTs h x v->x.length=v.length
 | _,_,.nil=>rfl
 | _,_,.cons _ b=>by simp[IsTs.length b]
def IsTs.get {h:IJ}:∀ {x:Hr T} {v:Hr Hu},IsTs h x v->∀(j:HB) (h1:j < x.length) (h2:j < v.length),IsT h x[j] v[j]
 | _,_,.cons a _,0,_,_=>a
 | _,_,.cons _ b,j+1,h1,h2=>IsTs.get b j (by simpa using h1) (by simpa using h2)
def bJ:∀ {ks:Hr T} (j:HB) (h:j < ks.length),(ks[j]).depth<=T.depths ks
 | k::ks,0,_=>by simp only[T.depths,List.getElem_cons_zero]; omega
 | k::ks,j+1,h=>by
  have:=bJ (ks:=ks) j (by simpa using h)
  simp only[T.depths,List.getElem_cons_succ]; omega
section
variable{prog:Iw}{w:IE}{E:Hu->Hw->Prop}
mutual
theorem nK:∀(k:T) (v:Hu) (A:IB) (s:Hw) (Q:HM->Hw->Prop),IsT s.heap k v->A.units+k.depth < cLine->Q (dJ w k) { s with toks:=s.toks+k.draws }->wpAny (model prog w) A (pyHash v) Q E s
 | .int i,_,A,s,Q,x,_,h=>by cases x; exact OW h
 | .str y,_,A,s,Q,x,_,h=>by cases x; exact OX h
 | .tup ks,_,A,s,Q,x,hu,h=>by
  cases x with
  | @tup _ a o items n hg hc hd hw=>
   simp only[T.depth]at hu;refine PySem.W.pyHash_slot (T:="tuple") #[_,hg,hc] F.slot_tuple_hash F.entry_tuple_hash (F.args_tuple_hash_1 _) (beq_builtin_none _) (.inr ∅) ?_
   show wpAny _ _ (Lh (.ref a) >>= _) _ _ s;refine Hs (wpAny_tupleItemsOf hg hd ?_);refine Hs ?_;rw[<- LK];refine jB ks items.toList A.in1 s #[] _ hw (by rw[aB]; omega) λb hb=>?_
   show wpAny _ _ (retInt (Lw b.toList)) _ _ _;rw[hb];refine Hs (Pk (Hx #[_,_,rfl,?_]))
   simpa [T.draws,Qd,dJ]using h
theorem jB:∀(ks:Hr T) (vs:Hr Hu) (A:IB) (s:Hw) (b:Ik HM) (Q:Ik HM->Hw->Prop),IsTs s.heap ks vs->A.units+T.depths ks < cLine->
  (∀b',b'.toList=b.toList++gp w ks->Q b' { s with toks:=s.toks+T.drawss ks })->
  wpAny (model prog w) A (forIn vs b λx r=>do let h <- pyHash x; pure Oq; pure (JZ (r.push h))) Q E s
 | [],_,A,s,b,Q,x,_,h=>by cases x; exact Hx (h b (by simp[gp]))
 | k::ks,_,A,s,b,Q,x,hu,h=>by
  cases x with
  | cons x1 x2=>
   simp only[T.depths]at hu;rw[Mf];refine Hs (Hs (nK k _ A s _ x1 ∅ ?_))
   refine Hs (Hx (Hx ?_));refine jB ks _ A _ _ Q x2 ∅ λb' hb=>?_
   have:=h b' (by simp[hb,gp])
   simpa [T.drawss,Qd]using this
end
open SeqAt in
def tj:∀(d:HB) (x y:T) (u v:Hu) (B:IB) (s:Hw),x.depth<=d->IsT s.heap x u->IsT s.heap y v->B.units+d < cLine->B.units+y.depth < cLine->EqAt B s u v (decide (x=y))
 | d,.int i,y,_,_,B,s,_,h1,h2,hu,hv=>by
  cases h1;cases h2 with
  | int=>
   rename_i j t2;have:decide (T.int i=T.int j)=(i==j):=by by_cases e:i=j <;> simp[e]
   rw[this]; exact .int_int _ _ _ _
  | str=>rw[Iz (by simp)]; exact .int_str _ _ _ _
  | tup a c dd t=>rw[Iz (by simp)]; exact .int_tuple _ _ #[_,a,c,_,dd] (by simp only[T.depth]at hv; omega)
 | d,.str z,y,_,_,B,s,_,h1,h2,hu,hv=>by
  cases h1;cases h2 with
  | int=>rw[Iz (by simp)]; exact .str_int _ _ _ _
  | str=>
   rename_i z2 t2;have:decide (T.str z=T.str z2)=(z==z2):=by by_cases e:z=z2 <;> simp[e]
   rw[this]; exact .str_str _ _ _ _
  | tup a c dd t=>rw[Iz (by simp)]; exact .str_tuple _ _ #[_,a,c,_,dd] (by simp only[T.depth]at hv; omega)
 | 0,.tup ks,y,_,_,B,s,hd,h1,h2,hu,hv=>by simp[T.depth]at hd
 | d+1,.tup ks,y,_,_,B,s,hd,h1,h2,hu,hv=>by
  have h1':=h1;cases h1 with
  | @tup _ a o items n a1 c1 d1 t1=>
   have hT:s.heap.IsTuple a items:=#[_,a1,c1,_,d1];simp only[T.depth]at hd;cases h2 with
   | int=>rw[Iz (by simp)]; exact .tuple_int _ _ hT ∅
   | str=>rw[Iz (by simp)]; exact .tuple_str _ _ hT ∅
   | @tup ks2 b o2 items2 n2 a2 c2 d2 t2=>
    have hT2:s.heap.IsTuple b items2:=#[_,a2,c2,_,d2]
    by_cases hab:a=b
    ·subst hab;have:T.tup ks=T.tup ks2:=h1'.inj (.tup a2 c2 d2 t2);rw[JL this];exact EqAt.same _
    ·refine EqAt.of_refs hab ?_;simp only[T.depth]at hv;have l1:items.size=ks.length:=by rw[<- HS,t1.length]
     have l2:items2.size=ks2.length:=by rw[<- HS,t2.length]
     let e:HB->Il:=λj=>if h:j < ks.length/\j < ks2.length then decide (ks[j]'h.1=ks2[j]'h.2)else true
     have he:∀j (h1:j < items.size) (h2:j < items2.size),EqAt B.in1 s items[j] items2[j] (e j):=λj j1 j2=>by
      have g1:=t1.get j (l1 ▸ j1) (by simpa using j1)
      have g2:=t2.get j (l2 ▸ j2) (by simpa using j2)
      have q1:=bJ (ks:=ks) j (l1 ▸ j1);have q2:=bJ (ks:=ks2) j (l2 ▸ j2);have:=tj d _ _ _ _ B.in1 s ∅ g1 g2 (by rw[aB]; omega) (by rw[aB]; omega)
      show EqAt B.in1 s items[j] items2[j] (if h:j < ks.length/\j < ks2.length then decide (ks[j]'h.1=ks2[j]'h.2)else true)
      rw[Re #[l1 ▸ j1,l2 ▸ j2]]
      simpa using this
     have:=RcAt.tuples hT hT2 ∅ he
     have hk:((Ix (min items.size items2.size)).all e&&items.size==items2.size)=decide (T.tup ks=T.tup ks2):=by
      rw[l1,l2]
      by_cases hl:ks.length=ks2.length
      ·by_cases hq:ks=ks2
       ·subst hq;simp only[Qu,IS,LD,Pl,Ig,IU];intro j hj;show(if h:j < ks.length/\j < ks.length then decide (ks[j]'h.1=ks[j]'h.2)else true)=true
        rw[Re #[hj,hj]]; simp
       ·rw[Iz (by simpa using hq)]
        have:∃j,∃h:j < ks.length,ks[j]≠ks2[j]'(hl ▸ h):=by
         apply MR;intro hn;exact hq (L4 hl λj h1 h2=>MR λz=>hn #[j,h1,z])
        obtain⟨j,hj,hne⟩:=this;rw[NC];apply Or.inl;rw[List.all_eq_false];refine#[j,by rw[IU,<- hl,Qu]; exact hj,?_]
        show ¬ (if h:j < ks.length/\j < ks2.length then decide (ks[j]'h.1=ks2[j]'h.2)else true)=true
        rw[Re #[hj,hl ▸ hj]]
        simpa using hne
      ·rw[Iz (by simp; intro z; exact hl (by rw[z])),NC]
       right
       simpa using hl
     rw[hk]at this;exact this
def kX {n:HB}{v:Hu}(h:∀a,v≠.ref a):eqIsQuiet n v=pure true:=by
 cases v with
 | ref a=>exact absurd rfl (h a)
 | _=>first|rfl|simp[eqIsQuiet]|(unfold eqIsQuiet; rfl)
def jf:∀(d:HB) (k:T) (v:Hu) (A:IB) (s:Hw) (Q:Il->Hw->Prop),k.depth<=d->IsT s.heap k v->Q true s->wpAny (model prog w) A (eqIsQuiet d v) Q E s
 | d,.int i,_,A,s,Q,_,x,h=>by cases x; rw[kX (λa=>by simp)]; exact Hx h
 | d,.str i,_,A,s,Q,_,x,h=>by cases x; rw[kX (λa=>by simp)]; exact Hx h
 | 0,.tup ks,_,A,s,Q,hd,x,h=>by simp[T.depth]at hd
 | d+1,.tup ks,_,A,s,Q,hd,x,h=>by
  cases x with
  | @tup _ a o items n ho hc hdt hi=>
   simp only[T.depth]at hd;have hT:s.TypeIs (.ref a) "tuple":=#[_,ho,hc];unfold eqIsQuiet;refine Hs (Nu hT F.slot_tuple_eq.lookup ?_);show wpAny _ _ (isInstance (.ref a) (.type "tuple") >>= _) _ _ s;refine Hs (KW hT isSubtype_tuple_tuple ?_);simp only[KM,Ij,Jn];refine Hs (JD ho hdt ?_);refine Hs ?_;show wpAny _ _ (forIn items _ _) _ _ s;rw[<- LK];refine Ls _ (λbe r s'=>r.1=gV/\s'=s/\∃kk,IsTs s.heap kk be/\T.depths kk<=d) _ ?_ ?_ _ _ #[rfl,rfl,ks,hi,∅]
   ·rintro v be r s' ⟨hr,rfl,kk,hall,hdk⟩;cases hall with
    | cons q1 q2=>
     simp only[T.depths]at hdk;refine Hs (jf d _ v _ _ _ ∅ q1 ?_)
     simp only[KM,Ij,Jn];exact Hx #[rfl,rfl,_,q2,∅]
   ·rintro⟨r1,r2⟩ s' ⟨hr,rfl,_⟩;simp only at hr;subst hr;exact Hx h
end
abbrev aQ (prog:Iw)(w:IE):HeapKind prog w T where
 is:=λh k a=>IsT h k (.ref a)/\k.depth<=ap
 hash:=dJ w
 draws:=T.draws
 room:=λA=>A.units+ap < cLine
 inj:=λhx hy=>hx.1.inj hy.1
 keeps:=λx ho hd hs=>#[x.1.keeps ho hd hs,x.2]
 pyHash:=λhu hk h=>nK _ _ _ _ _ hk.1 (by have:=hk.2; omega) h
 eqBool:=λhu hx hy h=>tj ap _ _ _ _ _ _ hx.2 hx.1 hy.1 hu (by have:=hy.2; omega) _ _ _ _ h
 quiet:=λhk h=>jf 8 _ _ _ _ _ (by have:=hk.2; unfold ap at this; omega) hk.1 h
section
variable{prog:Iw}{w:IE}{E:Hu->Hw->Prop}
def kY {n:HB}{v:Hu}(h:∀a,v≠.ref a):ofAClassStatement n v=pure false:=by
 cases v with
 | ref a=>exact absurd rfl (h a)
 | _=>first|rfl|simp[ofAClassStatement]|(unfold ofAClassStatement; rfl)
def l7:∀(d:HB) (k:T) (v:Hu) (A:IB) (s:Hw) (Q:Il->Hw->Prop),k.depth<=d->IsT s.heap k v->Q false s->wpAny (model prog w) A (ofAClassStatement d v) Q E s
 | d,.int i,_,A,s,Q,_,x,h=>by cases x; rw[kY (λa=>by simp)]; exact Hx h
 | d,.str i,_,A,s,Q,_,x,h=>by cases x; rw[kY (λa=>by simp)]; exact Hx h
 | 0,.tup ks,_,A,s,Q,hd,x,h=>by simp[T.depth]at hd
 | d+1,.tup ks,_,A,s,Q,hd,x,h=>by
  cases x with
  | @tup _ a o items n ho hc hdt hi=>
   simp only[T.depth]at hd;have hT:s.TypeIs (.ref a) "tuple":=#[_,ho,hc];unfold ofAClassStatement;refine Hs (K6 hT ?_);dsimp only;rw[Ic (show("tuple" == "tuple")=true by decide)]
   refine Hs (Hx ?_);simp only[KM,Ij,Jn];refine Hs (JD ho hdt ?_);refine Hs ?_;show wpAny _ _ (forIn items _ _) _ _ s;rw[<- LK];refine Ls _ (λbe r s'=>r.1=gV/\s'=s/\∃kk,IsTs s.heap kk be/\T.depths kk<=d) _ ?_ ?_ _ _ #[rfl,rfl,ks,hi,∅]
   ·rintro v be r s' ⟨hr,rfl,kk,hall,hdk⟩;cases hall with
    | cons q1 q2=>
     simp only[T.depths]at hdk;refine Hs (l7 d _ v _ _ _ ∅ q1 ?_)
     simp only[Ij,Jn];exact Hx #[rfl,rfl,_,q2,∅]
   ·rintro⟨r1,r2⟩ s' ⟨hr,rfl,_⟩;simp only at hr;subst hr;exact Hx h
def vx {A:IB}{s:Hw}{Q:Il->Hw->Prop}{x:T}{b:HD}{ys:Hr Hu}(hx:IsT s.heap x (.ref b))(hdx:x.depth<=ap)(hy:∀v∈ys,∃y c,v=.ref c/\IsT s.heap y (.ref c)/\y.depth<=ap)(h:Q false s):wpAny (model prog w) A (searchCouldBeSeen (.ref b) ys) Q E s:=by
 unfold searchCouldBeSeen;refine Hs ?_;refine Ls _ (λbe r s'=>r.1=gV/\s'=s/\∀v∈be,∃y c,v=.ref c/\IsT s.heap y (.ref c)/\y.depth<=ap) _ ?_ ?_ _ _ #[rfl,rfl,hy]
 ·rintro v be r s' ⟨hr,rfl,hall⟩;obtain⟨y,c,rfl,q,hdy⟩:=hall v (.head _);have hrest:∀v∈be,∃y c,v=.ref c/\IsT s'.heap y (.ref c)/\y.depth<=ap:=λv hv=>hall v (.tail _ hv)
  have k6:ap<=8:=by unfold ap; decide
  dsimp only;split
  ·exact Hx #[rfl,rfl,hrest]
  ·refine Hs (jf 8 _ _ _ _ _ ∅ hx ?_)
   simp only[KM,Ij,Jn];refine Hs (jf 8 _ _ _ _ _ ∅ q ?_)
   simp only[KM,Ij,Jn];refine Hs (l7 8 _ _ _ _ _ ∅ hx ?_)
   simp only[Ij,Jn];refine Hs (l7 8 _ _ _ _ _ ∅ q ?_)
   simp only[Ij,Jn];exact Hx #[rfl,rfl,hrest]
 ·rintro⟨r1,r2⟩ s' ⟨hr,rfl,_⟩;simp only at hr;subst hr;exact Hx h
end
inductive Sf where|there|free (slot:HB)
abbrev c8 (es:Ik (HM×T))(t:Jl)(x:T)(h:HM):HB->HA ME->HA Sf
 | 0,_=>gV
 | f+1,stand=>match t.probe (λi=>(es[i]?.map (·.1)).getD 0) h (stand.getD (t.probeStart h))with
  | none=>gV
  | some (.empty j gV)=>ba (.free j)
  | some (.empty _ (ba _))=>gV
  | some (.candidate j i next)=>match es[i]? with
   | none=>gV
   | some (_,y)=>if y=x then ba .there else if t.slot j=.live i then c8 es t x h f (ba next)else gV
structure SE (h:IJ)(es0:Ik (HM×T))(es:Ik (HM×Hu)):Prop where
 size:es0.size=es.size
 ent:∀(i:HB) (hh:HM) (y:T),es0[i]?=ba (hh,y)->∃b:HD,es[i]?=ba (hh,IA b)/\IsT h y (.ref b)/\y.depth<=ap
def SE.hash {h:IJ}{es0:Ik (HM×T)}{es:Ik (HM×Hu)}(R:SE h es0 es):(λ(i:HB)=>(es0[i]?.map (λp=>p.1)).getD 0)=λ(i:HB)=>(es[i]?.map (λp=>p.1)).getD 0:=by
 funext i
 cases e:es0[i]? with
 | none=>
  have:es[i]?=gV:=by rw[Array.getElem?_eq_none_iff]at e ⊢; rw[<- R.size]; exact e
  rw[this]; rfl
 | some p=>
  obtain⟨b,e2,_⟩:=R.ent i p.1 p.2 e;rw[e2]; rfl
def SE.vals {h:IJ}{es0:Ik (HM×T)}{es:Ik (HM×Hu)}(R:SE h es0 es):∀e∈es.toList,∃y c,e.2=.ref c/\IsT h y (.ref c)/\y.depth<=ap:=λe he=>by
 obtain⟨i,hi,rfl⟩:=JM.mp he;rw[HS]at hi;have hi0:i < es0.size:=by rw[R.size]; exact hi
 obtain⟨b,e2,q⟩:=R.ent i es0[i].1 es0[i].2 (Kb hi0);rw[Kb hi]at e2;refine#[_,b,?_,q];rw[L8,Je e2]
section
variable{prog:Iw}{w:IE}{E:Hu->Hw->Prop}{A:IB}{s:Hw}
def vy {a b:HD}{o:JJ}{es0:Ik (HM×T)}{es:Ik (HM×Hu)}{ep:HB}{t:Jl}{x:T}{h:HM}{Q:SetFound->Hw->Prop}(ho:s.heap.get? a=ba o)(hd:o.data=.set es ep t)(hf:t.fits es.size=true)(hg:t.gaveWay=false)(R:SE s.heap es0 es)
    (hx:IsT s.heap x (.ref b)) (hdx:x.depth<=ap) (hu:(aQ prog w).room A):∀(f F:HB) (stand:HA ME) (r:Sf),c8 es0 t x h f stand=ba r->f<=F->(r=.there->Q (.there gV) s)->(∀j,r=.free j->Q (.free j false) s)->
    wpAny (model prog w) A (setSearchFrom a (.ref b) h true F stand) Q E s:=by
  intro f
  induction f with
  | zero=>intro F stand r e; cases e
  | succ f ih=>
    intro F stand r e hF h1 h2;obtain⟨F,rfl⟩ : ∃F',F=F'+1:=#[F - 1,∅]
    unfold setSearchFrom;refine Hs (Js ho hd hf ?_);dsimp only;rw[hg];simp only[Ij,Jn];unfold c8 at e;rw[R.hash]at e;split
    · rename_i met hm
      have hm:t.probe (λi=>(es[i]?.map (·.1)).getD 0) h (stand.getD (t.probeStart h))=ba met:=hm
      rw[hm]at e;cases met with
      | empty j dm=>
        cases dm with
        | none=>cases e; exact Hx (h2 j rfl)
        | some d=>cases e
      | candidate j i next=>
        dsimp only at e ⊢;cases ei:es0[i]? with
        | none=>rw[ei]at e; cases e
        | some p=>
          obtain⟨hh,y⟩:=p;rw[ei]at e;dsimp only at e;obtain⟨c,ec,qy,hdy⟩:=R.ent i hh y ei;rw[ec];dsimp only;have sm:t.sameMemory t.moves t.mask=ba true:=by unfold QZ; rw[Ic (IS _)]
          have hv:∀v∈QM (λx=>x.snd) (Array.filter (λx=>x.fst==h) es).toList,∃y c,v=IA c/\IsT s.heap y (.ref c)/\y.depth<=ap:=λv hv=>by
            obtain⟨p,hp,rfl⟩:=HX.mp hv;rw[Array.toList_filter]at hp;exact R.vals p (JB.mp hp).1
          cases hl:t.led
          · simp only[NN,JP]
            refine Hs (vx hx hdx hv ?_);simp only[Ij,Jn];refine Hs (Jg ((aQ prog w).eqBool hu #[qy,hdy] #[hx,hdx] ?_));refine Hs (Js ho hd hf ?_)
            by_cases hyx:y=x
            · rw[Ic hyx]at e
              cases e;simp only[hyx,Pl,LD,JP];exact Hx (h1 rfl)
            · rw[Im hyx]at e
              split at e
              · rename_i hsl
                simp only[hyx,Qv,MA,Ij,Jn,sm,JP,hsl,ec];refine Hs (ND ?_);refine Hs (Hx ?_);simp only[JP];exact ih F (ba next) r e ∅ h1 h2
              · cases e
          · simp only[KM,Ij,Jn]
            refine Hs (Jg ((aQ prog w).eqBool hu #[qy,hdy] #[hx,hdx] ?_));refine Hs (Js ho hd hf ?_)
            by_cases hyx:y=x
            · rw[Ic hyx]at e
              cases e;simp only[hyx,Pl,LD,JP];exact Hx (h1 rfl)
            · rw[Im hyx]at e
              split at e
              · rename_i hsl
                simp only[hyx,Qv,MA,Ij,Jn,sm,JP,hsl,ec];refine Hs (ND ?_);refine Hs (Hx ?_);simp only[JP];exact ih F (ba next) r e ∅ h1 h2
              · cases e
    · rename_i hm
      have hm:t.probe (λi=>(es[i]?.map (·.1)).getD 0) h (stand.getD (t.probeStart h))=gV:=by
        first|exact hm|(cases hp:t.probe (λi=>(es[i]?.map (·.1)).getD 0) h (stand.getD (t.probeStart h))with
          | none=>rfl
          | some m=>exact absurd hp (hm m))
      rw[hm]at e;cases e
end
mutual
noncomputable def dH:T->Il
 | .int _=>true
 | .str _=>false
 | .tup xs=>bV xs
noncomputable def bV:Hr T->Il
 | []=>true
 | x::xs=>dH x&&bV xs
end
section
variable{prog:Iw}{w:IE}{E:Hu->Hw->Prop}
def rf:∀(d:HB) (k:T) (v:Hu) (A:IB) (s:Hw) (Q:Il->Hw->Prop),dH k=true->k.depth<=d->IsT s.heap k v->Q true s->wpAny (model prog w) A (hashByValue d v) Q E s
 | d,.int i,_,A,s,Q,_,_,x,h=>by
  cases x;have:∀t,hashByValue d (.int i t)=pure true:=λt=>by cases d <;> rfl
  rw[this]; exact Hx h
 | d,.str i,_,A,s,Q,hn,_,x,h=>by cases hn
 | 0,.tup ks,_,A,s,Q,_,hd,x,h=>by simp[T.depth]at hd
 | d+1,.tup ks,_,A,s,Q,hn,hd,x,h=>by
  cases x with
  | @tup _ a o items n ho hc hdt hi=>
   simp only[T.depth]at hd;have hn:bV ks=true:=hn;have hT:s.TypeIs (.ref a) "tuple":=#[_,ho,hc];unfold hashByValue;refine Hs (Nu hT F.slot_tuple_hash.lookup ?_);refine Hs (JD ho hdt ?_);refine Hs ?_;show wpAny _ _ (forIn items _ _) _ _ s;rw[<- LK];refine Ls _ (λbe r s'=>r.1=gV/\s'=s/\∃kk,IsTs s.heap kk be/\T.depths kk<=d/\bV kk=true) _ ?_ ?_ _ _ #[rfl,rfl,ks,hi,∅,hn]
   ·rintro v be r s' ⟨hr,rfl,kk,hall,hdk,hnk⟩;cases hall with
    | cons q1 q2=>
     simp only[T.depths]at hdk;simp only[bV,Hz]at hnk;refine Hs (rf d _ v _ _ _ hnk.1 ∅ q1 ?_)
     simp only[KM,Ij,Jn];exact Hx #[rfl,rfl,_,q2,∅,hnk.2]
   ·rintro⟨r1,r2⟩ s' ⟨hr,rfl,_⟩;simp only at hr;subst hr;exact Hx h
end
noncomputable abbrev Ze:=HM×T×HD
abbrev zT (z:Ze):HM×T:=(z.1,z.2.1)
abbrev zV (z:Ze):HM×Hu:=(z.1,.ref z.2.2)
abbrev ZOk (h:IJ)(zs:Ik Ze):Prop:=∀z∈zs.toList,IsT h z.2.1 (.ref z.2.2)/\z.2.1.depth<=ap
def ZOk.se {h:IJ}{zs:Ik Ze}(k:ZOk h zs):SE h (zs.map zT) (zs.map zV):=#[by simp,λi hh y e=>by
 rw[MF,Hy]at e;obtain⟨z,hz,e⟩:=e;cases e;exact#[z.2.2,by rw[MF,hz]; rfl,k z (by rw[Lk]; exact LY hz)]]
def gQ {α β:Type}{f:α->β}{xs:Ik α}{p:HB}{x:α}:IF (xs.map f) p (f x)=(IF xs p x).map f:=by
 unfold IF;simp[Array.map_extract]
abbrev cK (t:Jl)(n:HB):Il:=t.fits n && !t.gaveWay&&decide (n<=1000)
abbrev aW (hf:T->HM)(st:Ik (HM×T)×Jl)(x:T):HA (Ik (HM×T)×Jl):=
 match c8 st.1 st.2 x (hf x) 100 gV with
 | none=>gV
 | some .there=>ba st
 | some (.free slot)=>
  if cK (st.2.put slot).1 (IF st.1 (st.2.put slot).2 (hf x,x)).size then
   if (st.2.put slot).1.tooFull then
    if MG (LU (st.1.size+1))<=sizeLine then
     match (st.2.put slot).1.relaid ((IF st.1 (st.2.put slot).2 (hf x,x)).map (·.1)) (LU (st.1.size+1))with
     | none=>gV
     | some (t2,order)=>
      if (order.filterMap ((IF st.1 (st.2.put slot).2 (hf x,x))[·]?)).size=(IF st.1 (st.2.put slot).2 (hf x,x)).size/\cK t2 (order.filterMap ((IF st.1 (st.2.put slot).2 (hf x,x))[·]?)).size=true then ba (order.filterMap ((IF st.1 (st.2.put slot).2 (hf x,x))[·]?),t2)else gV
    else gV
   else ba (IF st.1 (st.2.put slot).2 (hf x,x),(st.2.put slot).1)
  else gV
def filterMap_map {α β:Type}{f:α->β}{xs:Ik α}{order:Ik HB}:order.filterMap ((xs.map f)[·]?)=(order.filterMap (xs[·]?)).map f:=by
 rw[Array.map_filterMap];congr 1
 funext i
 exact MF ..
def p4 {b:HD}{es:Ik (HM×Hu)}:byScan (.ref b) es=false:=rfl
def jC {t:Jl}{n:HB}(h:cK t n=true):t.fits n=true/\t.gaveWay=false/\n<=1000:=by
 unfold cK at h;simp only[Hz,M0,HQ]at h;exact#[h.1.1,h.1.2,h.2]
section
variable{prog:Iw}{w:IE}{E:Hu->Hw->Prop}{A:IB}{s:Hw}
def p7 {a:HD}{o:JJ}{es es1:Ik (HM×Hu)}{ep:HB}{t t1:Jl}{Q:Rt->Hw->Prop}(ho:s.heap.get? a=ba o)(hd:o.data=.set es ep t)(hz:es1.size<=1000)
  (h:∀h',JW a s.heap h'->h'.get? a=ba { o with data:=.set es1 (ep+1) t1 }->Q () { s with heap:=h' }):wpAny (model prog w) A (storeSet a es1 t1) Q E s:=by
 refine wpAny_storeSet_of ho hd (h _ (KQ ..) ?_) (ID hz (by rw[IX]; decide))
 have:=JF (Obj.putSet es1 t1) ho (by rw[putSet_of es1 t1 hd]; rfl)
 rw[putSet_of es1 t1 hd]at this;exact this
def D4 {a b:HD}{o:JJ}{zs:Ik Ze}{ep:HB}{t:Jl}{x:T}{hf:T->HM}{es1:Ik (HM×T)}{t1:Jl}{Q:Il->Hw->Prop}(ho:s.heap.get? a=ba o)(hd:o.data=.set (zs.map zV) ep t)(hft:cK t zs.size=true)(hz:ZOk s.heap zs)
  (hx:IsT s.heap x (.ref b)) (hdx:x.depth<=ap) (hnx:dH x=true) (hu:(aQ prog w).room A) (e:aW hf (zs.map zT,t) x=ba (es1,t1))
  (k:∀(bb:Il) (h':IJ) (zs':Ik Ze) (ep':HB),zs'.map zT=es1->cK t1 zs'.size=true->JW a s.heap h'->h'.get? a=ba { o with data:=.set (zs'.map zV) ep' t1 }->(∀z∈zs'.toList,z∈zs.toList\/z=(hf x,x,b))->Q bb { s with heap:=h' }) :
  wpAny (model prog w) A (setAddHashed a (.ref b) (hf x)) Q E s:=by
 obtain⟨f1,f2,f3⟩:=jC hft;have f1':t.fits (zs.map zV).size=true:=by rw[Jv]; exact f1
 unfold setAddHashed setAddHashedIn;refine Jg (Hs (Js ho hd f1' ?_));dsimp only;rw[p4];simp only[Ij,Jn];unfold aW at e;cases hs:c8 (zs.map zT) t x (hf x) 100 gV with
 | none=>rw[hs]at e; cases e
 | some r=>
  rw[hs]at e;dsimp only at e;refine Hs ?_;unfold setSearch;refine vy ho hd f1' f2 hz.se hx hdx hu 100 100000 gV r hs #v[] (λhr=>?_) λslot hr=>?_
  ·subst hr;cases e;exact Hx (k false s.heap zs ep rfl hft (OP ..) (by rw[<- hd]; exact ho) λz h=>.inl h)
  ·subst hr;dsimp only at e ⊢;refine Hs (Js ho hd f1' ?_);dsimp only;split at e
   ·rename_i hok1;have eI:IF (zs.map zT) (t.put slot).2 (hf x,x)=(IF zs (t.put slot).2 (hf x,x,b)).map zT:=gQ (f:=zT) (x:=(hf x,x,b));have eV:IF (zs.map zV) (t.put slot).2 (hf x,.ref b)=(IF zs (t.put slot).2 (hf x,x,b)).map zV:=gQ (f:=zV) (x:=(hf x,x,b));have hmem:∀z∈(IF zs (t.put slot).2 (hf x,x,b)).toList,z∈zs.toList\/z=(hf x,x,b):=λz h=>by
     unfold IF at h;simp only[Mn,MX,Io,HJ]at h;rcases h with(h|h)|h
     ·rw[Ll]at h;exact .inl (by rw[MS]at h; exact Lm (Kf h))
     ·exact .inr h
     ·rw[Ll]at h;exact .inl (by rw[MS]at h; exact Lm (Kf h))
    rw[eI]at e hok1;rw[Jv]at hok1;obtain⟨g1,g2,g3⟩:=jC hok1;rw[eV];have hfst:∀z1:Ik Ze,KY (λx=>x.fst) (KY zV z1)=KY (λx=>x.fst) (KY zT z1):=λz1=>by
     rw[Qe,Qe]; rfl
    simp only[Jv]at e ⊢;generalize(t.put slot).1=tt at e hok1 g1 g2 ⊢;generalize IF zs (t.put slot).2 (hf x,x,b)=z1 at e hok1 g1 g3 hmem ⊢;clear eI eV;have k8:x.depth<=8:=ID hdx (by unfold ap; decide)
    have g1v:tt.fits (KY zV z1).size=true:=by rw[Jv]; exact g1
    have tail:∀h1:IJ,JW a s.heap h1->h1.get? a=ba { o with data:=.set (KY zV z1) (ep+1) tt }->wpAny (model prog w) A (if (!false&&tt.tooFull)=true then do setRelay a (LU (zs.size+1)); pure true else pure true) Q E { s with heap:=h1 }:=by
     intro h1 sb1 q1;cases htf:tt.tooFull with
     | false=>
      rw[htf]at e;simp only[Ij,Jn]at e;cases e;simp only[NN,MA,Ij,Jn];exact Hx (k true h1 z1 (ep+1) rfl hok1 sb1 q1 hmem)
     | true=>
      rw[htf]at e;simp only[JP]at e;simp only[NN,LD,JP];split at e
      ·rename_i hle;cases hrel:tt.relaid (KY (λx=>x.fst) (KY zT z1)) (LU (zs.size+1))with
       | none=>rw[hrel]at e; cases e
       | some p=>
        obtain⟨t2,order⟩:=p;rw[hrel]at e;dsimp only at e;rw[filterMap_map,Jv]at e;split at e
        ·rename_i hc;cases e;obtain⟨c1,c2⟩:=hc;obtain⟨d1,d2,d3⟩:=jC c2;unfold setRelay;refine Hs (Hs (Js q1 rfl g1v ?_));dsimp only;rw[Im (Os.mpr hle)];rw[hfst,hrel];refine Hs (LN (a:=(KY zV (Pr (λx=>z1[x]?) order),t1)) ?_ ?_)
         ·show(if ((Pr (λx=>(KY zV z1)[x]?) order).size != (KY zV z1).size)=true then _ else _)=_
          rw[filterMap_map,Jv,Jv,c1];rw[Im (by simp)]
         ·dsimp only;refine p7 (s:={ s with heap:=h1 }) q1 rfl (by rw[Jv]; exact d3) λh2 sb2 q2=>Hx (k true h2 _ (ep+1+1) rfl c2 (sb1.trans sb2) q2 λz hz=>hmem z ?_)
          obtain⟨i,hi,e⟩:=Array.mem_filterMap.mp (Lk.mp hz);exact Lk.mpr (LY e)
        ·cases e
      ·cases e
    cases hp:tt.plain with
    | false=>
     simp only[Ij,Jn];refine Hs (Hx ?_);simp only[JP];exact Hs (p7 ho hd (by rw[Jv]; exact g3) λh1 sb1 q1=>tail h1 sb1 q1)
    | true=>
     simp only[JP];refine Hs (rf 8 _ _ _ _ _ hnx k8 hx ?_);simp only[JP];exact Hs (p7 ho hd (by rw[Jv]; exact g3) λh1 sb1 q1=>tail h1 sb1 q1)
   ·cases e
end
abbrev fG (h h':IJ):Prop:=∀c o,h.get? c=ba o->o.cls=.type "tuple"->h'.get? c=ba o
mutual
theorem IsT.stay {h h':IJ}(k:fG h h'):∀ {x:T} {v:Hu},IsT h x v->IsT h' x v
 | _,_,.int=>.int
 | _,_,.str=>.str
 | _,_,.tup a b c d=>.tup (k _ _ a b) b c (IsTs.stay k d)
theorem IsTs.stay {h h':IJ}(k:fG h h'):∀ {x:Hr T} {v:Hr Hu},IsTs h x v->IsTs h' x v
 | _,_,.nil=>.nil
 | _,_,.cons a b=>.cons (IsT.stay k a) (IsTs.stay k b)
end
def ZOk.stay {h h':IJ}{zs:Ik Ze}(k:fG h h')(z:ZOk h zs):ZOk h' zs:=λy hy=>#[(z y hy).1.stay k,(z y hy).2]
section
variable{prog:Iw}{w:IE}{A:IB}{E:Hu->Hw->Prop}{s:Hw}{R:OZ->Hw->Prop}{I:HD}{fp wr:Hr HD}{G:Ik NL->Ik NL->Prop}{n:HB}{P:HB->Hu->Prop}{St:HB->Hw->Prop}
abbrev jD (w:IE)(zs:Ik Ze)(ep:HB)(t:Jl):JJ:={ aP w with data:=.set (zs.map zV) ep t }
def tm (W:WalksS prog w A.in1 I fp wr G n P St){D:HD}(hD:D∉fp)(hwr:∀i s b o,St i s->b∈wr->s.heap.get? b=ba o->o.cls≠.type "tuple"){ks:Hr T}{res:Ik (HM×T)×Jl}{Yq:T->HD->Prop}(hl:ks.length=n)(hk:∀x∈ks,dH x=true/\x.depth<=ap)(hP:∀i v,P i v->∃x b,ks[i]?=ba x/\v=.ref b/\Yq x b)(hu:(aQ prog w).room A.in1) :
  ∀(k i:HB) (s:Hw) (zs:Ik Ze) (ep:HB) (t:Jl),n - i=k->i<=n->St i s->s.heap.get? D=ba (jD w zs ep t)->cK t zs.size=true->ZOk s.heap zs->(∀z∈zs.toList,Yq z.2.1 z.2.2)->(∀j v x,P j v->ks[j]?=ba x->IsT s.heap x v)->(ks.drop i).foldlM (aW (dJ w)) (zs.map zT,t)=ba res->
   (∀s' zs' ep',Moved (D::wr) G s s'->s'.heap.get? D=ba (jD w zs' ep' res.2)->zs'.map zT=res.1->cK res.2 zs'.size=true->ZOk s'.heap zs'->(∀z∈zs'.toList,Yq z.2.1 z.2.2)->R (.ok (.ret .none)) s')->codeAny (model prog w) A (.builtin "set.update.loop" #[[.ref D,.ref I],[]]) R s:=by
 have hw:D∉wr:=λz=>hD (W.sub _ z)
 have up:∀b∈wr,b∈D::wr:=λb z=>Ji _ z
 intro k
 induction k with
 | zero=>
  intro i s zs ep t hk' hi st ho hok hz hy hT hsim hR;obtain rfl:i=n:=∅
  refine Jf F.entry_set_update_loop ?_;rw[Jc F.plain_set_update_loop _];show wpAny _ A.in1 (pyNext (.ref I) >>= _) _ _ s;refine Hs (W.done s _ _ st λs' mv=>?_)
  rw[LV ∅]at hsim
  cases hsim;have ts:fG s.heap s'.heap:=λc o q hc=>mv.heap c o (λz=>hwr _ _ _ _ st z q hc) q
  exact Hx (hR s' zs ep (mv.mono up) (mv.heap D _ hw ho) rfl hok (hz.stay ts) hy)
 | succ k ih=>
  intro i s zs ep t hk' hi st ho hok hz hy hT hsim hR;have hlt:i < n:=∅
  refine Jf F.entry_set_update_loop ?_;rw[Jc F.plain_set_update_loop _];show wpAny _ A.in1 (pyNext (.ref I) >>= _) _ _ s;refine Hs (W.item i s _ _ hlt st λv s1 pv st1 mv=>?_)
  obtain⟨x,b,hx,rfl,yx⟩:=hP i v pv;have ts1:fG s.heap s1.heap:=λc o q hc=>mv.heap c o (λz=>hwr _ _ _ _ st z q hc) q
  obtain⟨hn,hdp⟩:=hk x (HZ hx);have Fb:IsT s1.heap x (.ref b):=(hT i _ x pv hx).stay ts1;have o1:s1.heap.get? D=ba (jD w zs ep t):=mv.heap D _ hw ho;have hd1:ks.drop i=x::ks.drop (i+1):=by
   obtain⟨h1,h2⟩:=HH.mp hx;rw[List.drop_eq_getElem_cons h1,h2]
  rw[hd1,KZ]at hsim;cases hs:aW (dJ w) (zs.map zT,t) x with
  | none=>rw[hs]at hsim; cases hsim
  | some aC=>
   obtain⟨es1,t1⟩:=aC;rw[hs]at hsim;have hsim:(ks.drop (i+1)).foldlM (aW (dJ w)) (es1,t1)=ba res:=hsim;show wpAny _ A.in1 (holding [IA b] (setAdd D (.ref b)) >>= _) _ _ s1;refine Hs (Jg ?_);unfold setAdd;refine Jg (Hs ((aQ prog w).pyHash hu #[Fb,hdp] ?_));refine D4 (s:={ s1 with toks:=s1.toks+x.draws }) (hf:=dJ w) o1 rfl hok (hz.stay ts1) Fb hdp hn hu hs λbb h' zs' ep' e1 hok' sb ho' hmem=>?_
   have ts2:fG s1.heap h':=λc o q hc=>by
    refine sb.extBut c o (λz=>?_) q
    subst z;rw[o1]at q;cases q;exact absurd hc (by show ¬ (JE "set" = JE "tuple"); simp)
   have hz':ZOk h' zs':=λz hzm=>by
    rcases hmem z hzm with h|rfl
    ·exact((hz.stay ts1).stay ts2) z h
    ·exact#[Fb.stay ts2,hdp]
   refine Hx #[J4 F.plain_set_update_loop _,ih (i+1) { s1 with heap:=h',toks:=s1.toks+x.draws } zs' ep' t1 ∅ hlt (W.frame _ s1 _ _ st1 (Kc _ _) λc hc u q=>?_) ho' hok' hz' (λz hzm=>by
    rcases hmem z hzm with h|rfl
    ·exact hy z h
    ·exact yx) (λj v y pj hy=>((hT j v y pj hy).stay ts1).stay ts2) (by rw[e1]; exact hsim) λs2 zs2 ep2 mv2 ho2 e2 hok2 hz2 hy2=>?_]
   ·rw[sb.2 c λz=>hD (z ▸ hc)]; exact q
   ·refine hR s2 zs2 ep2 (Moved.trans W.gtrans ((mv.mono up).then_heap (Kc _ _) λc u hc q=>?_) mv2) ho2 e2 hok2 hz2 hy2
    rw[sb.2 c λz=>hc (z ▸ Jm)]
    exact q
end
section
variable{prog:Iw}{w:IE}{A:IB}{E:Hu->Hw->Prop}{s:Hw}
def vz (l:Il):cK (.fresh 0 0 l) (#[]:Ik Ze).size=true:=by cases l <;> decide
set_option maxHeartbeats 4000000 in
def tq {l:HD}{its:Ik Hu}{ks:Hr T}{res:Ik (HM×T)×Jl}{Q:Hu->Hw->Prop}(hh:A.handled=gV)(hl:s.heap.IsList l its)(hi:IsTs s.heap ks its.toList)(hk:∀x∈ks,dH x=true/\x.depth<=ap)(hrf:∀(i:HB) (v:Hu),its[i]?=ba v->∃b,v=.ref b)(hu:(aQ prog w).room A.in1.in1.in1)(hsim:ks.foldlM (aW (dJ w)) (#[],.fresh 0 0 (!dW w))=ba res)
  (h:∀(h':IJ) (tk:HB) (zs:Ik Ze) (ep:HB),h'.get? s.heap.objs.size=ba (jD w zs ep res.2)->zs.map zT=res.1->cK res.2 zs.size=true->ZOk h' zs->(∀z∈zs.toList,∃i:HB,ks[i]?=ba z.2.1/\its[i]?=ba (IA z.2.2))->(∀b u,s.heap.get? b=ba u->h'.get? b=ba u)->Q (.ref s.heap.objs.size) { s with heap:=h',toks:=tk }):wpAny (model prog w) A (call (.type "set") [.ref l]) Q E s:=by
 obtain⟨c,tl,hmro⟩:=F.called_set.mro;have hmade:=F.called_set.made;have hsub:=F.called_set.sub;have hn1:=F.called_set.notType;have hn2:=F.called_set.canCreate;have hct:=F.typeCall_set_1 (.ref l);refine PB (Mc ?_);show wpAny _ _ (callAny (.type "set") _) _ _ _;refine Hx #[MH _ (by decide +kernel),Jf F.entry_type_call ?_]
 rw[Ot (NE "set" [.ref l] []) rfl]
 repeat (any_goals (first|assumption|wp_step))
 refine K5 (nz (w:=w) (.ref l) (E:=E) (Q₁:=λobj s1=>obj=.ref s.heap.objs.size/\s1={ s with heap:=s.heap.push (aP w) }) #[rfl,rfl]) λr s1 hr=>?_
 match r,hr with
 | .ok (.ret obj),hr=>
  obtain⟨rfl,rfl⟩:=hr;have oS:(s.heap.push (aP w)).get? s.heap.objs.size=ba (aP w):=HI _ rfl;have tS:Qf { s with heap:=s.heap.push (aP w) } (.ref s.heap.objs.size) "set":=#[_,oS,rfl]
  have hli:=F.called_set.init.lookup;have hbi:=F.called_set.init.bind (.ref s.heap.objs.size)
  repeat (any_goals (first|assumption|wp_step))
  refine K5 (NO (R:=wants (λr s2=>r=.none/\∃h' tk zs ep,s2={ s with heap:=h',toks:=tk }/\h'.get? s.heap.objs.size=ba (jD w zs ep res.2)/\zs.map zT=res.1/\cK res.2 zs.size=true/\ZOk h' zs/\(∀z∈zs.toList,∃i:HB,ks[i]?=ba z.2.1/\its[i]?=ba (IA z.2.2))/\∀b u,s.heap.get? b=ba u->h'.get? b=ba u) E) F.called_set.init.plain F.entry_set_init (O6 tS ?_)) λr2 s2 hr2=>?_
  ·obtain⟨⟨oc,od,ot,osl⟩,hol,hcl,nl,hdl⟩:=id hl;simp only at hcl hdl;subst hcl hdl;have hol1:=Ht (aP w) hol;have l1:(s.heap.push (aP w)).IsList l its:=#[_,hol1,rfl,nl,rfl];have e1:=F.sub_list_set;have e2:=F.sub_list_frozenset;have e3:(JE "list" == JE "dict")=false:=by decide
   unfold KI.«set.__init__» noKeywords Mg;generalize hPI:pyIter=PI
   wp_walk
   subst hPI;refine KJ l1 (Hs (Lj ?_));have ls:l < s.heap.objs.size:=HP hol;have sz:(s.heap.push (aP w)).objs.size=s.heap.objs.size+1:=Ju ..;have ne:l≠(s.heap.push (aP w)).objs.size:=by rw[sz]; exact HV (JT ls)
   have oS':(s.heap.push (aP w)).get? s.heap.objs.size=ba (jD w #[] 0 (.fresh 0 0 (!dW w))):=by
    rw[oS]; unfold jD aP; simp
   have len:ks.length=its.size:=by rw[hi.length,HS]
   refine tm ((Ou (A:=A.in1.in1.in1) (by simp[hh]) _ l ne its).toS) (D:=s.heap.objs.size) (ks:=ks) (res:=res) (Yq:=λx b=>∃i:HB,ks[i]?=ba x/\its[i]?=ba (IA b)) (by rw[sz]; simp only[HW,Iy,JH,NP]; exact#[HV (Jq _),Jz ls]) (λi s b o st hb q=>?_) len hk (λi v q=>?_) hu _ 0 _ #[] 0 (.fresh 0 0 (!dW w)) rfl (Jx _)
    #[#[_,HI _ rfl,rfl,rfl],l1.push _] (Ht _ oS') (vz _) (λz hz=>by simp at hz) (λz hz=>by simp at hz) (λj v x q hx=>?_) (by rw[PR,show KY zT #[]=#[] by simp]; exact hsim) λs3 zs3 ep3 mv ho3 e3 hok3 hz3 hy3=>?_
   ·obtain⟨⟨o',e,hc,_⟩,_⟩:=st;rw[HJ.mp hb]at q;rw[q]at e;cases e;rw[hc];simp
   ·obtain⟨b,rfl⟩:=hrf i v q;have hi':i < ks.length:=by rw[len]; exact(JN.mp q).1
    exact#[ks[i],b,HC hi',rfl,i,HC hi',q]
   ·have hj:=(HH.mp hx);have q':=(JN.mp q);obtain⟨h1,rfl⟩:=hj;obtain⟨h2,rfl⟩:=q';have:=hi.get j h1 (by rw[HS]; exact h2)
    rw[L8]at this;exact this.stay λc o q hc=>Ht _ (Ht _ q)
   ·rw[Od mv];refine Hx (Hx #[rfl,s3.heap,s3.toks,zs3,ep3,rfl,ho3,e3,hok3,hz3,hy3,λb u q=>?_])
    have hb:=HP q;exact mv.heap b u (by rw[sz]; simp only[HW,Iy,JH,NP]; exact#[HV hb,HV (JT hb)]) (Ht _ (Ht _ q))
  ·match r2,hr2 with
   | .ok (.ret r),hr2=>
    obtain⟨rfl,h',tk,zs,ep,rfl,g1,g2,g3,g4,g5,g6⟩:=hr2
    repeat (any_goals (first|assumption|wp_step))
    exact h h' tk zs ep g1 g2 g3 g4 g5 g6
   | .ok .next,hr2=>exact hr2.elim
   | .ok .brk,hr2=>exact hr2.elim
   | .ok .cont,hr2=>exact hr2.elim
   | .error e,hr2=>exact hr2
 | .ok .next,hr=>exact hr.elim
 | .ok .brk,hr=>exact hr.elim
 | .ok .cont,hr=>exact hr.elim
 | .error e,hr=>exact hr
end
abbrev iA (S:aa)(i:HB):HA (Hr (T×W)):=match S[i]? with
 | some (.dic U)=>ba U
 | some (.frd U)=>ba U
 | _=>gV
abbrev ma (S:aa)(i:HB):HA (Hr (T×W)):=match S[i]? with
 | some (.dic U)=>ba U
 | _=>gV
abbrev bR (U:Hr (T×W))(k:T):HA W:=(U.find? λp=>decide (p.1=k)).map (·.2)
abbrev dY (U:Hr (T×W))(k:T)(v:W):Hr (T×W):=
 if (U.any λp=>decide (p.1=k))=true then U.map (λp=>if p.1=k then(p.1,v)else p)else U++[(k,v)]
abbrev fO (w:W):HA T:=match W.t w with
 | some k=>if k.isTup=true/\k.depth<=ap then ba k else gV
 | none=>gV
def di {w:W}{k:T}(h:fO w=ba k):k.w=w/\k.isTup=true/\k.depth<=ap:=by
 unfold fO at h;split at h
 ·rename_i k' hk;split at h
  ·rename_i hc;cases h;exact#[W.t_w hk,hc.1,hc.2]
  ·cases h
 ·cases h
def cL (U:Hr (T×W))(k:T)(v:W):(dY U k v).length<=U.length+1:=by
 unfold dY;split
 ·rw[Hv]; omega
 ·rw[HK,IW,J8]; omega
section
variable{X:Cx}{J:Hr (HD×JJ)}{Y:L2.St}{H:Hp}{s:Hw}{A:Hr HD}{S:aa}
mutual
theorem jE (I:Inv X J Y H s):∀(k:T) {v:V} {u:Hu},Rel X.K A H k.w v->RelV v u->IsT s.heap k u
 | .int i,_,_,r,q=>by
  cases r;obtain⟨t,rfl⟩ : ∃t,_=M9 _ t:=q;exact .int
 | .str x,_,_,r,q=>by
  cases r;obtain⟨t,rfl⟩ : ∃t,_=L0 _ t:=q;exact .str
 | .tup ks,_,_,r,q=>by
  simp only[T.w]at r;cases r with
  | tup sq rl=>
   obtain⟨its,rv,⟨o,h1,h2,n,h3⟩,hz⟩:=I.tuple sq;obtain rfl:_=IA _:=q;exact .tup h1 h2 h3 (dM I ks rl (by simpa using rv))
theorem dM (I:Inv X J Y H s):∀(ks:Hr T) {vs:Hr V} {us:Hr Hu},RelL X.K A H (T.ws ks) vs->Vals vs us->IsTs s.heap ks us
 | [],_,_,r,q=>by
  simp only[T.ws]at r;cases r; cases q; exact .nil
 | k::ks,_,_,r,q=>by
  simp only[T.ws]at r;cases r with
  | cons r1 r2=>
   cases q with
   | cons q1 q2=>exact .cons (jE I k r1 q1) (dM I ks r2 q2)
end
def iB (I:Inv X J Y H s){k:T}{b:HD}(r:Rel X.K A H k.w (.ref b))(hd:k.depth<=ap):(aQ X.prog X.w).is s.heap k b:=#[jE I k r rfl,hd]
def gR {w:W}{k:T}{v:V}{u:Hu}(hk:fO w=ba k)(r:Rel X.K A H w v)(q:RelV v u):∃b,v=.ref b/\u=.ref b/\Rel X.K A H k.w (.ref b):=by
 obtain⟨h1,h2,h3⟩:=di hk;subst h1;cases k with
 | tup ks=>
  simp only[T.w]at r;cases r with
  | tup a b=>exact#[_,rfl,q,by simp only[T.w]; exact .tup a b]
 | _=>cases h2
def KRel.is {U:Hr (T×W)}{xs:Hr (T×HD×Hu)}(I:Inv X J Y H s)(r:KRel X.K A H U xs):∀x∈xs,(aQ X.prog X.w).is s.heap x.1 x.2.1:=by
 unfold KRel at r
 induction r with
 | nil=>intro x hx; exact nomatch hx
 | @cons p q ps qs h t ih=>
  intro x hx;rcases HW.mp hx with e|hx
  ·subst e;obtain⟨h1,h2,h3,h4,_⟩:=h;rw[h1]at h3 h4;exact iB I h4 h3
  ·exact ih x hx
def KRel.length {U:Hr (T×W)}{xs:Hr (T×HD×Hu)}(r:KRel X.K A H U xs):U.length=xs.length:=M3 r
def KRel.val {U:Hr (T×W)}{xs:Hr (T×HD×Hu)}(r:KRel X.K A H U xs)(k:T) :
  (∀w,bR U k=ba w->∃p v,atKey xs k=ba p/\Rel X.K A H w v/\RelV v p.2)/\(bR U k=gV->atKey xs k=gV):=by
 unfold KRel at r
 induction r with
 | nil=>exact#[λw h=>(nomatch h),λ_=>rfl]
 | @cons p q ps qs h t ih=>
  obtain⟨h1,_,_,_,v,h5,h6⟩:=h
  by_cases e:p.1=k
  ·have e':q.1=k:=h1.symm.trans e;have a1:bR (p::ps) k=ba p.2:=by simp[bR,K9,e]
   have a2:atKey (q::qs) k=ba q.2:=by simp[atKey,K9,e']
   rw[a1,a2];exact#[λw hw=>(by cases hw; exact#[_,v,rfl,h5,h6]),λh=>nomatch h]
  ·have e':¬ q.1=k:=λz=>e (h1.trans z)
   have a1:bR (p::ps) k=bR ps k:=by simp[bR,K9,e]
   have a2:atKey (q::qs) k=atKey qs k:=by simp[atKey,K9,e']
   rw[a1,a2];exact ih
def KRel.repl {U:Hr (T×W)}{xs:Hr (T×HD×Hu)}(r:KRel X.K A H U xs)(k:T){w:W}{v:V}{u:Hu}(rw':Rel X.K A H w v)(rv:RelV v u) :
  KRel X.K A H (U.map λp=>if p.1=k then(p.1,w)else p) (xs.map (putAt k u)):=by
 unfold KRel at r ⊢
 induction r with
 | nil=>exact .nil
 | @cons p q ps qs h t ih=>
  rw[IZ,IZ];refine .cons ?_ ih;obtain⟨h1,h2,h3,h4,h5⟩:=h;unfold putAt
  by_cases e:p.1=k
  ·rw[Ic e,Ic (h1.symm.trans e)]; exact#[h1,h2,h3,h4,v,rw',rv]
  ·rw[Im e,Im (λz=>e (h1.trans z))]; exact#[h1,h2,h3,h4,h5]
def nL (k:T):∀U:Hr (T×W),(U.any λp=>decide (p.1=k))=(bR U k).isSome
 | []=>rfl
 | p::r=>by
  rw[Ko]
  by_cases e:p.1=k
  ·have a1:bR (p::r) k=ba p.2:=by simp[bR,K9,e]
   rw[a1,JL e]; rfl
  ·have a1:bR (p::r) k=bR r k:=by simp[bR,K9,e]
   rw[a1,Iz e,M5]; exact nL k r
def KRel.put {U:Hr (T×W)}{xs:Hr (T×HD×Hu)}(r:KRel X.K A H U xs){k:T}{b:HD}{w:W}{v:V}{u:Hu}(h1:k.isTup=true)(h2:k.depth<=ap)(h3:Rel X.K A H k.w (.ref b))(rw':Rel X.K A H w v)(rv:RelV v u) :
  KRel X.K A H (dY U k w) (storedH xs k b u):=by
 have e:(U.any λp=>decide (p.1=k))=(atKey xs k).isSome:=by
  rw[nL];cases q:bR U k with
  | none=>rw[(r.val k).2 q]; rfl
  | some x=>obtain⟨p,_,h,_⟩:=(r.val k).1 x q; rw[h]; rfl
 unfold dY storedH;rw[e]
 by_cases q:(atKey xs k).isSome=true
 ·rw[Ic q,Ic q]; exact r.repl k rw' rv
 ·rw[Im q,Im q]; exact Paired.snoc r #[rfl,h1,h2,h3,v,rw',rv]
def DicAt.of {h:IJ}{a:HD}{xs:Hr (T×HD×Hu)}(hz:xs.length<=sizeLine)(hs:(a==sysModules)=false)(d:h.DictOfH (aQ X.prog X.w) a xs):DicAt X.w a xs h:=
 let ⟨o,es,ep,h1,h2,h3,h4,_,h6⟩:=d; #[hz,hs,h6,o,es,ep,h1,h2,h3,h4]
def DicAt.stay {wd:IE}{h h':IJ}{a:HD}{xs:Hr (T×HD×Hu)}(d:DicAt wd a xs h)(k:∀o,h.get? a=ba o->h'.get? a=ba o):DicAt wd a xs h':=
 let ⟨h0,hs,hn,o,es,ep,h1,h2⟩:=d; #[h0,hs,hn,o,es,ep,k _ h1,h2]
def DicAt.ok {P:Iw}{h:IJ}{wd:IE}{a:HD}{xs:Hr (T×HD×Hu)}(d:DicAt wd a xs h):ObjOk P wd H h a (dt wd a xs):=
 #[d,let ⟨_,_,_,o,_,_,h1,_⟩:=d; #[o,h1],λ_ _ p k=>p.stay k]
def bO {a:HD}{xs:Hr (T×HD×Hu)}(I:Inv X J Y H s)(e:Rd H a (dt X.w a xs)):DicAt X.w a xs s.heap:=(show ObjOk X.prog X.w H s.heap a (dt X.w a xs)from e.ok I.hok).1
def DicAt.dict {U:Hr (T×W)}{a:HD}{xs:Hr (T×HD×Hu)}(d:DicAt X.w a xs s.heap)(I:Inv X J Y H s)(r:KRel X.K A H U xs):s.heap.DictOfH (aQ X.prog X.w) a xs:=
 let ⟨_,_,hn,o,es,ep,h1,h2,h3,h4⟩:=d; #[o,es,ep,h1,h2,h3,h4,r.is I,hn]
def eZ {i:HB}{U:Hr (T×W)}{a:HD}(so:StoreOk X.w X.K A H S)(e:iA S i=ba U)(ea:A[i]?=ba a):∃xs,Rd H a (dt X.w a xs)/\KRel X.K A H U xs:=by
 unfold iA at e;split at e
 ·rename_i k h;cases e;obtain⟨xs,q,r⟩:=so.obj i _ a h ea;exact#[xs,.inl q,r]
 ·rename_i k h;cases e;obtain⟨o,xs,q,r⟩:=so.obj i _ a h ea;exact#[xs,.inr #[o,q],r]
 ·cases e
def gS {i:HB}{U:Hr (T×W)}(e:ma S i=ba U):S[i]?=ba (.dic U):=by
 unfold ma at e;split at e
 ·rename_i h; cases e; exact h
 ·cases e
def rg {i:HB}{U:Hr (T×W)}{a:HD}(so:StoreOk X.w X.K A H S)(e:ma S i=ba U)(ea:A[i]?=ba a):∃xs,H a=ba (dt X.w a xs)/\KRel X.K A H U xs:=
 so.obj i _ a (gS e) ea
def nM {B:IB}(hu:B.units+10 < cLine):(aQ X.prog X.w).room B.in1:=by
 show B.in1.units+ap < cLine;rw[aB]; unfold ap; omega
abbrev mX (x y:W)(S:aa):HA (W×aa):=match x,y with
 | .ref r,.tup ks=>match iA S r,fO (.tup ks)with
  | some U,ba k=>(bR U k).map λw=>(w,S)
  | _,_=>gV
 | x,y=>sS x y S
def Gd (hu:X.A.units+10 < cLine):LIx X mX:=by
 intro value slice J s Y H A S x y a b u v w S' I so rx ru ry rv e hs
 by_cases hxy:∃r ks,x=.ref r/\y=.tup ks
 ·obtain⟨r,ks,rfl,rfl⟩:=hxy;simp only[mX]at e;split at e
  ·rename_i U k hk1 hk2;rw[Hy]at e;obtain⟨w',e1,e2⟩:=e;cases e2;cases rx with
   | ref ea=>
    obtain⟨xs,rd,kr⟩:=eZ so hk1 ea;have d:=bO I rd;have dd:=d.dict I kr;obtain⟨bk,rfl,rfl,rk⟩:=gR hk2 ry rv;obtain⟨p,vv,h1,h2,h3⟩:=(kr.val k).1 _ e1;obtain rfl:u=IA _:=ru;refine LR (x:=p.2) dd.typeIs slot_dict_getitem.lookup
     (wpAny_getItem_heap (Q:=λr s'=>r=p.2/\cY X J Y A H S w r s') (nM hu) (iB I rk (di hk2).2.2) dd h1 #[rfl,vv,H,A,I.tok _,h3,.refl,so,h2]) hs
  ·cases e
 ·have:mX x y S=sS x y S:=by
   cases x <;> cases y <;> first|rfl|exact absurd #[_,_,rfl,rfl] hxy
  rw[this]at e;exact Hd hu value slice J s Y H A S x y a b u v w S' I so rx ru ry rv e hs
abbrev gT (o i v:W)(S:aa):HA aa:=match o,i with
 | .ref r,.tup ks=>match ma S r,fO (.tup ks)with
  | some U,ba k=>if U.length < sizeLine then ba (S.set r (.dic (dY U k v)))else gV
  | _,_=>gV
 | o,i=>sT o i v S
def D5 (hu:X.A.units+10 < cLine):LSet X gT:=by
 intro J s Y H A S o i x ao ai ax uo ui ux S' I so ro ruo ri rui rx rux e
 by_cases hxy:∃r ks,o=.ref r/\i=.tup ks
 ·obtain⟨r,ks,rfl,rfl⟩:=hxy;simp only[gT]at e;split at e
  ·rename_i U k hk1 hk2;split at e
   ·rename_i hl;cases e;cases ro with
    | ref ea=>
     obtain⟨xs,hH,kr⟩:=rg so hk1 ea;have d:=bO I (.inl hH);have dd:=d.dict I kr;obtain⟨bk,rfl,rfl,rk⟩:=gR hk2 ri rui;obtain⟨q1,q2,q3⟩:=di hk2;obtain rfl:uo=IA _:=ruo;have hz:xs.length<=sizeLine:=by rw[<- kr.length]; omega
     refine wpAny_setItem_heap (hsz:=hz) (nM hu) (iB I rk q3) dd λh' dd' hs=>?_
     have kr':=kr.put q2 q3 rk rx rux;have hz':(storedH xs k bk ux).length<=sizeLine:=by
      rw[<- kr'.length];have:=cL U k x;omega
     have dn:DicAt X.w _ (storedH xs k bk ux) h':=.of hz' d.2.1 dd';obtain⟨so',ex⟩:=so.writeO (gS hk1) rfl ea (u:=dt X.w _ (storedH xs k bk ux)) (n:=.dic (dY U k x)) #[_,aA,kr'.mono (bN (.ext hH))];exact#[_,A,lT I (by rw[hH]; exact L5) hs (let ⟨q,_,_,hq,_⟩:=dd'; #[q,hq]) dn.ok,ex,so']
   ·cases e
  ·cases e
 ·have:gT o i x S=sT o i x S:=by
   cases o <;> cases i <;> first|rfl|exact absurd #[_,_,rfl,rfl] hxy
  rw[this]at e;exact lset hu J s Y H A S o i x ao ai ax uo ui ux S' I so ro ruo ri rui rx rux e
abbrev rh (x:W)(xs:Hr W)(S:aa):HA (W×aa):=match x,xs with
 | .ref r,[y,z]=>match iA S r,fO y with
  | some U,ba k=>ba ((bR U k).getD z,S)
  | _,_=>gV
 | _,_=>gV
def p8 (hu:X.A.units+10 < cLine):kS X "dict.get" rh:=by
 intro J s Y H A S x a u xs vs us w S' I so rx ru rl rv e;cases rx with
 | ref ea=>
  cases rl with
  | nil=>cases e
  | cons r1 t1=>
   cases t1 with
   | nil=>cases e
   | cons r2 t2=>
    cases t2 with
    | cons _ _=>cases e
    | nil=>
     dsimp only[rh]at e;split at e
     ·rename_i U k hk1 hk2;cases e;obtain⟨xs,rd,kr⟩:=eZ so hk1 ea;have d:=bO I rd;have dd:=d.dict I kr;cases rv with
      | cons v1 rv2=>
       cases rv2 with
       | cons v2 rv3=>
        cases rv3;obtain⟨bk,rfl,rfl,rk⟩:=gR hk2 r1 v1;obtain rfl:u=IA _:=ru;refine call_meetsIn NF dd.typeIs PySem.F.entry_dict_get (PySem.F.args_dict_get_3 _ _ _) (meetsH_dict_get_default (aQ X.prog X.w) _ bk d.2.1 _) #[nM hu,k,xs,iB I rk (di hk2).2.2,dd,?_];cases q:bR U k with
        | none=>
         rw[(kr.val k).2 q];exact#[_,H,A,I.tok _,v2,.refl,so,r2]
        | some w'=>
         obtain⟨p,vv,h1,h2,h3⟩:=(kr.val k).1 _ q;rw[h1];exact#[vv,H,A,I.tok _,h3,.refl,so,h2]
     ·cases e
 | _=>cases e
abbrev Fn (x:W)(i:HB)(S:aa):HA Il:=match W.t x,eO S i with
 | some k,ba ys=>match W.ts ys with
  | some ks=>if k.depth<=ap/\T.depths ks<=ap then ba (decide (k∈ks))else gV
  | none=>gV
 | _,_=>gV
abbrev B5 (x:W)(ys:Hr W):HA Il:=match W.t x,W.ts ys with
 | some k,ba ks=>if k.depth<=ap/\T.depths ks<=ap then ba (decide (k∈ks))else gV
 | _,_=>gV
def md {h:IJ}:∀ {ks:Hr T} {vs:Hr Hu},IsTs h ks vs->∀v∈vs,∃k∈ks,IsT h k v
 | _,_,.cons a b,v,hv=>by
  rcases HW.mp hv with rfl|hv
  ·exact#[_,.head _,a]
  ·obtain⟨k,hk,q⟩:=md b v hv;exact#[k,.tail _ hk,q]
abbrev yj (h:IJ)(k:T)(v:Hu):Il:=@decide (IsT h k v) (Qq _)
def p9 {h:IJ}{k k':T}{v:Hu}(x:IsT h k' v):yj h k v=decide (k'=k):=by
 unfold yj
 by_cases e:k'=k
 ·subst e; simp[x]
 ·have:¬ IsT h k v:=λy=>e (x.inj y)
  simp[e,this]
def mf {h:IJ}{k:T}:∀ {ks:Hr T} {vs:Hr Hu},IsTs h ks vs->vs.any (yj h k)=decide (k∈ks)
 | _,_,.nil=>by simp
 | _,_,.cons (k:=k') a b=>by
  rw[Ko,p9 a,mf b]
  by_cases e:k'=k
  ·simp[e]
  ·have:¬ k=k':=λz=>e z.symm
   simp[e,this]
def jF:∀ {ks:Hr T} {k:T},k∈ks->k.depth<=T.depths ks
 | x::ks,k,h=>by
  simp only[T.depths];rcases HW.mp h with rfl|h
  ·omega
  ·have:=jF h; omega
def vA {x:W}{i:HB}{a b:V}{u v:Hu}{c:Il}(hu:X.A.units+10 < cLine)(I:Inv X J Y H s)(so:StoreOk X.w X.K A H S)(rx:Rel X.K A H x a)(ru:RelV a u)(ry:Rel X.K A H (.ref i) b)(rv:RelV b v)(e:Fn x i S=ba c) :
  ∃l its k ks,v=.ref l/\s.heap.IsList l its/\(∀y,y∈its->L1 X.A.in1 s y u (yj s.heap k y))/\its.any (yj s.heap k)=c/\c=decide (k∈(ks:Hr T)):=by
 unfold Fn at e;split at e
 ·rename_i k ys h1 h2;split at e
  ·rename_i ks h3;split at e
   ·rename_i h4;cases e;cases ry with
    | ref ea=>
     obtain⟨vs,g1,g2⟩:=aR so h2 ea;obtain⟨its,rv',p,_⟩:=I.list g1;obtain rfl:v=IA _:=rv;have hT:IsTs s.heap ks its:=dM I ks ((W.ts_w h3).symm ▸ g2) rv';have hk:IsT s.heap k u:=jE I k ((W.t_w h1).symm ▸ rx) ru;refine#[_,its.toArray,k,ks,rfl,p.isList,λy hy=>?_,by rw[O7]; exact mf hT,rfl]
     obtain⟨k',hk',q⟩:=md hT y (by simpa using hy)
     rw[p9 q];have:=jF hk';have kl:ap=6:=rfl;exact tj ap k' k _ _ _ _ ∅ q hk (by rw[aB]; omega) (by rw[aB]; omega)
   ·cases e
  ·cases e
 ·cases e
def zf {x:W}{ys:Hr W}{a b:V}{u v:Hu}{c:Il}(hu:X.A.units+10 < cLine)(I:Inv X J Y H s)(rx:Rel X.K A H x a)(ru:RelV a u)(ry:Rel X.K A H (.tup ys) b)(rv:RelV b v)(e:B5 x ys=ba c) :
  ∃l its k,v=.ref l/\s.heap.IsTuple l its/\(∀y,y∈its->L1 X.A.in1 s y u (yj s.heap k y))/\its.any (yj s.heap k)=c:=by
 unfold B5 at e;split at e
 ·rename_i k ks h1 h3;split at e
  ·rename_i h4;cases e;cases ry with
   | @tup _ l vs g1 g2=>
    obtain⟨its,rv',p,_⟩:=I.tuple g1;obtain rfl:v=IA _:=rv;have hT:IsTs s.heap ks its:=dM I ks ((W.ts_w h3).symm ▸ g2) rv';have hk:IsT s.heap k u:=jE I k ((W.t_w h1).symm ▸ rx) ru;refine#[_,its.toArray,k,rfl,p,λy hy=>?_,by rw[O7]; exact mf hT]
    obtain⟨k',hk',q⟩:=md hT y (by simpa using hy)
    rw[p9 q];have:=jF hk';have kl:ap=6:=rfl;exact tj ap k' k _ _ _ _ ∅ q hk (by rw[aB]; omega) (by rw[aB]; omega)
  ·cases e
 ·cases e
abbrev cM (o:COp)(x y:W)(S:aa):HA (W×aa):=match o,y with
 | .isin,.ref i=>match iA S i with
  | some U=>(fO x).map λk=>(.bl (bR U k).isSome,S)
  | none=>match x with
   | .tup xs=>(Fn (.tup xs) i S).map λb=>(.bl (b),S)
   | x=>iu .isin x (.ref i) S
 | .notin,.ref i=>match iA S i with
  | some U=>(fO x).map λk=>(.bl (!(bR U k).isSome),S)
  | none=>match x with
   | .tup xs=>(Fn (.tup xs) i S).map λb=>(.bl (!b),S)
   | x=>iu .notin x (.ref i) S
 | .isin,.tup ys=>match x with
  | .tup xs=>(B5 (.tup xs) ys).map λb=>(.bl b,S)
  | x=>iu .isin x (.tup ys) S
 | o,y=>iu o x y S
def nN (hu:X.A.units+gr < cLine)(o:COp):LOp X (compareOp o.py) (cM o):=by
 intro J s Y H A S x y a b u v w S' I so rx ru ry rv e;have get:∀ {i:HB} {U:Hr (T×W)} {k:T},y=.ref i->iA S i=ba U->fO x=ba k->∃d c xs,v=.ref d/\u=.ref c/\(d==sysModules)=false/\(aQ X.prog X.w).is s.heap k c/\s.heap.DictOfH (aQ X.prog X.w) d xs/\(bR U k).isSome=(atKey xs k).isSome:=by
  intro i U k hy hk1 hk2;subst hy;cases ry with
  | ref ea=>
   obtain⟨xs,rd,kr⟩:=eZ so hk1 ea;have d:=bO I rd;obtain⟨bk,rfl,rfl,rk⟩:=gR hk2 rx ru;obtain rfl:v=IA _:=rv;refine#[_,bk,xs,rfl,rfl,d.2.1,iB I rk (di hk2).2.2,d.dict I kr,?_];cases q:bR U k with
   | none=>rw[(kr.val k).2 q]; rfl
   | some w'=>obtain⟨p,_,h1,_⟩:=(kr.val k).1 _ q; rw[h1]; rfl
 have old:iu o x y S=ba (w,S')->wpAny (model X.prog X.w) X.A (compareOp o.py u v) (cY X J Y A H S' w) X.xe s:=λh=>y8 hu o J s Y H A S x y a b u v w S' I so rx ru ry rv h
 have hu':X.A.units+10 < cLine:=by have:gr=20:=rfl; omega
 unfold cM at e;split at e
 ·split at e
  ·rename_i U hk1;rw[Hy]at e;obtain⟨k,hk2,e2⟩:=e;cases e2;obtain⟨d,c,xs,rfl,rfl,q1,q2,q3,q4⟩:=get rfl hk1 hk2;rw[q4];exact wpAny_in_heap (nM hu') q2 q1 q3 #[.bl _,H,A,I.tok _,rfl,.refl,so,.bl]
  ·split at e
   ·rw[Hy]at e;obtain⟨c,hc,e⟩:=e;cases e;obtain⟨l,its,k,ks,rfl,p1,p2,p3,_⟩:=vA hu' I so rx ru ry rv hc;refine Pp (yj s.heap k) p1 p2 ?_;rw[p3];exact#[.bl _,H,A,I,rfl,.refl,so,.bl]
   ·exact old e
 ·split at e
  ·rename_i U hk1;rw[Hy]at e;obtain⟨k,hk2,e2⟩:=e;cases e2;obtain⟨d,c,xs,rfl,rfl,q1,q2,q3,q4⟩:=get rfl hk1 hk2;rw[q4];exact wpAny_notIn_heap (nM hu') q2 q1 q3 #[.bl _,H,A,I.tok _,rfl,.refl,so,.bl]
  ·split at e
   ·rw[Hy]at e;obtain⟨c,hc,e⟩:=e;cases e;obtain⟨l,its,k,ks,rfl,p1,p2,p3,_⟩:=vA hu' I so rx ru ry rv hc;refine On (yj s.heap k) p1 p2 ?_;rw[p3];exact#[.bl _,H,A,I,rfl,.refl,so,.bl]
   ·exact old e
 ·split at e
  ·rw[Hy]at e;obtain⟨c,hc,e⟩:=e;cases e;obtain⟨l,its,k,rfl,p1,p2,p3⟩:=zf hu' I rx ru ry rv hc;refine O2 (yj s.heap k) p1 p2 ?_;rw[p3];exact#[.bl _,H,A,I,rfl,.refl,so,.bl]
  ·exact old e
 ·exact old e
end
abbrev RawD (d:HD)(es:Ik Kj)(ep:HB)(h:IJ):Prop:=∃o,h.get? d=ba o/\o.ExactDict/\o.data=.dict es ep
def RawD.at {d:HD}{es:Ik Kj}{ep:HB}{h h':IJ}(x:RawD d es ep h)(e:∀o,h.get? d=ba o->h'.get? d=ba o):RawD d es ep h':=let ⟨o,ho,r⟩:=x; #[o,e _ ho,r]
def RawD.lt {d:HD}{es:Ik Kj}{ep:HB}{h:IJ}(x:RawD d es ep h):d < h.objs.size:=let ⟨_,ho,_⟩:=x; HP ho
def RawD.type {d:HD}{es:Ik Kj}{ep:HB}{s:Hw}(x:RawD d es ep s.heap):s.TypeIs (.ref d) "dict":=let ⟨o,ho,hc,_⟩:=x; #[o,ho,hc.1]
section
variable{prog:Iw}{w:IE}{A:IB}{E:Hu->Hw->Prop}{s:Hw}{it d:HD}{i ep:HB}{es:Ik Kj}
def nO {Q:Hu->Hw->Prop}(hd:(d==sysModules)=false)(hm:RawD d es ep s.heap)
  (hQ:Q (.ref s.heap.objs.size) { s with heap:=s.heap.push { cls:=.type "dict_keyiterator",data:=.fields [.ref d,.int 0 0,.int es.size 0,.int ep 0].toArray } }):wpAny (model prog w) A (pyIter (.ref d)) Q E s:=by
 have hT:=hm.type;obtain⟨o,ho,hc,hdat⟩:=id hm;refine MY hT F.slot_dict_iter (Jb F.slot_dict_iter hT F.entry_dict_iter ?_ (F.args_dict_iter_1 _));unfold KI.«dict.__iter__» P3;refine Hs (Hs (wpAny_notOrdered_dict hT ?_));show wpAny _ _ (pure (IA d)) _ _ s;refine Hx ?_;show wpAny _ _ (NG d >>= _) _ _ s;unfold NG;rw[Im (by rw[hd]; exact Ih)]
 refine Hs (Hx (Hs (LW ho hdat (Hs (Nv ho hdat ?_)))));refine Hs (IH (Hx #[_,rfl,"dict_keyiterator",_,#[_,HI _ rfl,rfl],F.slot_dict_keyiterator_next.lookup,?_]))
 simpa [rawInt]using hQ
def nP {Q:HA Hu->Hw->Prop}(hit:s.heap.IsKeyIter it d i es.size ep)(hm:RawD d es ep s.heap)(hi:i < es.size)
  (hQ:∀h',h'.IsKeyIter it d (i+1) es.size ep->JW it s.heap h'->Q (ba es[i].key) { s with heap:=h' }):wpAny (model prog w) A (pyNext (.ref it)) Q E s:=by
 obtain⟨o,ho,hc,hd⟩:=id hit;obtain⟨od,hod,hcd,hdd⟩:=id hm;unfold pyNext;refine Hs (La (IV (name:=JX "__next__") hit.typeIs F.slot_dict_keyiterator_next
  (Jb F.slot_dict_keyiterator_next hit.typeIs F.entry_dict_keyiterator_next ?_ (F.args_dict_keyiterator_next_1 _))))
 refine Hs (Hx (Hs (Hs ?_)))
 first|refine Hs (Kg hit.typeIs (Hx ?_))|refine Hs (KN hit.typeIs (Hx ?_))
 refine Hs (MC ho hd ?_);have hown:Mh "dict_keyiterator" = false:=by decide
 simp only[hown,Ij,Jn];show wpAny _ _ (if (IA d==IP)=true then _ else _) _ _ s
 rw[Im (show ¬ ((IA d==IP)=true)from Ih)]
 refine Hs (Hx (Hs (LW hod hdd ?_)));rw[Im (by simp)]
 refine Hs (Hx (Hs (Nv hod hdd ?_)));rw[Im (by simp)]
 refine Hx ?_;simp only[show ¬ ((i:HM) < 0)from by omega,Jn,HU,Kb hi]
 refine Hs ?_
 first|refine Hs (Kg hit.typeIs (Hx ?_))|refine Hs (KN hit.typeIs (Hx ?_))
 refine Hs (NH hit.typeIs ?_);show wpAny _ _ (setField (.ref it) 1 (rawInt ((i:HM)+1)) >>= _) _ _ s;refine Hs (MJ ho hd (by simp) ?_)
 have hit':(s.heap.update it (Qg (·.setIfInBounds 1 (rawInt ((i:HM)+1))))).IsKeyIter it d (i+1) es.size ep:=
  #[_,JF _ ho (NI (LL hd _)),(OQ ..).trans hc,by rw[LL hd]; simp[rawInt]]
 refine Hs (Jg ?_);refine Hs (NH (s:={ s with heap:=s.heap.update it (Qg (·.setIfInBounds 1 (rawInt ((i:HM)+1)))) }) hit'.typeIs ?_)
 show wpAny _ _ (pure es[i].key) _ _ _;exact Hx (Hx #[_,rfl,Hx (hQ _ hit' (KQ ..))])
def rj {Q:HA Hu->Hw->Prop}(hh:A.handled=gV)(hit:s.heap.IsKeyIter it d i es.size ep)(hm:RawD d es ep s.heap)(hge:es.size<=i)
  (hQ:∀h',NQ it s.heap h'->Q gV { s with heap:=h' }):wpAny (model prog w) A (pyNext (.ref it)) Q E s:=by
 obtain⟨o,ho,hc,hd⟩:=id hit;obtain⟨od,hod,hcd,hdd⟩:=id hm;unfold pyNext;refine Hs (La (IV (name:=JX "__next__") hit.typeIs F.slot_dict_keyiterator_next
  (Jb F.slot_dict_keyiterator_next hit.typeIs F.entry_dict_keyiterator_next ?_ (F.args_dict_keyiterator_next_1 _))))
 refine Hs (Hx (Hs (Hs ?_)))
 first|refine Hs (Kg hit.typeIs (Hx ?_))|refine Hs (KN hit.typeIs (Hx ?_))
 refine Hs (MC ho hd ?_);have hown:Mh "dict_keyiterator" = false:=by decide
 simp only[hown,Ij,Jn];show wpAny _ _ (if (IA d==IP)=true then _ else _) _ _ s
 rw[Im (show ¬ ((IA d==IP)=true)from Ih)]
 refine Hs (Hx (Hs (LW hod hdd ?_)));rw[Im (by simp)]
 refine Hs (Hx (Hs (Nv hod hdd ?_)));rw[Im (by simp)]
 refine Hx ?_;simp only[show ¬ ((i:HM) < 0)from by omega,Jn,HU,Array.getElem?_eq_none hge]
 refine Hs ?_
 first|refine Hs (Kg hit.typeIs (Hx ?_))|refine Hs (KN hit.typeIs (Hx ?_))
 show wpAny _ _ (setField (.ref it) 0 .none >>= _) _ _ s;refine Hs (MJ ho hd (by simp) ?_)
 show wpAny _ _ (newExc (.type "StopIteration") [] >>= _) _ _ _;refine Hs ?_;simp only[newExc,newTuple];refine Hs (IH ?_ (by size_fits))
 refine Hs (m:=firstArgMember _ _) (LN (a:=IP) (by first|rfl|(simp only[firstArgMember]; rfl)) ?_)
 refine IH ?_ (by size_fits)
 simp only[raiseNew];refine Hs (Oc ?_);rw[show A.in1.handled=gV from hh]
 refine Hs (Hx (Pi ?_));refine Hs (KW (T:="StopIteration") (b:=true) #[_,HI _ rfl,rfl] MB ?_);exact Hx (hQ _ (((KQ ..).extBut.push _).push _))
def tu (hh:A.handled=gV)(I d:HD)(hne:d≠I)(es:Ik Kj)(ep:HB) :
  Pj prog w A I [I,d] [I] es.size (λi v=>∃e,es[i]?=ba e/\e.key=v) (λi h=>h.IsKeyIter I d i es.size ep/\RawD d es ep h) where
 sub:=λb hb=>by simp at hb; simp[hb]
 frame:=λ_ _ _ st hk=>#[st.1.at λo e=>hk I (by simp) o e,st.2.at λo e=>hk d (by simp) o e]
 item:=λi s Q E hi st hQ=>
  nP st.1 st.2 hi λh' hit' hs'=>hQ _ h' s.toks #[es[i],by simp[hi],rfl] #[hit',st.2.at λo e=>(hs'.2 d hne).trans e] λb o hb e=>hs'.extBut b o (λh=>hb (by simp[h])) e
 done:=λs Q E st hQ=>rj hh st.1 st.2 (HE _) λh' he'=>hQ h' s.toks λb o hb e=>he' b o (λh=>hb (by simp[h])) e
 self:=λ_ _ _ _ st hQ=>NR st.1 hQ
def rm (lo:(d==sysModules)=false):NS prog w "dict" d d es.size (λi v=>∃e,es[i]?=ba e/\e.key=v) (RawD d es ep) where
 type:=λ_ hm=>hm.type
 there:=λ_ hm=>#[hm.lt,hm.lt]
 keep:=λ_ _ hm hk=>hm.at λo e=>hk d (.inl rfl) o e
 notList:=by decide
 notTuple:=by decide
 hint:=λ_ _ _ _ hm hq=>PySem.W.kdl_hint_dict hm.type hq
 iter:=λ_ _ hh hm=>#[_,_,(λ_ _ hq=>nO lo hm hq),tu hh _ d (HV hm.lt) es ep,#[#[_,HI _ rfl,rfl,rfl],hm.at λo e=>Ht _ e]]
def vB {T:Jy}{r d S:HD}{n:HB}{P:HB->Hu->Prop}{OK:IJ->Prop}{R:OZ->Hw->Prop}(K:NS prog w T r d n P OK)(hh:A.handled=gV)(hok:OK s.heap)(hn:n<=sizeLine)(hSr:S≠r)(hSd:S≠d)
  (hS:s.heap.get? S=ba { cls:=.type "list",data:=.seq #[] 0 })
  (hR:∀h' tk acc' c',(∀b o,b≠S->s.heap.get? b=ba o->h'.get? b=ba o)->h'.get? S=ba { cls:=.type "list",dict:=gV,data:=.seq acc' c',slots:=#[] }->Nm P acc' n->R (.ok (.ret (.ref S))) { s with heap:=h',toks:=tk }) :
  codeAny (model prog w) A (.builtin "list.__iadd__" #[[.ref S,.ref r],[]]) R s:=by
 refine Jf F.entry_list_iadd ?_;rw[Jc F.plain_list_iadd _];show wpAny _ A.in1 (JI (.ref S) (.ref r) (.ref S)) _ _ _;exact PySem.W.kdl_extend K hh hok S hSr hSd _ 0 hS hR hn
def nQ {T:Jy}{r d:HD}{n:HB}{P:HB->Hu->Prop}{OK:IJ->Prop}{Q:Hr Hu->Hw->Prop}(K:NS prog w T r d n P OK)(hh:A.handled=gV)(hok:OK s.heap)(hn:n<=sizeLine)
  (hQ:∀h' tk acc,(∀b o,s.heap.get? b=ba o->h'.get? b=ba o)->s.heap.objs.size<=h'.objs.size->Nm P acc n->Q acc.toList { s with heap:=h',toks:=tk }):wpAny (model prog w) A (collect (.ref r)) Q E s:=by
 unfold collect;refine Hs (Lj (Jf F.entry_proto_collect ?_));rw[Jc F.plain_proto_collect _];show wpAny _ A.in1 (newList [] >>= λl=>again (.builtin "list.__iadd__" #[[l,.ref r],[]])) _ _ s
 refine Hs (IH ?_);have hlt:=K.there _ hok;refine Hx #[J4 F.plain_list_iadd _,vB (s:={ s with heap:=s.heap.push { cls:=.type "list",data:=.seq ([]:Hr Hu).toArray } }) K hh (K.keep _ _ hok λb _ o e=>Ht _ e) hn (Jz hlt.1) (Jz hlt.2) (HI _ rfl) λh' tk acc' c' hk hS' hacc=>?_]
 show wpAny (model prog w) A (do
   let o <- load s.heap.objs.size
   match o.data with
   | .seq xs _=>pure xs.toList
   | _=>unsupported "internal:collect") Q E { s with heap:=h',toks:=tk }
 refine Hs (Nh hS' ?_);exact Hx (hQ h' tk acc' (λb o e=>hk b o (HV (HP e)) (Ht _ e)) (K4 (HP hS')) hacc)
end
mutual
noncomputable def gw:T->T->HA Il
 | .int a,.int b=>ba (decide (a < b))
 | .str a,.str b=>ba (decide (a.cps.toList < b.cps.toList))
 | .tup xs,.tup ys=>bK xs ys
 | _,_=>gV
noncomputable def bK:Hr T->Hr T->HA Il
 | [],[]=>ba false
 | [],_::_=>ba true
 | _::_,[]=>ba false
 | x::xs,y::ys=>if x=y then bK xs ys else gw x y
end
mutual
theorem IsT.kept {h h':IJ}(hk:∀b o,o.cls=.type "tuple"->h.get? b=ba o->h'.get? b=ba o):∀ {x:T} {v:Hu},IsT h x v->IsT h' x v
 | _,_,.int=>.int
 | _,_,.str=>.str
 | _,_,.tup a1 c1 d1 t1=>.tup (hk _ _ c1 a1) c1 d1 (IsTs.kept hk t1)
theorem IsTs.kept {h h':IJ}(hk:∀b o,o.cls=.type "tuple"->h.get? b=ba o->h'.get? b=ba o):∀ {x:Hr T} {v:Hr Hu},IsTs h x v->IsTs h' x v
 | _,_,.nil=>.nil
 | _,_,.cons a b=>.cons (IsT.kept hk a) (IsTs.kept hk b)
end
def D6 {B:IB}{s:Hw}{d:HB}(hu:B.units+d < cLine)(hl:∀(x y:T) (u v:Hu) (k:Il),x.depth<=d->y.depth<=d->IsT s.heap x u->IsT s.heap y v->gw x y=ba k->LtAt B s u v k) :
  ∀(xs ys:Hr T) (us vs:Hr Hu) (k:Il),T.depths xs<=d->T.depths ys<=d->IsTs s.heap xs us->IsTs s.heap ys vs->bK xs ys=ba k->LexR B s us vs k
 | [],[],_,_,k,_,_,h1,h2,e=>by cases h1; cases h2; cases e; exact .nn
 | [],y::ys,_,_,k,_,_,h1,h2,e=>by cases h1; cases h2; cases e; exact .nc
 | x::xs,[],_,_,k,_,_,h1,h2,e=>by cases h1; cases h2; cases e; exact .cn
 | x::xs,y::ys,_,_,k,d1,d2,h1,h2,e=>by
  simp only[T.depths]at d1 d2;cases h1 with
  | cons p1 q1=>
   cases h2 with
   | cons p2 q2=>
    have he:=tj d x y _ _ B s ∅ p1 p2 hu ∅
    simp only[bK]at e
    by_cases hxy:x=y
    ·rw[Ic hxy]at e;rw[JL hxy]at he;exact .eq he (D6 hu hl xs ys _ _ k ∅ ∅ q1 q2 e)
    ·rw[Im hxy]at e;rw[Iz hxy]at he;exact .ne he (hl x y _ _ k ∅ ∅ p1 p2 e)
def D7:∀(d:HB) (x y:T) (u v:Hu) (B:IB) (s:Hw) (k:Il),x.depth<=d->y.depth<=d->IsT s.heap x u->IsT s.heap y v->B.units+d < cLine->gw x y=ba k->LtAt B s u v k:=by
 intro d
 induction d with
 | zero=>
  intro x y u v B s k d1 d2 h1 h2 hu e;cases h1 with
  | int=>cases h2 with
   | int=>cases e; exact λprog w E Q h=>(N5 h:wpAny (model prog w) B (compareOp .Lt _ _) Q E s)
   | _=>cases e
  | str=>cases h2 with
   | str=>cases e; exact λprog w E Q h=>(lt_str h:wpAny (model prog w) B (compareOp .Lt _ _) Q E s)
   | _=>cases e
  | tup _ _ _ _=>simp[T.depth]at d1
 | succ d ih=>
  intro x y u v B s k d1 d2 h1 h2 hu e;cases h1 with
  | int=>cases h2 with
   | int=>cases e; exact λprog w E Q h=>(N5 h:wpAny (model prog w) B (compareOp .Lt _ _) Q E s)
   | _=>cases e
  | str=>cases h2 with
   | str=>cases e; exact λprog w E Q h=>(lt_str h:wpAny (model prog w) B (compareOp .Lt _ _) Q E s)
   | _=>cases e
  | tup a1 c1 e1 t1=>cases h2 with
   | tup a2 c2 e2 t2=>
    simp only[T.depth]at d1 d2;have hu1:B.in1.units+d < cLine:=by rw[aB]; omega
    exact LtAt.tuples #[_,a1,c1,_,e1] #[_,a2,c2,_,e2] ∅ (D6 hu1 (λx y u v k q1 q2 q3 q4 q5=>ih x y u v B.in1 s k q1 q2 q3 q4 hu1 q5) _ _ _ _ k ∅ ∅ t1 t2 e)
   | _=>cases e
section
variable{prog:Iw}{w:IE}{A:IB}{R:OZ->Hw->Prop}{I S:HD}{fp wr:Hr HD}{n:HB}{P:HB->Hu->Prop}{St:HB->IJ->Prop}{Ok:IJ->Prop}{bt:HB->HB->Il}
abbrev vC (prog:Iw)(w:IE)(A:IB)(P:HB->Hu->Prop)(Ok:IJ->Prop)(bt:HB->HB->Il):Prop:=
 ∀i j vi vj (s:Hw) (Q:Hu->Hw->Prop) (E:Hu->Hw->Prop),Ok s.heap->P i vi->P j vj->Q (.bool (bt i j)) s->wpAny (model prog w) A (richCompare .Lt vi vj) Q E s
def vD (W:Pj prog w A.in1 I fp wr n P St)(hcmp:vC prog w A.in1 P Ok bt)(hSf:S∉fp)(hok:∀h h',Ok h->(∀b o,b∉wr->b≠S->h.get? b=ba o->h'.get? b=ba o)->Ok h') :
  ∀(k j:HB) (s:Hw) (vb:Hu) (c:HB),n - (j+1)=k->j < n->St (j+1) s.heap->P (argBest bt j) vb->Ok s.heap->s.heap.get? S=ba { cls:=.type "list",dict:=gV,data:=.seq [vb,vb].toArray c,slots:=#[] }->
  (∀v h' tk,P (argBest bt (n - 1)) v->(∀b o,b∉wr->b≠S->s.heap.get? b=ba o->h'.get? b=ba o)->R (.ok (.ret v)) { s with heap:=h',toks:=tk })->
  codeAny (model prog w) A (.builtin "min.loop" #[[.ref I,.none,.ref S],[]]) R s:=by
 have hSw:S∉wr:=λh=>hSf (W.sub _ h)
 have hname:(toString "min" ++ toString ".loop" : Jy) = "min.loop":=by decide
 intro k
 induction k with
 | zero=>
  intro j s vb c hk hj hst hPb hO hS hR;have hin:j+1=n:=∅
  refine Jf F.entry_min_loop ?_;rw[Jc F.plain_min_loop _];show wpAny _ A.in1 (seqItems? (.ref S) >>= _) _ _ s;refine Hs (JD hS rfl ?_);show wpAny _ A.in1 (tryCatch (pyNext (.ref I)) _ >>= _) _ _ s;refine Hs (MK (W.done s _ _ (hin ▸ hst) λh' tk hk'=>?_))
  have hS':=hk' S _ hSw hS;show wpAny _ A.in1 (updateSeq S (λ_=>#[]) >>= _) _ _ _
  refine Hs (LH hS' rfl (Hs (Ln (Hx ?_))));have e:j=n - 1:=∅
  exact hR vb _ tk (e ▸ hPb) λb o hbw hbS e=>(IM _ _ (Ne.symm hbS)).trans (hk' b o hbw e)
 | succ k ih=>
  intro j s vb c hk hj hst hPb hO hS hR;have hlt:j+1 < n:=∅
  refine Jf F.entry_min_loop ?_;rw[Jc F.plain_min_loop _];show wpAny _ A.in1 (seqItems? (.ref S) >>= _) _ _ s;refine Hs (JD hS rfl ?_);show wpAny _ A.in1 (tryCatch (pyNext (.ref I)) _ >>= _) _ _ s;refine Hs (MK (W.item (j+1) s _ _ hlt hst λv h' tk hP hst' hk'=>?_))
  have hS':=hk' S _ hSw hS;have hO':Ok h':=hok _ _ hO λb o hb _ e=>hk' b o hb e
  show wpAny _ A.in1 (tryCatch (holding [v,v] (richCompare .Lt v vb >>= _)) _ >>= _) _ _ _;refine Hs (MK (Jg (Hs (hcmp (j+1) (argBest bt j) v vb _ _ _ hO' hP hPb ?_))));refine Hs (Jg (Ki ?_));refine Hs (Ln (Hx ?_));cases hb:bt (j+1) (argBest bt j)with
  | true=>
   simp only[JP];refine Hs (LH hS' rfl (Hs (Ln ?_)));rw[hname];refine Hx #[J4 F.plain_min_loop _,ih (j+1) _ v _ ∅ hlt (W.frame _ _ _ hst' λb hbf o e=>?_) (by simp only[argBest,hb,JP]; exact hP) (hok _ _ hO' λb o _ hbS e=>(IM _ _ (Ne.symm hbS)).trans e) (JF _ hS' rfl)
    λv' h'' tk'' hP' hk''=>?_]
   ·exact(IM _ _ (λh:S=b=>hSf (by rw[h]; exact hbf))).trans e
   ·exact hR v' h'' tk'' hP' λb o hbw hbS e=>hk'' b o hbw hbS ((IM _ _ (Ne.symm hbS)).trans (hk' b o hbw e))
  | false=>
   simp only[Ij,Jn];refine Hs (Ln ?_);rw[hname];refine Hx #[J4 F.plain_min_loop _,ih (j+1) _ vb c ∅ hlt hst' (by simp only[argBest,hb,Ij,Jn]; exact hPb) hO' hS' λv' h'' tk'' hP' hk''=>?_]
   exact hR v' h'' tk'' hP' λb o hbw hbS e=>hk'' b o hbw hbS (hk' b o hbw e)
def tz (W:Pj prog w A.in1 I fp wr n P St)(hcmp:vC prog w A.in1 P Ok bt)(hSf:S∉fp)(hok:∀h h',Ok h->(∀b o,b∉wr->b≠S->h.get? b=ba o->h'.get? b=ba o)->Ok h')(hn:0 < n){s:Hw}{c:HB}(hst:St 0 s.heap)(hO:Ok s.heap)
  (hS:s.heap.get? S=ba { cls:=.type "list",dict:=gV,data:=.seq #[] c,slots:=#[] })
  (hR:∀v h' tk,P (argBest bt (n - 1)) v->(∀b o,b∉wr->b≠S->s.heap.get? b=ba o->h'.get? b=ba o)->R (.ok (.ret v)) { s with heap:=h',toks:=tk }) :
  codeAny (model prog w) A (.builtin "min.loop" #[[.ref I,.none,.ref S],[]]) R s:=by
 have hSw:S∉wr:=λh=>hSf (W.sub _ h)
 have hname:(toString "min" ++ toString ".loop" : Jy) = "min.loop":=by decide
 refine Jf F.entry_min_loop ?_;rw[Jc F.plain_min_loop _];show wpAny _ A.in1 (seqItems? (.ref S) >>= _) _ _ s;refine Hs (JD hS rfl ?_);show wpAny _ A.in1 (tryCatch (pyNext (.ref I)) _ >>= _) _ _ s;refine Hs (MK (W.item 0 s _ _ hn hst λv h' tk hP hst' hk'=>?_))
 have hS':=hk' S _ hSw hS;show wpAny _ A.in1 (updateSeq S (λ_=>[v,v].toArray) >>= _) _ _ _
 refine Hs (LH hS' rfl ?_);rw[hname];have hO':Ok h':=hok _ _ hO λb o hb _ e=>hk' b o hb e
 refine Hx #[J4 F.plain_min_loop _,vD W hcmp hSf hok _ 0 _ v _ rfl hn (W.frame _ _ _ hst' λb hbf o e=>?_) hP (hok _ _ hO' λb o _ hbS e=>(IM _ _ (Ne.symm hbS)).trans e) (JF _ hS' rfl) λv' h'' tk'' hP' hk''=>?_]
 ·exact(IM _ _ (λh:S=b=>hSf (by rw[h]; exact hbf))).trans e
 ·exact hR v' h'' tk'' hP' λb o hbw hbS e=>hk'' b o hbw hbS ((IM _ _ (Ne.symm hbS)).trans (hk' b o hbw e))
end
section
variable{prog:Iw}{w:IE}{A:IB}{E:Hu->Hw->Prop}{s:Hw}
def vE {l:HD}{items:Ik Hu}{bt:HB->HB->Il}{Q:Hu->Hw->Prop}(hh:A.handled=gV)(hl:s.heap.IsList l items)(hn:0 < items.size)
  (hcmp:vC prog w A.in1 (λi v=>items[i]?=ba v) (λh=>∀b o,s.heap.get? b=ba o->h.get? b=ba o) bt)
  (hQ:∀v h' tk,items[argBest bt (items.size - 1)]?=ba v->(∀b o,s.heap.get? b=ba o->h'.get? b=ba o)->Q v { s with heap:=h',toks:=tk }) :
  wpAny (model prog w) A (call (.builtin "min") [.ref l]) Q E s:=by
 have hname:(toString "min" ++ toString ".loop" : Jy) = "min.loop":=by decide
 refine call_function_tree F.kind_min F.plain_min F.entry_min (F.args_min1 _) ?_;show wpAny _ A.in1 (Mr "min" ["key","default"] 0 #[[],[]] >>= _) _ _ s;refine Hs (LN (show Mr "min" ["key","default"] 0 #[[],[]]=pure [gV,gV]from rfl) ?_)
 refine Hs (Hx ?_);refine Hs (KJ hl ?_);refine Hs (IH ?_);rw[hname];have hlt:l < s.heap.objs.size:=let ⟨_,ho,_⟩:=hl; HP ho
 have hne:l≠s.heap.objs.size:=HV hlt;have W:=Ou (prog:=prog) (w:=w) (A:=A.in1) hh s.heap.objs.size l hne items;have hsz:∀o:JJ,(s.heap.push o).objs.size=s.heap.objs.size+1:=λo=>by simp[Heap.push]
 refine Hx #[J4 F.plain_min_loop _,tz (A:=A) (Ok:=λh=>∀b o,s.heap.get? b=ba o->h.get? b=ba o) W hcmp (λhm=>?_) (λh h' ho hk b o e=>?_) hn #[?_,?_] (λb o e=>Ht _ (Ht _ e)) (HI _ rfl) λv h' tk hv hk=>?_]
 ·rcases HW.mp hm with e|hm
  ·exact absurd (show(s.heap.push _).objs.size=s.heap.objs.size from e) (by rw[hsz]; exact Nat.succ_ne_self _)
  ·have e:(s.heap.push _).objs.size=l:=HJ.mp hm;rw[hsz]at e;exact absurd hlt (by rw[<- e]; exact Os.mpr (KH _))
 ·have hb:=HP e;refine hk b o (λz=>?_) (λz=>?_) (ho b o e)
  ·rw[HJ.mp z]at hb; exact Jw _ hb
  ·have z':b=(s.heap.push _).objs.size:=z;rw[hsz]at z';rw[z']at hb;exact absurd hb (Os.mpr (KH _))
 ·exact#[_,Ht _ (HI _ rfl),rfl,rfl]
 ·obtain⟨o,ho,hc⟩:=hl;exact#[o,Ht _ (Ht _ ho),hc]
 ·refine hQ v h' tk hv λb o e=>hk b o (λz=>?_) (λz=>?_) (Ht _ (Ht _ e))
  ·have hb:=HP e;rw[HJ.mp z]at hb; exact Jw _ hb
  ·have hb:=HP e;have z':b=(s.heap.push _).objs.size:=z;rw[hsz]at z';rw[z']at hb;exact absurd hb (Os.mpr (KH _))
end
open PySem.W (KasT kas_sort kas_ask kas_cmp kas_item kas_asc kas_desc kas_tail3 kas_descPart kas_count kas_place kas_bin kas_rev)
abbrev bo {α:Type}(lt:HB->HB->Il):KasT α->α
 | .ret a=>a
 | .ask i j k=>bo lt (k (lt i j))
abbrev OkK {α:Type}(n:HB)(P:α->Prop):KasT α->Prop
 | .ret a=>P a
 | .ask i j k=>i < n/\j < n/\∀b,OkK n P (k b)
def nR {α:Type}{n:HB}{P:α->Prop}{lt:HB->HB->Il}:∀(t:KasT α),OkK n P t->P (bo lt t)
 | .ret _,h=>h
 | .ask i j k,h=>nR (k (lt i j)) (h.2.2 _)
def mh {α:Type}{n:HB}{P:α->Prop}{lt:HB->HB->Il}{t:KasT α}(h:OkK n P t):P (bo lt t):=nR t h
def OkK.bind {α β:Type}{n:HB}{P:α->Prop}{P':β->Prop}{f:α->KasT β}:∀ {t:KasT α},OkK n P t->(∀a,P a->OkK n P' (f a))->OkK n P' (t.bind f)
 | .ret a,h,hf=>hf a h
 | .ask _ _ _,h,hf=>#[h.1,h.2.1,λb=>OkK.bind (h.2.2 b) hf]
def kZ {α:Type}{n:HB}{P:α->Prop}{lt:HB->HB->Il}{cmp:HB->HB->(Il->Hw->Prop)->Hw->Prop}{Q:α->Hw->Prop}{s:Hw}(hc:∀i j,i < n->j < n->∀C:Il->Hw->Prop,C (lt i j) s->cmp i j C s) :
  ∀ {t:KasT α},OkK n P t->Q (bo lt t) s->t.kasWp cmp Q s
 | .ret _,_,h=>h
 | .ask i j k,h,hq=>hc i j h.1 h.2.1 _ (kZ hc (h.2.2 _) hq)
abbrev Pm (n:HB)(p:Ik HB):Prop:=p.toList.Perm (Ix n)
def Pm.size {n:HB}{p:Ik HB}(h:Pm n p):p.size=n:=by rw[<- HS,h.length_eq,IL]
def Pm.lt {n:HB}{p:Ik HB}(h:Pm n p)(hn:0 < n)(i:HB):p.getD i 0 < n:=by
 by_cases hi:i < p.size
 ·have e:p.getD i 0=p[i]:=by simp[LJ,hi]
  rw[e];have:p[i]∈p.toList:=by simp
  exact IU.mp (h.mem_iff.mp this)
 ·have e:p.getD i 0=0:=by simp[LJ,hi]
  rw[e]; exact hn
def Pm.rev {n:HB}{p:Ik HB}(h:Pm n p)(i j:HB):Pm n (kas_rev p i j):=(ML.mp (mirror_perm p i j _)).trans h
def Pm.bub {n:HB}{p:Ik HB}(h:Pm n p)(i j:HB):Pm n (bubble p i j):=(ML.mp (bubble_perm p i j)).trans h
section
variable{n:HB}(hn:0 < n)
include hn
def qa {p:Ik HB}(h:Pm n p):∀(f m:HB),OkK n (λ_=>Oi) (kas_asc p f m)
 | 0,_=>trivial
 | f+1,m=>#[h.lt hn _,h.lt hn _,λb=>by
  show OkK n _ (if b=true then _ else _)
  split
  ·trivial
  ·exact qa h f (m+1)]
def jg:∀(f:HB) (p:Ik HB) (m q:HB),Pm n p->OkK n (λr=>Pm n r.1) (kas_desc f p m q)
 | 0,p,m,q,h=>h
 | f+1,p,m,q,h=>#[h.lt hn _,h.lt hn _,λb=>by
  show OkK n _ (if b=true then _ else _)
  split
  ·split
   ·exact jg f _ _ _ (h.rev _ _)
   ·exact jg f _ _ _ h
  ·refine#[h.lt hn _,h.lt hn _,λc=>?_]
   show OkK n _ (if c=true then _ else _)
   split
   ·exact h
   ·exact jg f _ _ _ h]
def rn {p:Ik HB}(h:Pm n p)(m k:HB):OkK n (λr=>Pm n r.2) (kas_tail3 m k p):=by
 unfold kas_tail3;exact OkK.bind (qa hn (h.rev 0 m) _ _) λa _=>h.rev 0 m
def iV {p:Ik HB}(h:Pm n p)(m k:HB):OkK n (λr=>Pm n r.2) (kas_descPart m k p):=by
 unfold kas_descPart;refine OkK.bind (jg hn _ _ _ _ h) λr hr=>?_
 split
 ·exact rn hn (hr.rev _ _) _ _
 ·exact rn hn hr _ _
def vF {p:Ik HB}(h:Pm n p)(k:HB):OkK n (λr=>Pm n r.2) (kas_count k p):=by
 unfold kas_count;refine OkK.bind (qa hn h _ _) λm _=>?_
 split
 ·exact h
 ·split
  ·refine#[h.lt hn _,h.lt hn _,λc=>?_]
   show OkK n _ (if c=true then _ else _)
   split
   ·exact h
   ·exact iV hn (h.rev _ _) _ _
  ·exact iV hn h _ _
def jG {p:Ik HB}(h:Pm n p)(k:HB):∀(f l r:HB),OkK n (λ_=>Oi) (kas_place p k f l r)
 | 0,_,_=>trivial
 | f+1,l,r=>by
  unfold kas_place;split
  ·trivial
  ·refine#[h.lt hn _,h.lt hn _,λc=>?_]
   show OkK n _ (if c=true then _ else _)
   split
   ·exact jG h k f _ _
   ·exact jG h k f _ _
def vG:∀(f:HB) (p:Ik HB) (k:HB),Pm n p->OkK n (Pm n) (kas_bin f p k)
 | 0,p,k,h=>h
 | f+1,p,k,h=>by
  unfold kas_bin;exact OkK.bind (jG hn h k _ _ _) λl _=>vG f _ _ (h.bub _ _)
def jh:OkK n (Pm n) (kas_sort n):=by
 unfold kas_sort;refine OkK.bind (vF hn (by unfold Pm; simp) _) λr hr=>?_
 split
 ·exact vG hn _ _ _ hr
 ·exact hr
end
section
variable{prog:Iw}{w:IE}{A:IB}{E:Hu->Hw->Prop}{s:Hw}{vs:Hr Hu}
abbrev cN (lt:HB->HB->Il){β:Type}(d:β)(vs:Hr β):Hr β:=if vs.length < 2 then vs else(bo lt (kas_sort vs.length)).toList.map λi=>vs.getD i d
def nS {lt:HB->HB->Il}{β:Type}{d:β}{vs:Hr β}:(cN lt d vs).length=vs.length:=by
 unfold cN;split
 ·rfl
 ·rw[Hv,HS,(mh (lt:=lt) (jh (n:=vs.length) ∅)).size]
def la {a:HD}{n:HB}{lt:HB->HB->Il}{κ:Nb}{P:Rk->Hw->Prop}(ho:s.heap.get? a=ba (seqObj "list" vs.toArray n))(h64:vs.length < 64)
  (hkind:2<=vs.length->∀h',(∀b o,b≠a->s.heap.get? b=ba o->h'.get? b=ba o)->∀Q:Nb->Hw->Prop,Q κ { s with heap:=h' }->wpAny (model prog w) A (keyKind' vs.toArray) Q (λ_ _=>Jt) { s with heap:=h' })
  (hlt:2<=vs.length->∀h',(∀b o,b≠a->s.heap.get? b=ba o->h'.get? b=ba o)->∀i j,i < vs.length->j < vs.length->∀Q:Il->Hw->Prop,Q (lt i j) { s with heap:=h' }->
   wpAny (model prog w) A (keyLt' κ (vs.getD i IP) (vs.getD j IP)) Q (λ_ _=>Jt) { s with heap:=h' })
  (h:∀h' c,(∀b o,b≠a->s.heap.get? b=ba o->h'.get? b=ba o)->h'.get? a=ba (seqObj "list" (cN lt IP vs).toArray c)->P (.done (.ret .none)) { s with heap:=h' }) :
  wpAny (model prog w) A (KI.«list.sort» #[[.ref a],[]]) P E s:=by
 have ha:a < s.heap.objs.size:=HP ho;obtain⟨e1,ho1⟩ : ∃e1,(s.heap.update a (JA λ_=>(#[]:Ik Hu))).get? a=ba (seqObj "list" #[] e1):=#[_,Nw ho λ_=>#[]]
 have keep:∀b o,b≠a->s.heap.get? b=ba o->(((s.heap.update a (JA λ_=>(#[]:Ik Hu))).push (seqObj "tuple" vs.toArray 0)).push (seqObj "list" #[] 0)).get? b=ba o:=λb o hb e=>
  Ht _ (Ht _ ((LA _ _ _ _ hb).trans e))
 have ho3:(((s.heap.update a (JA λ_=>(#[]:Ik Hu))).push (seqObj "tuple" vs.toArray 0)).push (seqObj "list" #[] 0)).get? a=ba (seqObj "list" #[] e1):=Ht _ (Ht _ ho1)
 have fin:∀(out:Hr Hu),out.length=vs.length->out=cN lt IP vs->P (.done (.ret .none)) { s with heap:=(((s.heap.update a (JA λ_=>(#[]:Ik Hu))).push (seqObj "tuple" vs.toArray 0)).push (seqObj "list" #[] 0)).update a (JA λ_=>out.toArray) }:=λout hl e=>by
  obtain⟨c2,hc2⟩ : ∃c2,((((s.heap.update a (JA λ_=>(#[]:Ik Hu))).push (seqObj "tuple" vs.toArray 0)).push (seqObj "list" #[] 0)).update a (JA λ_=>out.toArray)).get? a=ba (seqObj "list" out.toArray c2):=#[_,Nw ho3 λ_=>out.toArray]
  exact h _ c2 (λb o hb q=>(LA _ _ _ _ hb).trans (keep b o hb q)) (e ▸ hc2)
 rw[list_sort_plain];refine Hs (OR ho rfl ?_);refine Hs (M6 ho rfl ?_ (by rw[HL,IX]; omega) (Jx _))
 refine Hs (Pn ho1 rfl ?_);refine Hs (MD ?_ (by show vs.length<=_; rw[IX]; omega))
 refine Hs (M7 ?_ (Jx _));refine Jg ?_;show wpAny (model prog w) A _ P E { s with heap:=((s.heap.update a (JA λ_=>(#[]:Ik Hu))).push (seqObj "tuple" vs.toArray 0)).push (seqObj "list" #[] 0) }
 dsimp only
 by_cases h2:vs.length < 2
 ·rw[Ic (by rw[HL]; exact h2),Ic (by rw[HL]; exact h2)]
  refine Hs (Hx (Hs ?_));rw[StateT.run_pure];refine Hx ?_;dsimp only;refine Hs (Pn ho3 rfl ?_);have hs:((arrOf (SortSt.mk' general' (vs.toArray.zip vs.toArray) #[] 7 gV)).map (·.2))=vs.toArray:=by
   show(vs.toArray.zip vs.toArray).map (·.2)=vs.toArray
   apply Array.toList_inj.mp;rw[Nc,Array.toList_zip];exact List.map_snd_zip (HE _)
  rw[hs];refine Hs (M6 ho3 rfl ?_ (Jx _) (by rw[HL,IX]; omega))
  simp only[OS,Ij,Jn];exact Hx (fin vs rfl (by unfold cN; rw[Ic h2]))
 ·have hn2:¬ vs.toArray.size < 2:=by rw[HL]; exact h2
  have h2':2<=vs.length:=∅
  rw[Im hn2,Im hn2];refine Hs (J0 (hkind h2' _ keep (λ(k:Nb) (s':Hw)=>k=κ/\s'={ s with heap:=((s.heap.update a (JA λ_=>(#[]:Ik Hu))).push (seqObj "tuple" vs.toArray 0)).push (seqObj "list" #[] 0) }) #[rfl,rfl]) ?_ λ_ _ x=>x.elim)
  rintro _ _ ⟨rfl,rfl⟩;refine Hs (J0 (PySem.W.kat_run (Q:=λst' s'=>∃p:Ik HB,p.size=vs.length/\arrOf st'=p.map (kas_item (vs.toArray.zip vs.toArray))/\failedOf st'=gV/\p=bo lt (kas_sort vs.length)/\s'={ s with heap:=((s.heap.update a (JA λ_=>(#[]:Ik Hu))).push (seqObj "tuple" vs.toArray 0)).push (seqObj "list" #[] 0) })
   (G:=λp s'=>p=bo lt (kas_sort vs.length)/\s'={ s with heap:=((s.heap.update a (JA λ_=>(#[]:Ik Hu))).push (seqObj "tuple" vs.toArray 0)).push (seqObj "list" #[] 0) }) rfl h2' h64 (λp' st' s' a1 a2 a3 a4=>#[p',a1,a2,a3,a4])
   (kZ (lt:=lt) (λi j hi hj C hC=>hlt h2' _ keep i j hi hj C hC) (jh (n:=vs.length) ∅) #[rfl,rfl])) ?_ λ_ _ e=>e)
  rintro⟨⟨⟩,st'⟩ s' ⟨p,hp,har,hf,ep,rfl⟩;dsimp only;have hout:=PySem.W.kat_snds rfl har;have hsz:(p.toList.map λi=>vs.getD i IP).length=vs.length:=by rw[Hv,HS,hp]
  rw[hout];refine Hs (Pn ho3 rfl ?_);refine Hs (M6 ho3 rfl ?_ (Jx _) (by rw[HL,hsz,IX]; omega))
  rw[hf];simp only[OS,Ij,Jn];exact Hx (fin _ hsz (by unfold cN; rw[Im h2,ep]))
def tB {x:Hu}{lt:HB->HB->Il}{κ:Nb}{Q:Hu->Hw->Prop}(h64:vs.length < 64)
  (hcol:∀Q':Hr Hu->Hw->Prop,(∀h' tk,(∀b o,s.heap.get? b=ba o->h'.get? b=ba o)->s.heap.objs.size<=h'.objs.size->Q' vs { s with heap:=h',toks:=tk })->wpAny (model prog w) A.in1 (collect x) Q' E s)
  (hkind:2<=vs.length->∀h' tk,(∀b o,s.heap.get? b=ba o->h'.get? b=ba o)->∀Q:Nb->Hw->Prop,Q κ { s with heap:=h',toks:=tk }->wpAny (model prog w) A.in1.in1 (keyKind' vs.toArray) Q (λ_ _=>Jt) { s with heap:=h',toks:=tk })
  (hlt:2<=vs.length->∀h' tk,(∀b o,s.heap.get? b=ba o->h'.get? b=ba o)->∀i j,i < vs.length->j < vs.length->∀Q:Il->Hw->Prop,Q (lt i j) { s with heap:=h',toks:=tk }->
   wpAny (model prog w) A.in1.in1 (keyLt' κ (vs.getD i IP) (vs.getD j IP)) Q (λ_ _=>Jt) { s with heap:=h',toks:=tk })
  (h:∀D h' tk c,(∀b o,s.heap.get? b=ba o->h'.get? b=ba o)->s.heap.objs.size<=D->h'.get? D=ba (seqObj "list" (cN lt IP vs).toArray c)->Q (.ref D) { s with heap:=h',toks:=tk }) :
  wpAny (model prog w) A (call (.builtin "sorted") [x]) Q E s:=by
 refine Lx QN Qw Qx (Qy _) ?_;unfold KI.«sorted»;refine Hs (m:=checkCount "sorted" 1 1 _) (Hx ?_);refine Hs (hcol _ λh1 tk1 hk1 hle=>?_)
 refine Hs (M7 ?_ (by rw[IX]; omega))
 have hoL:(h1.push (seqObj "list" vs.toArray 0)).get? h1.objs.size=ba (seqObj "list" vs.toArray 0):=HI _ rfl;have kp:∀b o,s.heap.get? b=ba o->(h1.push (seqObj "list" vs.toArray 0)).get? b=ba o:=λb o e=>Ht _ (hk1 b o e)
 have hne:∀b o,s.heap.get? b=ba o->b≠h1.objs.size:=λb o e=>HV (Iu (HP e) hle)
 show wpAny _ _ _ _ _ { s with heap:=h1.push (seqObj "list" vs.toArray 0),toks:=tk1 }
 refine Hs (Jg (Jb PU #[_,hoL,rfl] Ps ?_ (PV _)));refine la (s:={ s with heap:=h1.push (seqObj "list" vs.toArray 0),toks:=tk1 }) (lt:=lt) (κ:=κ) hoL h64 (λh2 h' hk Q hq=>hkind h2 h' tk1 (λb o e=>hk b o (hne b o e) (kp b o e)) Q hq)
  (λh2 h' hk i j hi hj Q hq=>hlt h2 h' tk1 (λb o e=>hk b o (hne b o e) (kp b o e)) i j hi hj Q hq) λh' c hk hD=>?_
 exact#[_,rfl,Hx #[_,rfl,h _ h' tk1 c (λb o e=>hk b o (hne b o e) (kp b o e)) hle hD]]
end
end Mi
namespace Mi
open PySem PySem.Spec PyProof.Rows L2
abbrev eP:T->Jy
 | .int _=>"int"|.str _=>"str"|.tup _=>"tuple"
abbrev aX:T->HA T
 | .tup (x::_)=>ba x
 | _=>gV
abbrev qb (ks:Hr T):HA HB:=
 if ks.all (λk=>eP k == "int")then ba 0
 else if ks.all (λk=>eP k == "str")then ba 1
 else if ks.all (λk=>(aX k).any λf=>eP f == "int")then ba 2
 else if ks.all (λk=>(aX k).any λf=>eP f == "str")then ba 3
 else if ks.all (λk=>(aX k).any λf=>eP f == "tuple")then ba 4
 else gV
abbrev rq:HB->Nb
 | 0=>oneType'|1=>oneType'|2=>tuples' true|3=>tuples' true|_=>tuples' false
abbrev eg (ks:Hr T):Il:=ks.all λx=>ks.all λy=>(gw x y).isSome
abbrev kz (ks:Hr T)(i j:HB):Il:=(gw (ks.getD i (.int 0)) (ks.getD j (.int 0))).getD false
def cU {ks:Hr T}(h:eg ks=true){i j:HB}(hi:i < ks.length)(hj:j < ks.length):gw (ks[i]) (ks[j])=ba (kz ks i j):=by
 unfold eg at h;rw[Ig]at h;have h1:=h ks[i] (IC hi);rw[Ig]at h1;have h2:=h1 ks[j] (IC hj);unfold kz;rw[show ks.getD i (.int 0)=ks[i] by simp[hi],show ks.getD j (.int 0)=ks[j] by simp[hj]]
 obtain⟨b,hb⟩:=Jh.mp h2;rw[hb]; rfl
abbrev G2 (c:HB)(x y:T):Prop:=match c with|0=>eP x = "int"/\eP y = "int"|1=>eP x = "str"/\eP y = "str"|2=>∃f g,aX x=ba f/\aX y=ba g/\eP f = "int"/\eP g = "int"|3=>∃f g,aX x=ba f/\aX y=ba g/\eP f = "str"/\eP g = "str"|_=>∃f g,aX x=ba f/\aX y=ba g
section
variable{prog:Iw}{w:IE}{A:IB}{E:Hu->Hw->Prop}{s:Hw}
def rz {h:IJ}{k:T}{v:Hu}(x:IsT h k v):Qh (model prog w) h (typeOf v) (.type (eP k)):=by
 cases x with
 | int=>exact .now
 | str=>exact .now
 | tup a c d t=>exact c ▸ ((Rl a).andThen .now:Qh (model prog w) h (typeOf (.ref _)) _)
def IsTs.mem {h:IJ}:∀ {ks:Hr T} {vs:Hr Hu},IsTs h ks vs->∀v∈vs,∃k∈ks,IsT h k v
 | _,_,.cons a b,v,hv=>by
  rcases HW.mp hv with rfl|hv
  ·exact#[_,.head _,a]
  ·obtain⟨k,hk,q⟩:=IsTs.mem b v hv;exact#[k,.tail _ hk,q]
def lb {h:IJ}{p:T->Il}:∀ {ks:Hr T} {vs:Hr Hu},IsTs h ks vs->ks.all (λk=>(aX k).any p)=true->∃fs,PySem.W.KatTups h vs fs/\fs.length=vs.length/\∀v∈fs,∃k,p k=true/\IsT h k v
 | _,_,.nil,_=>#[[],.nil,rfl,λv hv=>nomatch hv]
 | k::ks,_,.cons a b,hp=>by
  rw[IY,Hz]at hp;obtain⟨fs,h1,h2,h3⟩:=lb b hp.2;cases a with
  | int=>simp[aX]at hp
  | str=>simp[aX]at hp
  | @tup kk ad o items n a1 c1 d1 t1=>
   cases kk with
   | nil=>simp[aX]at hp
   | cons x xs=>
    have hx:p x=true:=by simpa [aX]using hp.1
    generalize hit:items.toList=its at t1;cases t1 with
    | @cons _ u _ us q1 q2=>
     refine#[u::fs,.cons a1 c1 d1 (by rw[<- Jd,hit]; rfl) h1,by simp[h2],λv hv=>?_]
     rcases HW.mp hv with rfl|hv
     ·exact#[x,hx,q1]
     ·exact h3 v hv
def vH {ks:Hr T}{vs:Hr Hu}{c:HB}{Q:Nb->Hw->Prop}(h:IsTs s.heap ks vs)(h2:2<=vs.length)(hc:qb ks=ba c)(hq:Q (rq c) s):wpAny (model prog w) A (keyKind' vs.toArray) Q E s:=by
 have one:∀ty:Jy,(JE ty != JE "tuple")=true->ks.all (λk=>eP k==ty)=true->Q oneType' s->wpAny (model prog w) A (keyKind' vs.toArray) Q E s:=λty hty hall hq=>
  PySem.W.kas_kind (T:=.type ty) h2 (λv hv=>by
   obtain⟨k,hk,x⟩:=h.mem v hv;have:=eq_of_beq (Ig.mp hall k hk);exact this ▸ rz x) hty (by simp) hq
 have tup:∀ty:Jy,ks.all (λk=>(aX k).any λf=>eP f==ty)=true->Q (tuples' (JE ty != JE "tuple")) s->wpAny (model prog w) A (keyKind' vs.toArray) Q E s:=λty hall hq=>by
  obtain⟨fs,h1,h3,h4⟩:=lb h hall;exact PySem.W.kat_kind (T:=.type ty) h1 ∅ (λv hv=>by
   obtain⟨k,hk,x⟩:=h4 v hv;have:=eq_of_beq hk;exact this ▸ rz x) (by simp) hq
 unfold qb at hc;split at hc
 ·cases hc; exact one "int" #v[] (by assumption) hq
 ·split at hc
  ·cases hc; exact one "str" #v[] (by assumption) hq
  ·split at hc
   ·cases hc; exact tup "int" (by assumption) hq
   ·split at hc
    ·cases hc; exact tup "str" (by assumption) hq
    ·split at hc
     ·cases hc; exact tup "tuple" (by assumption) hq
     ·cases hc
def nT {b:Il}{Q:Il->Hw->Prop}{d:HB}(hu:A.units+d < cLine):∀(xs ys:Hr T) (us vs:Hr Hu) (i:HB) (k:Il),T.depths xs<=d->T.depths ys<=d->IsTs s.heap xs us->IsTs s.heap ys vs->bK xs ys=ba k->
  (b=true->i=0->∀x y,xs.head?=ba x->ys.head?=ba y->(eP x = "int"/\eP y = "int")\/(eP x = "str"/\eP y = "str"))->Q k s->PySem.W.KatLex prog w A b (decide (us.length < vs.length)) Q (us.zip vs) i s
 | [],[],_,_,i,k,_,_,h1,h2,e,hb,hq=>by cases h1; cases h2; cases e; exact Nx (by simpa using hq)
 | [],y::ys,_,_,i,k,_,_,h1,h2,e,hb,hq=>by cases h1; cases h2; cases e; exact Nx (by simpa using hq)
 | x::xs,[],_,_,i,k,_,_,h1,h2,e,hb,hq=>by cases h1; cases h2; cases e; exact Nx (by simpa using hq)
 | x::xs,y::ys,_,_,i,k,d1,d2,h1,h2,e,hb,hq=>by
  simp only[T.depths]at d1 d2;cases h1 with
  | @cons _ u _ us p1 q1=>
   cases h2 with
   | @cons _ v _ vs p2 q2=>
    have he:=tj d x y _ _ A s ∅ p1 p2 hu ∅
    rw[K7];refine PySem.W.kat_cons (he prog w _ _ ?_);simp only[bK]at e;have hlen:decide ((u::us).length < (v::vs).length)=decide (us.length < vs.length):=by simp
    rw[hlen]
    by_cases hxy:x=y
    ·rw[Ic hxy]at e;rw[JL hxy];exact PySem.W.kat_yes (nT hu xs ys us vs (i+1) k ∅ ∅ q1 q2 e (λ_ z=>absurd z (O5 _)) hq)
    ·rw[Im hxy]at e;rw[Iz hxy];refine PySem.W.kat_no ?_
     by_cases hb0:b=true/\i=0
     ·obtain⟨rfl,rfl⟩:=hb0;rcases hb rfl rfl x y rfl rfl with⟨hx,hy⟩|⟨hx,hy⟩
      ·cases p1 with
       | int=>cases p2 with
        | int=>cases e; exact oneLt_int hq
        | _=>exact absurd hy (by simp[eP])
       | _=>exact absurd hx (by simp[eP])
      ·cases p1 with
       | str=>cases p2 with
        | str=>cases e; exact oneLt_str hq
        | _=>exact absurd hy (by simp[eP])
       | _=>exact absurd hx (by simp[eP])
     ·have hf:(b&&i==0)=false:=by
       cases b with
       | false=>rfl
       | true=>
        have:i≠0:=λz=>hb0 #[rfl,z]
        simpa using this
      rw[hf];exact PySem.W.kat_one _ _ ((D7 d x y _ _ A s k ∅ ∅ p1 p2 hu e) prog w _ _ hq)
def rA {c d:HB}{x y:T}{u v:Hu}{k:Il}{Q:Il->Hw->Prop}(hu:A.units+d < cLine)(d1:x.depth<=d)(d2:y.depth<=d)(h1:IsT s.heap x u)(h2:IsT s.heap y v)(e:gw x y=ba k)
  (hc:G2 c x y)
  (hq:Q k s):wpAny (model prog w) A (keyLt' (rq c) u v) Q E s:=by
 have tup:∀b:Il,(∃f g,aX x=ba f/\aX y=ba g/\(b=true->(eP f = "int"/\eP g = "int")\/(eP f = "str"/\eP g = "str")))->wpAny (model prog w) A (keyLt' (tuples' b) u v) Q E s:=by
  rintro b ⟨f,g,hf,hg,hb⟩;cases h1 with
  | int=>cases hf
  | str=>cases hf
  | @tup xs a o items n a1 c1 e1 t1=>
   cases h2 with
   | int=>cases hg
   | str=>cases hg
   | @tup ys a' o' items' n' a2 c2 e2 t2=>
    simp only[T.depth]at d1 d2;refine PySem.W.kat_lt a1 e1 a2 e2 ?_;have:=nT (prog:=prog) (w:=w) (b:=b) (Q:=Q) hu xs ys items.toList items'.toList 0 k ∅ ∅ t1 t2 e (λhb' _ p q hp hq'=>by
     cases xs with
     | nil=>cases hp
     | cons x0 xs=>cases ys with
      | nil=>cases hq'
      | cons y0 ys=>cases hp; cases hq'; cases hf; cases hg; exact hb hb') hq
    simpa using this
 match c,hc with
 | 0,#[hx,hy]=>
  cases h1 with
  | int=>cases h2 with
   | int=>cases e; exact PySem.W.kat_lt_int hq
   | _=>exact absurd hy (by simp[eP])
  | _=>exact absurd hx (by simp[eP])
 | 1,#[hx,hy]=>
  cases h1 with
  | str=>cases h2 with
   | str=>cases e; exact PySem.W.kas_lt_str hq
   | _=>exact absurd hy (by simp[eP])
  | _=>exact absurd hx (by simp[eP])
 | 2,#[f,g,h1',h2',h3,h4]=>exact tup true #[f,g,h1',h2',λ_=>.inl #[h3,h4]]
 | 3,#[f,g,h1',h2',h3,h4]=>exact tup true #[f,g,h1',h2',λ_=>.inr #[h3,h4]]
 | n+4,#[f,g,h1',h2']=>exact tup false #[f,g,h1',h2',λz=>nomatch z]
end
def rB {ks:Hr T}{c:HB}(h:qb ks=ba c){x y:T}(hx:x∈ks)(hy:y∈ks) :
  G2 c x y:=by
 have one:∀ {ty:Jy},ks.all (λk=>eP k==ty)=true->eP x=ty/\eP y=ty:=λha=>#[eq_of_beq (Ig.mp ha x hx),eq_of_beq (Ig.mp ha y hy)]
 have fst:∀ {ty:Jy},ks.all (λk=>(aX k).any λf=>eP f==ty)=true->∃f g,aX x=ba f/\aX y=ba g/\eP f=ty/\eP g=ty:=λ{ty} ha=>by
  have h1:=Ig.mp ha x hx;have h2:=Ig.mp ha y hy;cases e1:aX x with
  | none=>rw[e1]at h1; cases h1
  | some f=>
   cases e2:aX y with
   | none=>rw[e2]at h2; cases h2
   | some g=>
    rw[e1]at h1; rw[e2]at h2
    exact#[f,g,rfl,rfl,eq_of_beq (by simpa using h1),eq_of_beq (by simpa using h2)]
 unfold qb at h;split at h
 ·cases h; exact one (by assumption)
 ·split at h
  ·cases h; exact one (by assumption)
  ·split at h
   ·cases h; exact fst (by assumption)
   ·split at h
    ·cases h; exact fst (by assumption)
    ·split at h
     ·cases h;obtain⟨f,g,h1,h2,_⟩:=fst (by assumption)
      exact#[f,g,h1,h2]
     ·cases h
abbrev du (S:aa):W->HA (Hr W)
 | .tup xs=>ba xs
 | .ref i=>match eO S i with
  | some xs=>ba xs
  | none=>(iA S i).map λU=>U.map λp=>p.1.w
 | _=>gV
abbrev bC:HB:=8
abbrev gx (ks:Hr T):Il:=decide (ks.length < 64)&&decide (T.depths ks<=bC)&&(decide (ks.length < 2)||((qb ks).isSome&&eg ks))
abbrev eD (xs:Hr W)(S:aa):HA (W×aa):=match xs with
 | [x]=>match du S x with
  | some ws=>match W.ts ws with
   | some ks=>if gx ks then ba (.ref S.length,S++[.lst (cN (kz ks) .non ws)])else gV
   | none=>gV
  | none=>gV
 | _=>gV
abbrev lc (xs:Hr W)(S:aa):HA (W×aa):=match xs with
 | [.ref i]=>match iA S i with
  | some U=>ba (.ref S.length,S++[.lst (U.map λp=>p.1.w)])
  | none=>fW [.ref i] S
 | xs=>fW xs S
abbrev nU (xs:Hr W)(S:aa):HA (W×aa):=match xs with
 | [.ref i]=>match iA S i with
  | some U=>ba (.int U.length,S)
  | none=>ny [.ref i] S
 | xs=>ny xs S
abbrev jH (ks:Hr T):HB:=argBest (kz ks) (ks.length - 1)
abbrev vI (xs:Hr W)(S:aa):HA (W×aa):=match xs with
 | [.ref i]=>match eO S i with
  | some ws=>match W.ts ws with
   | some ks=>if T.depths ks<=bC/\eg ks=true then(ws[jH ks]?).map λw=>(w,S)else gV
   | none=>gV
  | none=>gV
 | _=>gV
abbrev gy:Hr W->HA (Hr Il)
 | []=>ba []
 | .bl b::ws=>(gy ws).map (b :: ·)
 | _::_=>gV
abbrev B6 (xs:Hr W)(S:aa):HA (W×aa):=match xs with
 | [.ref i]=>match eO S i with
  | some ws=>(gy ws).map λbs=>(.bl (bs.all id),S)
  | none=>gV
 | _=>gV
section
variable{X:Cx}{J:Hr (HD×JJ)}{Y:L2.St}{H:Hp}{s:Hw}{A:Hr HD}{S:aa}
def RelL.pick {K:HG}{ws:Hr W}{vs:Hr V}(r:RelL K A H ws vs)(d:W)(d':V):∀(is:Hr HB),(∀i∈is,i < ws.length)->RelL K A H (is.map λi=>ws.getD i d) (is.map λi=>vs.getD i d')
 | [],_=>.nil
 | i::is,h=>by
  have hi:=h i (.head _);obtain⟨v,h1,h2⟩:=r.get (HC hi);refine .cons ?_ (RelL.pick r d d' is λj hj=>h j (.tail _ hj))
  have e1:ws.getD i d=ws[i]:=by simp[hi]
  have e2:vs.getD i d'=v:=by simp[h1]
  show Rel K A H (ws.getD i d) (vs.getD i d');rw[e1,e2]; exact h2
def Vals.pick {vs:Hr V}{us:Hr Hu}(r:Vals vs us)(d:V)(d':Hu):∀(is:Hr HB),(∀i∈is,i < vs.length)->Vals (is.map λi=>vs.getD i d) (is.map λi=>us.getD i d')
 | [],_=>.nil
 | i::is,h=>by
  have hi:=h i (.head _);obtain⟨v,h1,h2⟩:=L2.Vals.get r (HC hi);refine .cons ?_ (Vals.pick r d d' is λj hj=>h j (.tail _ hj))
  have e1:vs.getD i d=vs[i]:=by simp[hi]
  have e2:us.getD i d'=v:=by simp[h1]
  show L2.RelV (vs.getD i d) (us.getD i d');rw[e1,e2]; exact h2
def ji {n:HB}{lt:HB->HB->Il}(hn:0 < n):∀i∈(bo lt (K1 n)).toList,i < n:=λi hi=>IU.mp ((mh (lt:=lt) (jh hn)).mem_iff.mp hi)
def vJ {K:HG}{lt:HB->HB->Il}{ws:Hr W}{vs:Hr V}(r:RelL K A H ws vs):RelL K A H (cN lt .non ws) (cN lt .non vs):=by
 unfold cN;rw[r.length];split
 ·exact r
 ·exact r.pick _ _ _ λi hi=>by rw[r.length]; exact ji ∅ i hi
def tD {lt:HB->HB->Il}{vs:Hr V}{us:Hr Hu}(r:Vals vs us):Vals (cN lt .non vs) (cN lt .none us):=by
 unfold cN;rw[L2.Vals.length r];split
 ·exact r
 ·exact Vals.pick r _ _ _ λi hi=>by rw[L2.Vals.length r]; exact ji ∅ i hi
def nV {prog:Iw}{w:IE}{B:IB}{E:Hu->Hw->Prop}{l:HD}{vs:Hr Hu}{Q:Hr Hu->Hw->Prop}(hl:Oz s.heap l vs.toArray)(hsz:vs.length<=sizeLine)
  (h:∀h' tk,(∀b o,s.heap.get? b=ba o->h'.get? b=ba o)->s.heap.objs.size<=h'.objs.size->Q vs { s with heap:=h',toks:=tk }):wpAny (model prog w) B (collect (.ref l)) Q E s:=by
 obtain⟨o,ho,hc,n,hd⟩:=id hl;unfold collect;refine Hs (Lj (Jf entry_proto_collect' ?_));show wpAny _ _ (do again (.builtin "list.__iadd__" #[[<- newList [],.ref l],[]])) _ _ s
 refine Hs (M7 (Hx #[MH _ (by decide +kernel),Jf entry_list_iadd' ?_]))
 show wpAny _ _ (JI (.ref s.heap.objs.size) (.ref l) (.ref s.heap.objs.size)) _ _ { s with heap:=s.heap.push (seqObj "list" #[] 0) }
 unfold JI;have ho':(s.heap.push (seqObj "list" #[] 0)).get? l=ba o:=Ht _ ho;refine Hs (K6 (T:="tuple") #[o,ho',hc] ?_);have ht:(JE "tuple" == JE "tuple")=true:=by rfl
 rw[Ic (by rw[ht]; simp)]
 refine Hs (OR ho' hd ?_);refine Hs (OR (xs:=#[]) (n:=0) (HI _ rfl) rfl ?_);rw[Im (by simp)]
 refine Hs (M6 (xs:=#[]) (n:=0) (HI _ rfl) rfl ?_ (Jx _) (by show(#[]++vs.toArray).size<=sizeLine+1; simp only[Array.size_append,HL,J8]; omega))
 refine Hx ?_;show wpAny (model prog w) B (do
   let o <- load s.heap.objs.size
   match o.data with
   | .seq xs _=>pure xs.toList
   | _=>unsupported "internal:collect") Q E { s with heap:=(s.heap.push (seqObj "list" #[] 0)).update s.heap.objs.size (JA (· ++ vs.toArray)) }
 refine Hs (Nh (Nw (HI _ rfl) _) ?_);show wpAny _ _ (pure ((#[]:Ik Hu)++vs.toArray).toList) Q E _;rw[show((#[]:Ik Hu)++vs.toArray).toList=vs by simp]
 refine Hx (h _ s.toks (λb o' e=>(LA _ _ _ _ (HV (HP e))).trans (Ht _ e)) ?_)
 rw[O8,size_push'];exact KH _
def DicAt.raw {wd:IE}{a:HD}{xs:Hr (T×HD×Hu)}{h:IJ}(d:DicAt wd a xs h):∃es ep,RawD a es ep h/\es.toList=xs.map (u9 wd):=
 let ⟨_,_,_,o,es,ep,h1,h2,h3,h4⟩:=d; #[es,ep,#[o,h1,h2,h3],h4]
def KRel.keysL {U:Hr (T×W)}{xs:Hr (T×HD×Hu)}(r:KRel X.K A H U xs):RelL X.K A H (U.map λp=>p.1.w) (xs.map λq=>V.ref q.2.1):=by
 unfold KRel at r
 induction r with
 | nil=>exact .nil
 | cons h t ih=>exact .cons h.2.2.2.1 ih
def lf (xs:Hr (T×HD×Hu)):Vals (xs.map λq=>V.ref q.2.1) (xs.map λq=>IA q.2.1):=by
 induction xs with
 | nil=>exact .nil
 | cons x xs ih=>exact .cons rfl ih
def jI {wd:IE}{es:Ik Kj}{xs:Hr (T×HD×Hu)}(he:es.toList=xs.map (u9 wd)){acc:Ik Hu}(ha:Nm (λi v=>∃e,es[i]?=ba e/\e.key=v) acc es.size):acc.toList=xs.map λq=>IA q.2.1:=by
 have hl:es.size=xs.length:=by rw[<- HS,he,Hv]
 apply L4
 ·rw[HS,ha.1,Hv,hl]
 ·intro i h1 h2;rw[HS]at h1;obtain⟨e,q1,q2⟩:=ha.2 i acc[i] (by simp[h1])
  rw[<- Jd,he,HF]at q1;rw[Hv]at h2;rw[HC h2]at q1;simp only[IK,Iv]at q1;subst q1;rw[O9,L8];exact q2.symm
def tF {x:W}{a:V}{u:Hu}{ws:Hr W}(hh:X.A.handled=gV)(I:Inv X J Y H s)(so:StoreOk X.w X.K A H S)(rx:Rel X.K A H x a)(ru:RelV a u)(e:du S x=ba ws):∃vs us,RelL X.K A H ws vs/\Vals vs us/\us.length<=sizeLine/\
  ∀(B:IB) (hB:B.handled=gV) (E:Hu->Hw->Prop) (Q':Hr Hu->Hw->Prop),(∀h' tk,(∀b o,s.heap.get? b=ba o->h'.get? b=ba o)->s.heap.objs.size<=h'.objs.size->Q' us { s with heap:=h',toks:=tk })->wpAny (model X.prog X.w) B (collect u) Q' E s:=by
 cases rx with
 | tup h1 r1=>
  cases e;obtain⟨its,rv,ht,hz⟩:=I.tuple h1;obtain rfl:u=IA _:=ru;exact#[_,its,r1,rv,by rw[<- L2.Vals.length rv]; exact hz,λB hB E Q' h=>nV ht (by rw[<- L2.Vals.length rv]; exact hz) h]
 | ref ea=>
  simp only[du]at e;split at e
  ·rename_i xs hx;cases e;obtain⟨vs,h1,r1⟩:=aR so hx ea;obtain⟨its,rv,p,hz⟩:=I.list h1;obtain rfl:u=IA _:=ru;refine#[_,its,r1,rv,by rw[<- L2.Vals.length rv]; exact hz,λB hB E Q' h=>collect_list p.isList (h _ s.toks (λb o' e=>(LA _ _ _ _ (HV (HP e))).trans (Ht _ e)) ?_) (by rw[<- L2.Vals.length rv]; exact hz)]
   rw[O8,size_push'];exact KH _
  ·rw[Hy]at e;obtain⟨U,hk,rfl⟩:=e;obtain⟨xs,rd,kr⟩:=eZ so hk ea;have d:=bO I rd;obtain⟨es,ep,raw,he⟩:=d.raw;obtain rfl:u=IA _:=ru;have hl:es.size=xs.length:=by rw[<- HS,he,Hv]
   refine#[_,_,kr.keysL,lf xs,by rw[Hv]; exact d.1,λB hB E Q' h=>nQ (rm d.2.1) hB raw (by rw[hl]; exact d.1) λh' tk acc hk' hle ha=>?_]
   rw[jI he ha];exact h h' tk hk' hle
 | _=>cases e
def lg {h':IJ}{tk c:HB}{D:HD}{ws:Hr W}{vs:Hr V}{us:Hr Hu}(I:Inv X J Y H s)(so:StoreOk X.w X.K A H S)(r:RelL X.K A H ws vs)(rv:Vals vs us)(hz:us.length<=sizeLine)(hk:∀b o,s.heap.get? b=ba o->h'.get? b=ba o)(hD:s.heap.objs.size<=D)
  (ho:h'.get? D=ba { cls:=.type "list",data:=.seq us.toArray c }):cY X J Y A H (S++[.lst ws]) (.ref S.length) (.ref D) { s with heap:=h',toks:=tk }:=by
 have hn:H D=gV:=I.hok.fresh hD;refine#[.ref D,_,A++[D],I.laid (a:=D) (o:=.lst vs) (t':=tk) hk hD #[by rw[L2.Vals.length rv]; exact hz,us,c,rv,ho],rfl,bY hn,so.push hn r,.ref ?_]
 rw[<- so.len]; simp
def mj (hh:X.A.handled=gV)(hu:X.A.units+12 < cLine):LCall X (.builtin "sorted") eD:=by
 intro J s Y H A S xs vs us w S' I so rl rv e;cases rl with
 | nil=>cases e
 | cons r t=>
  cases t with
  | cons _ _=>cases e
  | nil=>
   cases rv with
   | cons ru rv2=>
    cases rv2;simp only[eD]at e;split at e
    ·rename_i ws hw;split at e
     ·rename_i ks hk;split at e
      ·rename_i hok;cases e;obtain⟨vs',us',r1,rv1,hz,hcol⟩:=tF hh I so r ru hw;simp only[gx,Hz,HQ]at hok;obtain⟨⟨h64,hd⟩,hok⟩:=hok;have hws:T.ws ks=ws:=W.ts_w hk;have hT:IsTs s.heap ks us':=dM I ks (hws ▸ r1) rv1;have hl:us'.length=ks.length:=hT.length.symm;have sk:2<=us'.length->(qb ks).isSome=true/\eg ks=true:=λh2=>by
        rcases JY _ _ ▸ hok with h|h
        ·simp only[HQ]at h; omega
        ·simpa using h
       refine tB (vs:=us') (lt:=kz ks) (κ:=rq ((qb ks).getD 0)) ∅ (λQ' hQ'=>hcol X.A.in1 hh _ Q' hQ') (λh2 h' tk hk' Q hq=>?_) (λh2 h' tk hk' i j hi hj Q hq=>?_) λD h' tk c hk' hD ho=>?_
       ·obtain⟨q1,q2⟩:=sk h2;obtain⟨c,hc⟩:=Jh.mp q1;rw[hc]at hq;exact vH (s:={ s with heap:=h',toks:=tk }) (hT.kept λb o _ e=>hk' b o e) h2 hc hq
       ·obtain⟨q1,q2⟩:=sk h2;obtain⟨c,hc⟩:=Jh.mp q1;rw[hc];have hi':i < ks.length:=∅
        have hj':j < ks.length:=∅
        have g:=(hT.kept (h':=h') λb o _ e=>hk' b o e)
        have e1:us'.getD i IP=us'[i]:=by simp[hi]
        have e2:us'.getD j IP=us'[j]:=by simp[hj]
        rw[e1,e2];have b1:=bJ (ks:=ks) i hi';have b2:=bJ (ks:=ks) j hj';exact rA (s:={ s with heap:=h',toks:=tk }) (d:=bC) (c:=c) (by rw[aB,aB]; unfold bC; omega) ∅ ∅ (g.get i hi' hi) (g.get j hj' hj) (cU q2 hi' hj') (rB hc (IC hi') (IC hj')) hq
       ·exact lg I so (vJ r1) (tD rv1) (by rw[nS]; exact hz) hk' hD ho
      ·cases e
     ·cases e
    ·cases e
def nW (hh:X.A.handled=gV):LCall X (.type "list") lc:=by
 intro J s Y H A S xs vs us w S' I so rl rv e
 by_cases hd:∃i U,xs=[.ref i]/\iA S i=ba U
 ·obtain⟨i,U,rfl,hk⟩:=hd;simp only[lc,hk]at e;cases e;cases rl with
  | cons r t=>
   cases t;cases rv with
   | cons ru rv2=>
    cases rv2;cases r with
    | ref ea=>
     obtain⟨xs,rd,kr⟩:=eZ so hk ea;have d:=bO I rd;obtain⟨es,ep,raw,he⟩:=d.raw;obtain rfl:_=IA _:=ru;have hl:es.size=xs.length:=by rw[<- HS,he,Hv]
     refine PySem.W.kdl_call (rm d.2.1) hh raw (by rw[hl]; exact d.1) λh' tk acc' c' hk' hD ha=>?_
     have ea':=jI he ha;refine lg (us:=acc'.toList) I so kr.keysL (ea' ▸ lf xs) (by rw[ea',Hv]; exact d.1) hk' (HE _) (c:=c') ?_
     simpa using hD
 ·have:lc xs S=fW xs S:=by
   unfold lc;split
   ·rename_i i;split
    ·rename_i U hk;exact absurd #[i,U,rfl,hk] hd
    ·rfl
   ·rfl
  rw[this]at e;exact gv J s Y H A S xs vs us w S' I so rl rv e
end
open PySem.W (KasT kas_sort kas_asc kas_desc kas_tail3 kas_descPart kas_count kas_place kas_bin kas_rev)
def dj {α β:Type}{lt:HB->HB->Il}{f:α->KasT β}:∀t:KasT α,bo lt (t.bind f)=bo lt (f (bo lt t))
 | .ret _=>rfl
 | .ask i j k=>dj (k (lt i j))
structure Lin (n:HB)(lt:HB->HB->Il):Prop where
 tr:∀i j k,i < n->j < n->k < n->lt i j=true->lt j k=true->lt i k=true
 as:∀i j,i < n->j < n->lt i j=true->lt j i=false
 to:∀i j,i < n->j < n->i≠j->lt j i=false->lt i j=true
abbrev gt (p:Ik HB)(i:HB):HB:=p.getD i 0
def iC {p:Ik HB}{i:HB}:gt p i=(p[i]?).getD 0:=by unfold gt; simp[Array.getD_eq_getD_getElem?]
def Pm.inj {n:HB}{p:Ik HB}(h:Pm n p){i j:HB}(hi:i < n)(hj:j < n)(hne:i≠j):gt p i≠gt p j:=by
 have nd:p.toList.Nodup:=h.nodup_iff.mpr Pa;have hi':i < p.toList.length:=by rw[HS,h.size]; exact hi
 have hj':j < p.toList.length:=by rw[HS,h.size]; exact hj
 intro e;have e1:gt p i=p.toList[i]:=by unfold gt; simp[LJ,h.size,hi]
 have e2:gt p j=p.toList[j]:=by unfold gt; simp[LJ,h.size,hj]
 rw[e1,e2]at e;have pw:=Kz.mp nd;rcases Ov hne with h|h
 ·exact pw i j hi' hj' h e
 ·exact pw j i hj' hi' h e.symm
abbrev Up (lt:HB->HB->Il)(p:Ik HB)(m:HB):Prop:=∀i j,i < j->j < m->lt (gt p i) (gt p j)=true
section
variable{n:HB}{lt:HB->HB->Il}(L:Lin n lt)
include L
def Up.more {p:Ik HB}{a:HB}(hp:Pm n p)(ha:1<=a)(han:a < n)(h:Up lt p a)(hl:lt (gt p (a - 1)) (gt p a)=true):Up lt p (a+1):=by
 have hn:0 < n:=∅
 intro i j hij hj
 by_cases e:j=a
 ·subst e
  by_cases e2:i=j - 1
  ·subst e2; exact hl
  ·exact L.tr _ _ _ (hp.lt hn _) (hp.lt hn _) (hp.lt hn _) (h i (j - 1) ∅ ∅) hl
 ·exact h i j hij ∅
def qc {p:Ik HB}(hp:Pm n p):∀(f a:HB),1<=a->a+f=n->Up lt p a->Up lt p (bo lt (kas_asc p f a))/\a<=bo lt (kas_asc p f a)/\bo lt (kas_asc p f a)<=n/\(bo lt (kas_asc p f a) < n->lt (gt p (bo lt (kas_asc p f a))) (gt p (bo lt (kas_asc p f a) - 1))=true)
 | 0,a,h1,h2,h=>#[h,HE _,by show a<=n; omega,λz=>by have:a < n:=z; omega]
 | f+1,a,h1,h2,h=>by
  have hn:0 < n:=∅
  have e:bo lt (kas_asc p (f+1) a)=bo lt (if lt (gt p a) (gt p (a - 1))=true then .ret a else kas_asc p f (a+1)):=rfl
  rw[e];cases c:lt (gt p a) (gt p (a - 1))with
  | true=>exact#[h,HE _,by show a<=n; omega,λ_=>c]
  | false=>
   have l:lt (gt p (a - 1)) (gt p a)=true:=L.to _ _ (hp.lt hn (a - 1)) (hp.lt hn a) (hp.inj ∅ ∅ ∅) c
   obtain⟨q1,q2,q3,q4⟩:=qc hp f (a+1) ∅ ∅ (Up.more L hp h1 ∅ h l)
   exact#[q1,by show a<=bo lt (kas_asc p f (a+1)); omega,q3,q4]
abbrev Dn (lt:HB->HB->Il)(p:Ik HB)(m:HB):Prop:=∀i j,i < j->j < m->lt (gt p j) (gt p i)=true
def rC {p:Ik HB}(hp:Pm n p):∀(f a:HB),1<=a->a+f=n->Dn lt p a->∃m,bo lt (kas_desc f p a 0)=(p,m,0)/\a<=m/\m<=n/\Dn lt p m
 | 0,a,h1,h2,h=>#[a,rfl,HE _,∅,h]
 | f+1,a,h1,h2,h=>by
  have hn:0 < n:=∅
  have e:bo lt (kas_desc (f+1) p a 0)=bo lt (if lt (gt p a) (gt p (a - 1))=true then(if 0 > 0 then kas_desc f (kas_rev p (a - (0+1)) a) (a+1) 0 else kas_desc f p (a+1) 0)else .ask (gt p (a - 1)) (gt p a) λd=>if d=true then .ret (p,a,0)else kas_desc f p (a+1) (0+1)):=rfl
  rw[e];cases c:lt (gt p a) (gt p (a - 1))with
  | true=>
   obtain⟨m,q1,q2,q3,q4⟩:=rC hp f (a+1) ∅ ∅ λi j hij hj=>by
    by_cases e:j=a
    ·subst e
     by_cases e2:i=j - 1
     ·subst e2; exact c
     ·exact L.tr _ _ _ (hp.lt hn _) (hp.lt hn _) (hp.lt hn _) c (h i (j - 1) ∅ ∅)
    ·exact h i j hij ∅
   exact#[m,q1,∅,q3,q4]
  | false=>
   have l:lt (gt p (a - 1)) (gt p a)=true:=L.to _ _ (hp.lt hn (a - 1)) (hp.lt hn a) (hp.inj ∅ ∅ ∅) c
   refine#[a,?_,HE _,∅,h]
   show bo lt (if lt (gt p (a - 1)) (gt p a)=true then .ret (p,a,0)else kas_desc f p (a+1) (0+1))=_
   rw[l]; rfl
omit L in
def B7 {p:Ik HB}{m:HB}(hp:Pm n p)(hm:m<=n)(h:Dn lt p m):Up lt (kas_rev p 0 m) m:=by
 intro i j hij hj;have g:∀k,k < m->gt (kas_rev p 0 m) k=gt p (m - 1 - k):=λk hk=>by
  rw[iC,iC];show((mirror p 0 m ((m - 0) / 2))[k]?).getD 0=_;rw[getElem?_mirror_all (by rw[hp.size]; exact hm),Ic #[Jx _,hk],Nat.zero_add]
 rw[g i ∅,g j hj]
 exact h _ _ ∅ ∅
def vK {p:Ik HB}(hp:Pm n p)(hn:1<=n):∃m p',bo lt (kas_count n p)=(m,p')/\Pm n p'/\1<=m/\m<=n/\Up lt p' m:=by
 unfold kas_count;rw[dj];obtain⟨q1,q2,q3,q4⟩:=qc L hp (n - 1) 1 (HE _) ∅ λi j hij hj=>∅
 generalize bo lt (kas_asc p (n - 1) 1)=m at q1 q2 q3 q4
 by_cases hm:m=n
 ·subst hm;rw[Ic (IS _)];exact#[m,p,rfl,hp,q2,HE _,q1]
 ·rw[Im (by simp[hm])]
  by_cases h1:m > 1
  ·rw[Ic h1];have l:=q1 0 (m - 1) ∅ ∅
   refine#[m,p,?_,hp,q2,q3,q1];show bo lt (if lt (gt p 0) (gt p (m - 1))=true then .ret (m,p)else kas_descPart m n (kas_rev p 0 m))=_
   rw[l]; rfl
  ·rw[Im h1];obtain rfl:m=1:=∅
   unfold kas_descPart;rw[dj];have l:=q4 ∅
   obtain⟨m,e,r1,r2,r3⟩:=rC L hp (n - (1+1)) (1+1) ∅ ∅ λi j hij hj=>by
    obtain rfl:j=1:=∅
    obtain rfl:i=0:=∅
    exact l
   rw[e];dsimp only;rw[Im ∅]
   unfold kas_tail3;rw[dj];have hp':Pm n (kas_rev p 0 m):=hp.rev 0 m;obtain⟨z1,z2,z3,z4⟩:=qc L hp' (n - m) m ∅ ∅ (B7 hp r2 r3)
   exact#[_,_,rfl,hp',∅,z3,z1]
def jJ {p:Ik HB}{k:HB}(hp:Pm n p)(hk:k < n)(hu:Up lt p k):∀(f l r:HB),l<=r->r<=k->r - l<=f->(∀i,i < l->lt (gt p i) (gt p k)=true)->(∀i,r<=i->i < k->lt (gt p k) (gt p i)=true)->
  ∃m,bo lt (kas_place p k f l r)=m/\m<=k/\(∀i,i < m->lt (gt p i) (gt p k)=true)/\(∀i,m<=i->i < k->lt (gt p k) (gt p i)=true)
 | 0,l,r,h1,h2,h3,ha,hb=>#[l,rfl,∅,ha,λi hi=>hb i ∅]
 | f+1,l,r,h1,h2,h3,ha,hb=>by
  have hn:0 < n:=∅
  unfold kas_place
  by_cases hge:l>=r
  ·rw[Ic hge];exact#[l,rfl,∅,ha,λi hi=>hb i ∅]
  ·rw[Im hge];show ∃m,bo lt (if lt (gt p k) (gt p ((l+r) / 2))=true then kas_place p k f l ((l+r) / 2)else kas_place p k f ((l+r) / 2+1) r)=m/\_
   cases c:lt (gt p k) (gt p ((l+r) / 2))with
   | true=>
    rw[Ic rfl];refine jJ hp hk hu f l ((l+r) / 2) ∅ ∅ ∅ ha λi hi hik=>?_
    by_cases e:i=(l+r) / 2
    ·rw[e]; exact c
    ·exact L.tr _ _ _ (hp.lt hn _) (hp.lt hn _) (hp.lt hn _) c (hu _ _ ∅ hik)
   | false=>
    rw[Im Ih];have l':=L.to _ _ (hp.lt hn ((l+r) / 2)) (hp.lt hn k) (hp.inj ∅ ∅ ∅) c
    refine jJ hp hk hu f ((l+r) / 2+1) r ∅ h2 ∅ (λi hi=>?_) hb
    by_cases e:i=(l+r) / 2
    ·rw[e]; exact l'
    ·exact L.tr _ _ _ (hp.lt hn _) (hp.lt hn _) (hp.lt hn _) (hu i ((l+r) / 2) ∅ ∅) l'
def vL:∀(f:HB) (p:Ik HB) (k:HB),Pm n p->k+f=n->Up lt p k->Pm n (bo lt (kas_bin f p k))/\Up lt (bo lt (kas_bin f p k)) n
 | 0,p,k,hp,h,hu=>by
  have:k=n:=∅
  exact#[hp,this ▸ hu]
 | f+1,p,k,hp,h,hu=>by
  unfold kas_bin;rw[dj];obtain⟨m,e,h1,ha,hb⟩:=jJ L hp ∅ hu k 0 k (Jx _) (HE _) ∅ (λi hi=>∅) λi h1 h2=>∅
  rw[e];refine vL f _ (k+1) (hp.bub _ _) ∅ λi j hij hj=>?_
  have g:∀i,gt (bubble p k (k - m)) i=if i=m then gt p k else if m < i/\i<=k then gt p (i - 1)else gt p i:=λi=>by
   rw[iC,iC,iC,iC,getElem?_bubble (by rw[hp.size]; omega) _ ∅,show k - (k - m)=m by omega]
   split
   ·rfl
   ·split <;> rfl
  rw[g,g]
  repeat' split
  all_goals first
   | (exfalso; omega)
   | exact ha _ ∅
   | exact hb _ ∅ ∅
   | exact hu _ _ ∅ ∅
def zh (hn:1<=n):Pm n (bo lt (kas_sort n))/\Up lt (bo lt (kas_sort n)) n:=by
 unfold kas_sort;rw[dj];obtain⟨m,p',e,h1,h2,h3,h4⟩:=vK L (p:=(Ix n).toArray) (by unfold Pm; simp) hn
 rw[e];dsimp only
 by_cases hm:m < n
 ·rw[Ic hm];have:max m 1=m:=∅
  rw[this];exact vL L _ _ _ h1 ∅ h4
 ·rw[Im hm];have:m=n:=∅
  exact#[h1,this ▸ h4]
end
end Mi
namespace Mi
open PySem PySem.Spec PyProof.Rows L2
mutual
theorem iD:∀x y:T,dH x=true->gw x y=ba true->gw y x=ba false
 | .int a,.int b,_,h=>by
  dsimp only[gw]at h; simp only[Iv,HQ]at h
  dsimp only[gw]; simp only[Iv,LO]
  omega
 | .str _,_,h,_=>by cases h
 | .tup xs,.tup ys,hn,h=>rD xs ys hn h
 | .int _,.str _,_,h|.int _,.tup _,_,h|.tup _,.int _,_,h|.tup _,.str _,_,h=>by cases h
theorem rD:∀xs ys:Hr T,bV xs=true->bK xs ys=ba true->bK ys xs=ba false
 | [],[],_,h=>by cases h
 | [],_::_,_,_=>rfl
 | _::_,[],_,h=>by cases h
 | x::xs,y::ys,hn,h=>by
  simp only[bV,Hz]at hn;dsimp only[bK]at h ⊢
  by_cases e:x=y
  ·rw[Ic e]at h;rw[Ic e.symm];exact rD xs ys hn.2 h
  ·rw[Im e]at h;rw[Im (Ne.symm e)];exact iD x y hn.1 h
end
mutual
theorem qd:∀x y:T,dH x=true->x≠y->gw y x=ba false->gw x y=ba true
 | .int a,.int b,_,hne,h=>by
  dsimp only[gw]at h; simp only[Iv,LO]at h
  dsimp only[gw]; simp only[Iv,HQ]
  have:a≠b:=λe=>hne (e ▸ rfl)
  omega
 | .str _,_,h,_,_=>by cases h
 | .tup xs,.tup ys,hn,hne,h=>rE xs ys hn (λe=>hne (e ▸ rfl)) h
 | .int _,.str _,_,_,h|.int _,.tup _,_,_,h|.tup _,.int _,_,_,h|.tup _,.str _,_,_,h=>by cases h
theorem rE:∀xs ys:Hr T,bV xs=true->xs≠ys->bK ys xs=ba false->bK xs ys=ba true
 | [],[],_,h,_=>absurd rfl h
 | [],_::_,_,_,_=>rfl
 | _::_,[],_,_,h=>by cases h
 | x::xs,y::ys,hn,hne,h=>by
  simp only[bV,Hz]at hn;dsimp only[bK]at h ⊢
  by_cases e:x=y
  ·rw[Ic e.symm]at h;rw[Ic e];exact rE xs ys hn.2 (λz=>hne (by rw[e,z])) h
  ·rw[Im (Ne.symm e)]at h;rw[Im e];exact qd x y hn.1 e h
end
mutual
theorem qf:∀x y z:T,dH x=true->dH y=true->gw x y=ba true->gw y z=ba true->gw x z=ba true
 | .int a,.int b,.int c,_,_,h,h'=>by
  dsimp only[gw]at h h' ⊢; simp only[Iv,HQ]at h h' ⊢
  omega
 | .tup xs,.tup ys,.tup zs,hn,hn',h,h'=>rF xs ys zs hn hn' h h'
 | .str _,_,_,h,_,_,_=>by cases h
 | .int _,.str _,_,_,_,h,_|.int _,.tup _,_,_,_,h,_|.tup _,.int _,_,_,_,h,_|.tup _,.str _,_,_,_,h,_=>by cases h
 | .int _,.int _,.str _,_,_,_,h|.int _,.int _,.tup _,_,_,_,h|.tup _,.tup _,.int _,_,_,_,h|.tup _,.tup _,.str _,_,_,_,h=>by cases h
theorem rF:∀xs ys zs:Hr T,bV xs=true->bV ys=true->bK xs ys=ba true->bK ys zs=ba true->bK xs zs=ba true
 | [],[],_,_,_,h,_=>by cases h
 | _::_,[],_,_,_,h,_=>by cases h
 | _,_::_,[],_,_,_,h=>by cases h
 | [],_::_,_::_,_,_,_,_=>rfl
 | x::xs,y::ys,z::zs,hn,hn',h,h'=>by
  simp only[bV,Hz]at hn hn';dsimp only[bK]at h h' ⊢
  by_cases e:x=y
  ·subst e;rw[Ic rfl]at h
   by_cases e':x=z
   ·rw[Ic e']at h' ⊢;exact rF xs ys zs hn.2 hn'.2 h h'
   ·rw[Im e']at h' ⊢;exact h'
  ·rw[Im e]at h
   by_cases e':y=z
   ·subst e';rw[Im e];exact h
   ·rw[Im e']at h';have t:=qf x y z hn.1 hn'.1 h h';have e2:x≠z:=λe2=>by
     subst e2;have:=iD x x hn.1 t;rw[t]at this; cases this
    rw[Im e2];exact t
end
abbrev Fo (ks:Hr T):Prop:=ks.Pairwise λx y=>gw x y=ba true
abbrev dN (ks:Hr T):Hr T:=cN (kz ks) (.int 0) ks
structure Nice (ks:Hr T):Prop where
 num:∀x∈ks,dH x=true
 lt:eg ks=true
 nd:ks.Nodup
def Nice.lin {ks:Hr T}(h:Nice ks):Lin ks.length (kz ks):=by
 have nm:∀i (hi:i < ks.length),dH ks[i]=true:=λi hi=>h.num _ (IC hi)
 refine#[λi j k hi hj hk a b=>?_,λi j hi hj a=>?_,λi j hi hj hne a=>?_]
 ·have e1:=cU h.lt hi hj;have e2:=cU h.lt hj hk;have e3:=cU h.lt hi hk;rw[a]at e1; rw[b]at e2
  rw[qf _ _ _ (nm i hi) (nm j hj) e1 e2]at e3;exact(Je e3).symm
 ·have e1:=cU h.lt hi hj;have e2:=cU h.lt hj hi;rw[a]at e1;rw[iD _ _ (nm i hi) e1]at e2;exact(Je e2).symm
 ·have e1:=cU h.lt hj hi;have e2:=cU h.lt hi hj;rw[a]at e1;have hne':ks[i]≠ks[j]:=λe=>by
   have pw:=Kz.mp h.nd;rcases Ov hne with q|q
   ·exact pw i j hi hj q e
   ·exact pw j i hj hi q e.symm
  rw[qd _ _ (nm i hi) hne' e1]at e2;exact(Je e2).symm
def eh {α:Type}{lt:HB->HB->Il}{d:α}{xs:Hr α}:(cN lt d xs).Perm xs:=by
 unfold cN;split
 ·exact .refl _
 ·have p:Pm xs.length (bo lt (K1 xs.length)):=mh (jh ∅)
  refine(Ry _ p).trans ?_;have:(Ix xs.length).map (λi=>xs.getD i d)=xs:=by
   apply L4
   ·simp
   ·intro k h1 h2; simp[h2]
  rw[this]
def gU {ks:Hr T}(h:Nice ks):Fo (dN ks):=by
 unfold dN cN Fo;split
 ·rename_i hl
  match ks,hl with
  | [],_=>exact .nil
  | [x],_=>simp
  | _::_::_,hl=>simp only[IW]at hl; omega
 ·rename_i hl;obtain⟨p,u⟩:=zh h.lin ∅
  rw[Kz];intro i j hi hj hij;rw[Hv,HS,p.size]at hi hj;have hn:0 < ks.length:=∅
  have l:=u i j hij hj;have e1:=cU h.lt (p.lt hn i) (p.lt hn j);have g:∀k (hk:k < ks.length),(bo (kz ks) (K1 ks.length)).getD k 0=(bo (kz ks) (K1 ks.length)).toList[k]'(by rw[HS,p.size]; exact hk):=λk hk=>by simp[LJ,p.size,hk]
  have l':kz ks ((bo (kz ks) (K1 ks.length)).getD i 0) ((bo (kz ks) (K1 ks.length)).getD j 0)=true:=l;rw[l']at e1;have gd:∀k (hk:k < ks.length),ks.getD k (.int 0)=ks[k]:=λk hk=>by simp[hk]
  simp only[O9];rw[<- g i hi,<- g j hj,gd _ (p.lt hn i),gd _ (p.lt hn j)];exact e1
def jK:∀ {a b:Hr T},(∀x∈a,dH x=true)->a.Perm b->Fo a->Fo b->a=b
 | [],b,_,p,_,_=>(Rm p)
 | x::a,[],_,p,_,_=>absurd p.length_eq (by simp)
 | x::a,y::b,hn,p,h,h'=>by
  have e:x=y:=by
   rcases HW.mp (p.mem_iff.mp (Jm))with e|e
   ·exact e
   ·rcases HW.mp (p.mem_iff.mpr (Jm))with e'|e'
    ·exact e'.symm
    ·have l1:=MT h e';have l2:=MT h' e;have:=iD _ _ (hn x (.head _)) l1;rw[l2]at this; cases this
  subst e;rw[jK (λz hz=>hn z (.tail _ hz)) ((List.perm_cons x).mp p) (MM.mp h).2 (MM.mp h').2]
def Nice.of_sub {ks us:Hr T}(h:Nice ks)(hs:∀x∈us,x∈ks)(hd:us.Nodup):Nice us:=by
 refine#[λx hx=>h.num x (hs x hx),?_,hd]
 have:=h.lt;unfold eg at this ⊢;rw[Ig]at this ⊢;intro x hx;have h2:=this x (hs x hx);rw[Ig]at h2 ⊢;exact λy hy=>h2 y (hs y hy)
def tH {us ks:Hr T}(h:Nice ks)(p:us.Perm ks):dN us=dN ks:=by
 have hu:Nice us:=h.of_sub (λx hx=>p.mem_iff.mp hx) (p.nodup_iff.mpr h.nd)
 have pu:(dN us).Perm us:=eh;have pk:(dN ks).Perm ks:=eh;exact jK (λx hx=>hu.num x (pu.mem_iff.mp hx)) (pu.trans (p.trans pk.symm)) (gU hu) (gU h)
def vM {us ks:Hr T}(h:Nice ks)(p:us.Sublist (dN ks)):dN us=us:=by
 have pk:(dN ks).Perm ks:=eh;have hu:Nice us:=h.of_sub (λx hx=>pk.mem_iff.mp (p.subset hx)) (p.nodup (pk.nodup_iff.mpr h.nd))
 have pu:(dN us).Perm us:=eh;exact jK (λx hx=>hu.num x (pu.mem_iff.mp hx)) pu (gU hu) ((gU h).sublist p)
mutual
noncomputable def lh:T->HM
 | .int i=>hashInt i
 | .str _=>0
 | .tup xs=>reduceHash (Lw (mo xs))
noncomputable def mo:Hr T->Hr HM
 | []=>[]
 | x::xs=>lh x::mo xs
end
mutual
theorem nX {w:IE}:∀x:T,dH x=true->dJ w x=lh x
 | .int _,_=>rfl
 | .str _,h=>by cases h
 | .tup xs,h=>by simp only[dJ,lh]; rw[li xs h]
theorem li {w:IE}:∀xs:Hr T,bV xs=true->gp w xs=mo xs
 | [],_=>rfl
 | x::xs,h=>by
  simp only[bV,Hz]at h;simp only[gp,mo];rw[nX x h.1,li xs h.2]
end
def nY {w:IE}:∀(ks:Hr T) (st:Ik (HM×T)×Jl),(∀x∈ks,dH x=true)->ks.foldlM (aW (dJ w)) st=ks.foldlM (aW lh) st
 | [],_,_=>rfl
 | x::ks,st,h=>by
  rw[KZ,KZ];have e:aW (dJ w) st x=aW lh st x:=by unfold aW; rw[nX x (h x (.head _))]
  rw[e];congr 1
  funext st'
  exact nY ks st' λy hy=>h y (.tail _ hy)
abbrev nZ (l:Il)(ks:Hr T):HA (Ik (HM×T)×Jl):=ks.foldlM (aW lh) (#[],.fresh 0 0 l)
abbrev iW (ks:Hr T):HA (Hr T):=match nZ true ks with
 | some r=>if eB r.2 r.1.size then ba (r.1.toList.map (·.2))else gV
 | none=>gV
abbrev eT (b:Il)(t:Jl):Jl:={ t with led:=b }
def qh {b:Il}{t:Jl}{ha:HB->HM}{h:HM}:∀(f:HB) (p:ME),M1 (eT b t) ha h f p=M1 t ha h f p
 | 0,_=>rfl
 | f+1,p=>by
  unfold M1;rw[show(eT b t).slot p.j=t.slot p.j from rfl]
  cases t.slot p.j with
  | empty=>rfl
  | dummy=>exact qh f _
  | live i=>
   dsimp only;split
   ·rfl
   ·exact qh f _
def iX {b:Il}{es:Ik (HM×T)}{t:Jl}{x:T}{h:HM}:∀(f:HB) (st:HA ME),c8 es (eT b t) x h f st=c8 es t x h f st
 | 0,_=>rfl
 | f+1,st=>by
  unfold c8;have e:∀p,(eT b t).probe (λi=>(es[i]?.map (·.1)).getD 0) h p=t.probe (λi=>(es[i]?.map (·.1)).getD 0) h p:=λp=>qh _ _
  rw[show(eT b t).probeStart h=t.probeStart h from rfl,e]
  split
  ·rfl
  ·rfl
  ·rfl
  ·rename_i j i next _;cases es[i]? with
   | none=>rfl
   | some q=>
    dsimp only;split
    ·rfl
    ·rw[show(eT b t).slot j=t.slot j from rfl]
     split
     ·exact iX f _
     ·rfl
def qk {b:Il}{t:Jl}{hs:Ik HM}{n:HB}:(eT b t).relaid hs n=(t.relaid hs n).map λr=>(eT b r.1,r.2):=by
 unfold Rp Rz;show(do let owner <- OT (MG n - 1) hs; _)=_
 cases OT (MG n - 1) hs <;> rfl
def ql {b:Il}{hf:T->HM}{es:Ik (HM×T)}{t:Jl}{x:T}:aW hf (es,eT b t) x=(aW hf (es,t) x).map λr=>(r.1,eT b r.2):=by
 unfold aW;dsimp only;rw[iX];cases c8 es t x (hf x) 100 gV with
 | none=>rfl
 | some f=>
  cases f with
  | there=>rfl
  | free slot=>
   dsimp only;rw[show(eT b t).put slot=(eT b (t.put slot).1,(t.put slot).2)from rfl]
   dsimp only;rw[show ∀n,cK (eT b (t.put slot).1) n=cK (t.put slot).1 n from λ_=>rfl,show(eT b (t.put slot).1).tooFull=(t.put slot).1.tooFull from rfl,qk]
   split
   ·split
    ·split
     ·cases(t.put slot).1.relaid ((IF es (t.put slot).2 (hf x,x)).map (·.1)) (LU (es.size+1))with
      | none=>rfl
      | some q=>
       obtain⟨t2,order⟩:=q;dsimp only[IK];rw[show ∀n,cK (eT b t2) n=cK t2 n from λ_=>rfl]
       split <;> rfl
     ·rfl
    ·rfl
   ·rfl
def n6 {b:Il}{hf:T->HM}:∀(ks:Hr T) (es:Ik (HM×T)) (t:Jl),ks.foldlM (aW hf) (es,eT b t)=(ks.foldlM (aW hf) (es,t)).map λr=>(r.1,eT b r.2)
 | [],_,_=>rfl
 | x::ks,es,t=>by
  rw[KZ,KZ,ql];cases aW hf (es,t) x with
  | none=>rfl
  | some r=>exact n6 ks r.1 r.2
def tJ {ks us:Hr T}(h:iW ks=ba us)(l:Il):∃r,nZ l ks=ba r/\r.1.toList.map (·.2)=us/\r.2.led=l/\(r.2.plain=true->eB r.2 r.1.size=true):=by
 unfold iW at h;have e:nZ l ks=(nZ true ks).map λr=>(r.1,eT l r.2):=n6 (b:=l) ks #[] (.fresh 0 0 true)
 cases hr:nZ true ks with
 | none=>rw[hr]at h; cases h
 | some r=>
  rw[hr]at h e;dsimp only at h;split at h
  ·rename_i hok;cases h;exact#[_,e,rfl,rfl,λ_=>hok]
  ·cases h
def mq {α:Type}{xs:Ik α}{p:HB}{x y:α}(h:y∈(IF xs p x).toList):y∈xs.toList\/y=x:=by
 unfold IF at h;rw[Mn,MX,Io,Io]at h;rcases h with(h|h)|h
 ·rw[Ll]at h;refine .inl ?_;simp only[Qz]at h;exact Lm (Kf h)
 ·exact .inr (HJ.mp h)
 ·rw[Ll]at h;refine .inl ?_;simp only[Qz]at h;exact Lm (Kf h)
def qm {hf:T->HM}{es:Ik (HM×T)}{t:Jl}{x:T}{r:Ik (HM×T)×Jl}(h:aW hf (es,t) x=ba r):∀y∈r.1.toList,y∈es.toList\/y.2=x:=by
 intro y hy;unfold aW at h;dsimp only at h;split at h
 ·cases h
 ·cases h; exact .inl hy
 ·rename_i slot _;have ins:∀y∈(IF es (t.put slot).2 (hf x,x)).toList,y∈es.toList\/y.2=x:=λy hy=>(mq hy).imp id λe=>by rw[e]
  split at h
  ·split at h
   ·split at h
    ·split at h
     ·cases h
     ·rename_i t2 order _;split at h
      ·cases h;refine ins y ?_;simp only[Array.toList_filterMap,Mw]at hy;obtain⟨i,_,hi⟩:=hy;rw[Lk];exact LY hi
      ·cases h
    ·cases h
   ·cases h; exact ins y hy
  ·cases h
def og {hf:T->HM}:∀(ks:Hr T) (es:Ik (HM×T)) (t:Jl) (r:Ik (HM×T)×Jl),ks.foldlM (aW hf) (es,t)=ba r->∀y∈r.1.toList,y∈es.toList\/y.2∈ks
 | [],_,_,_,h,y,hy=>by cases h; exact .inl hy
 | x::ks,es,t,r,h,y,hy=>by
  rw[KZ]at h;cases hs:aW hf (es,t) x with
  | none=>rw[hs]at h; cases h
  | some q=>
   rw[hs]at h;rcases og ks q.1 q.2 r h y hy with h1|h1
   ·rcases qm hs y h1 with h2|h2
    ·exact .inl h2
    ·exact .inr (h2 ▸ Jm)
   ·exact .inr (.tail _ h1)
def vN {ks us:Hr T}(h:iW ks=ba us):∀k∈us,k∈ks:=by
 unfold iW at h;split at h
 ·rename_i r hr;split at h
  ·cases h;intro k hk;obtain⟨y,hy,rfl⟩:=HX.mp hk;rcases og ks _ _ r hr y hy with h1|h1
   ·simp at h1
   ·exact h1
  ·cases h
 ·cases h
abbrev rG (k:T):Il:=dH k&&k.isTup&&decide (k.depth<=ap)
abbrev gA (xs:Hr W)(S:aa):HA (W×aa):=match xs with
 | [.ref i]=>match eO S i with
  | some ws=>match W.ts ws with
   | some ks=>if ks.all rG then(iW ks).map λus=>(.ref S.length,S++[.stt us])else gV
   | none=>gV
  | none=>gV
 | _=>gV
abbrev Dq (S:aa)(i:HB):HA (Hr T):=match S[i]? with
 | some (.stt us)=>ba us
 | _=>gV
abbrev jL (us:Hr T):Il:=us.all dH&&eg us&&decide us.Nodup&&gx us
abbrev bZ (xs:Hr W)(S:aa):HA (W×aa):=match xs with
 | [.ref i]=>match Dq S i with
  | some us=>if jL us then ba (.ref S.length,S++[.lst (T.ws (dN us))])else gV
  | none=>gV
 | _=>gV
abbrev jM (xs:Hr W)(S:aa):HA (W×aa):=match xs with
 | [.ref i]=>match uF S i with
  | some (lo,hi)=>if -(2 ^ 62)<=lo/\lo < 2 ^ 62/\-(2 ^ 62)<=hi/\hi < 2 ^ 62/\(hi - lo).toNat<=sizeLine then ba (.tup (ze lo (hi - lo).toNat),S)else gV
  | none=>jv [.ref i] S
 | xs=>jv xs S
def vO:∀ks:Hr T,T.ws ks=ks.map T.w
 | []=>rfl
 | x::xs=>by simp only[T.ws,IZ,vO xs]
def tK {h:IJ}{us vs:Hr Hu}(p:us.Perm vs):∀ {ks:Hr T},IsTs h ks vs->∃js,IsTs h js us/\js.Perm ks:=by
 induction p with
 | nil=>intro ks i; exact#[ks,i,.refl _]
 | cons x p ih=>
  intro ks i;cases i with
  | cons a b=>obtain⟨js,h1,h2⟩:=ih b; exact#[_,.cons a h1,h2.cons _]
 | swap x y l=>
  intro ks i;cases i with
  | cons a b=>cases b with
   | cons b c=>exact#[_,.cons b (.cons a c),.swap _ _ _]
 | trans p q ih1 ih2=>
  intro ks i;obtain⟨js,h1,h2⟩:=ih2 i;obtain⟨is,h3,h4⟩:=ih1 h1;exact#[is,h3,h4.trans h2]
def vP {p:T->Il}{js ks:Hr T}(h:js.Perm ks):js.all p=ks.all p:=by
 rw[Bool.eq_iff_iff,Ig,Ig];exact#[λq x hx=>q x (h.mem_iff.mpr hx),λq x hx=>q x (h.mem_iff.mp hx)]
def vQ {js ks:Hr T}(h:js.Perm ks):qb js=qb ks:=by unfold qb; simp only[vP h]
def gW:∀ {ks:Hr T} {d:HB},(∀x∈ks,x.depth<=d)->T.depths ks<=d
 | [],_,_=>Jx _
 | x::ks,d,h=>by
  have h1:=h x (.head _);have h2:=gW λy hy=>h y (.tail _ hy)
  simp only[T.depths]; omega
def lj {h:IJ}{js:Hr T}{us:Hr Hu}(r:IsTs h js us):∀is:Hr HB,(∀i∈is,i < js.length)->IsTs h (is.map λi=>js.getD i (.int 0)) (is.map λi=>us.getD i .none)
 | [],_=>.nil
 | i::is,hl=>by
  have hi:=hl i (.head _);have hi':i < us.length:=by rw[<- r.length]; exact hi
  have e1:js.getD i (.int 0)=js[i]:=by simp[hi]
  have e2:us.getD i .none=us[i]:=by simp[hi']
  have:=r.get i hi hi';refine .cons ?_ (lj r is λj hj=>hl j (.tail _ hj))
  show IsT h (js.getD i (.int 0)) (us.getD i .none);rw[e1,e2]; exact this
def tL {h:IJ}{lt:HB->HB->Il}{js:Hr T}{us:Hr Hu}(r:IsTs h js us):IsTs h (cN lt (.int 0) js) (cN lt IP us):=by
 unfold cN;rw[<- r.length];split
 ·exact r
 ·exact lj r _ λi hi=>ji ∅ i hi
section
variable{prog:Iw}{w:IE}{A:IB}{E:Hu->Hw->Prop}{s:Hw}
def kE {Q:Hr Hu->Hw->Prop}{r:HD}{a b c:HM}{t u v:RC}{n:HB}(hh:A.handled=gV)(hr:Rf s.heap r a b c t u v)(hsmall:Mo a b c=true)
  (hn:J1 a b c=n) (hlen:n<=2 ^ 24)
  (hQ:∀h' tk (acc:Ik Hu),(∀b o,s.heap.get? b=ba o->h'.get? b=ba o)->s.heap.objs.size<=h'.objs.size->Nm (λi v=>∃t,v=.int (a+i*c) t) acc n->Q acc.toList { s with heap:=h',toks:=tk }):wpAny (model prog w) A (collect (.ref r)) Q E s:=by
 unfold collect;refine Hs (Lj (Jf F.entry_proto_collect ?_));rw[Jc F.plain_proto_collect _];show wpAny _ A.in1 (newList [] >>= λl=>again (.builtin "list.__iadd__" #[[l,.ref r],[]])) _ _ s
 refine Hs (IH ?_);refine Hx #[J4 F.plain_list_iadd _,Jf F.entry_list_iadd ?_];rw[Jc F.plain_list_iadd _];show wpAny _ A.in1 (JI (.ref s.heap.objs.size) (.ref r) (.ref s.heap.objs.size)) _ _ _;have hS:(s.heap.push { cls:=.type "list",data:=.seq ([]:Hr Hu).toArray }).get? s.heap.objs.size=ba { cls:=.type "list",data:=.seq #[] 0 }:=HI _ rfl;have fin':∀s',(∃h' tk acc c',s'={ s with heap:=h',toks:=tk }/\(∀b o,s.heap.get? b=ba o->h'.get? b=ba o)/\h'.get? s.heap.objs.size=ba { cls:=.type "list",dict:=gV,data:=.seq acc c',slots:=#[] }/\Nm (λi v=>∃t,v=.int (a+i*c) t) acc n)->wpAny (model prog w) A (do
   let o <- load s.heap.objs.size
   match o.data with
   | .seq xs _=>pure xs.toList
   | _=>unsupported "internal:collect") Q E s':=by
  rintro s' ⟨h',tk,acc,c',rfl,hk,hS',hacc⟩;exact Hs (Nh hS' (Hx (hQ h' tk acc hk (K4 (HP hS')) hacc)))
 refine J0 (wpAny_extend_range (A:=A) (s:={ s with heap:=s.heap.push { cls:=.type "list",data:=.seq ([]:Hr Hu).toArray } }) (R:=λr s'=>r=.ok (.ret (.ref s.heap.objs.size))/\∃h' tk acc c',s'={ s with heap:=h',toks:=tk }/\(∀b o,s.heap.get? b=ba o->h'.get? b=ba o)/\h'.get? s.heap.objs.size=ba { cls:=.type "list",dict:=gV,data:=.seq acc c',slots:=#[] }/\Nm (λi v=>∃t,v=.int (a+i*c) t) acc n) hh (Ht _ hr) hsmall hn hlen _ _ 0 hS λh' tk acc' c' hk hS' hacc=>#[rfl,h',tk,acc',c',rfl,λb o e=>hk b o (HV (HP e)) (Ht _ e),hS',hacc]) (λfin s' h=>?_) (λe s' h=>?_)
 ·cases fin with
  | done f=>
   obtain⟨e,h⟩:=h;cases e;exact fin' s' h
  | again c'=>exact#[h.1,K5 h.2 λr s'' hr=>by obtain⟨rfl,hr⟩:=hr; exact fin' s'' hr]
 ·exact absurd h.1 (by simp)
def iE {Q₁:Hu->Hw->Prop}{r:HD}{a b c:HM}{t u v:RC}{n:HB}(hh:A.handled=gV)(hr:Rf s.heap r a b c t u v)(hsmall:Mo a b c=true)
  (hn:J1 a b c=n) (hlen:n<=2 ^ 24)
  (h:∀(h':IJ) (tk:HB) (acc:Ik Hu),(∀b o,s.heap.get? b=ba o->h'.get? b=ba o)->s.heap.objs.size<=h'.objs.size->Nm (λi v=>∃t,v=.int (a+i*c) t) acc n->Q₁ (.ref h'.objs.size) { s with heap:=h'.push { cls:=.type "tuple",data:=.seq acc },toks:=tk }) :
  codeAny (model prog w) A (.call (.builtin "tuple.__new__") #[[.type "tuple",.ref r],[]]) (wants Q₁ E) s:=by
 refine Mc ?_;show wpAny _ A.in1 (do checkBuiltinCall "tuple.__new__" #[[.type "tuple",.ref r],[]]; again (.builtin "tuple.__new__" #[[.type "tuple",.ref r],[]])) _ _ s
 refine Hs (LN (F.newCall_tuple_1 _) (Hx #[J4 F.plain_tuple_new _,Jf F.entry_tuple_new ?_]));rw[Jc F.plain_tuple_new _];have hsub:=PySem.sub_tuple_self;have hinit:=PySem.init_tuple_lookup;have hmh:=PySem.madeHere_tuple;have hTI:s.TypeIs (.ref r) "range":=#[_,hr,rfl];have hh1:A.in1.handled=gV:=by simp[hh]
 wp_walk using K6 hTI,kE (A:=A.in1) hh1 hr hsmall hn hlen
 intro h' tk acc hk hle hacc;show wpAny _ _ (JU acc.toList.toArray >>= λv=>ret v) _ _ _
 unfold JU;refine Hs (IH ?_ (by show acc.toList.toArray.size<=sizeLine; simp only[Array.toArray_toList]; rw[hacc.1,IX]; omega))
 refine Hx ?_;have e:acc.toList.toArray=acc:=by simp
 rw[e];exact h h' tk acc hk hle hacc
def iF {Q:Hu->Hw->Prop}{r:HD}{a b c:HM}{t u v:RC}{n:HB}(hh:A.handled=gV)(hr:Rf s.heap r a b c t u v)(hsmall:Mo a b c=true)
  (hn:J1 a b c=n) (hlen:n<=2 ^ 24)
  (hQ:∀(h':IJ) (tk:HB) (acc:Ik Hu),(∀b o,s.heap.get? b=ba o->h'.get? b=ba o)->s.heap.objs.size<=h'.objs.size->Nm (λi v=>∃t,v=.int (a+i*c) t) acc n->Q (.ref h'.objs.size) { s with heap:=h'.push { cls:=.type "tuple",data:=.seq acc },toks:=tk }) :
  wpAny (model prog w) A (call (.type "tuple") [.ref r]) Q E s:=by
 refine callType_codes (Q₁:=λobj s₁=>s₁.TypeIs obj "tuple"/\Q obj s₁) F.called_tuple (F.typeCall_tuple_1 _) F.entry_object_init
  (iE (by simp[hh]) hr hsmall hn hlen λh' tk acc hk hle hacc=>#[#[_,HI _ rfl,rfl],hQ h' tk acc hk hle hacc]) λobj s₁ h₁=>?_
 exact#[h₁.1,F.args_object_init_2 obj _,object_init_meets F.called_tuple.init.lookup F.called_tuple.made #v[] prog w A.in1 _ s₁ #[h₁.1,rfl,h₁.2]]
def oh {a:HD}{o:JJ}{es:Ik (HM×Hu)}{ep:HB}{t:Jl}{ks:Hr T}{Q:Hu->Hw->Prop}(hh:A.handled=gV)(hu:A.units+12 < cLine)(ho:s.heap.get? a=ba o)(hex:o.ExactSet)(hd:o.data=.set es ep t)(hz:es.size<=sizeLine)(fit:t.fits es.size=true)(led:t.led = !dW w)(pl:t.plain=true->es.size=0\/eB t es.size=true)
  (hT:IsTs s.heap ks (es.toList.map (·.2))) (hok:jL ks=true)
  (h:∀D h' tk dr c us,(∀b u,s.heap.get? b=ba u->h'.get? b=ba u)->s.heap.objs.size<=D->h'.get? D=ba (seqObj "list" us.toArray c)->IsTs s.heap (dN ks) us->us.Perm (es.toList.map (·.2))->Q (.ref D) { s with heap:=h',toks:=tk,drawn:=dr }) :
  wpAny (model prog w) A (call (.builtin "sorted") [.ref a]) Q E s:=by
 simp only[jL,Hz,HQ]at hok;obtain⟨⟨⟨hnum,halt⟩,hnd⟩,hok⟩:=hok;have hN:Nice ks:=#[λx hx=>Ig.mp hnum x hx,halt,hnd]
 refine Lx QN Qw Qx (Qy _) ?_;unfold KI.«sorted»;refine Hs (m:=checkCount "sorted" 1 1 _) (Hx ?_);refine Hs (nH (A:=A.in1) (by simp[hh]) ho hex hd hz fit led pl λh1 tk dr us kp hle hP=>?_)
 obtain⟨js,hjs,hperm⟩:=tK hP hT;simp only[gx,Hz,HQ]at hok;obtain⟨⟨h64,hdp⟩,hok⟩:=hok;have hl:us.length=ks.length:=by rw[hjs.length.symm,hperm.length_eq]
 have hJ:Nice js:=hN.of_sub (λx hx=>hperm.mem_iff.mp hx) (hperm.nodup_iff.mpr hN.nd)
 have hsk:2<=us.length->(qb js).isSome=true:=λh2=>by
  have h3:(qb ks).isSome=true:=by
   rcases JY _ _ ▸ hok with h|h
   ·simp only[HQ]at h; omega
   ·simp only[Hz]at h; exact h.1
  rw[vQ hperm]; exact h3
 have hdj:T.depths js<=bC:=gW λx hx=>by
  obtain⟨i,hi,rfl⟩:=JM.mp (hperm.mem_iff.mp hx);exact ID (bJ i hi) hdp
 refine Hs (M7 ?_ (by rw[IX]; omega))
 have hoL:(h1.push (seqObj "list" us.toArray 0)).get? h1.objs.size=ba (seqObj "list" us.toArray 0):=HI _ rfl;have kp2:∀b o,s.heap.get? b=ba o->(h1.push (seqObj "list" us.toArray 0)).get? b=ba o:=λb o e=>Ht _ (kp b o e)
 have hne:∀b o,s.heap.get? b=ba o->b≠h1.objs.size:=λb o e=>HV (Iu (HP e) hle)
 show wpAny _ _ _ _ _ { s with heap:=h1.push (seqObj "list" us.toArray 0),toks:=tk,drawn:=dr }
 refine Hs (Jg (Jb PU #[_,hoL,rfl] Ps ?_ (PV _)));refine la (s:={ s with heap:=h1.push (seqObj "list" us.toArray 0),toks:=tk,drawn:=dr }) (lt:=kz js) (κ:=rq ((qb js).getD 0)) hoL ∅ (λh2 h' hk Q hq=>?_) (λh2 h' hk i j hi hj Q hq=>?_) λh' c hk hD=>?_
 ·obtain⟨c,hc⟩:=Jh.mp (hsk h2);rw[hc]at hq;exact vH (s:={ s with heap:=h',toks:=tk,drawn:=dr }) (hjs.kept λb o _ e=>hk b o (hne b o e) (kp2 b o e)) h2 hc hq
 ·obtain⟨c,hc⟩:=Jh.mp (hsk h2);rw[hc];have hjl:=hjs.length;have hi':i < js.length:=∅
  have hj':j < js.length:=∅
  have g:=(hjs.kept (h':=h') λb o _ e=>hk b o (hne b o e) (kp2 b o e))
  have e1:us.getD i IP=us[i]:=by simp[hi]
  have e2:us.getD j IP=us[j]:=by simp[hj]
  rw[e1,e2];have b1:=bJ (ks:=js) i hi';have b2:=bJ (ks:=js) j hj';exact rA (s:={ s with heap:=h',toks:=tk,drawn:=dr }) (d:=bC) (c:=c) (by rw[aB,aB]; unfold bC; omega) ∅ ∅ (g.get i hi' hi) (g.get j hj' hj) (cU hJ.lt hi' hj') (rB hc (IC hi') (IC hj')) hq
 ·refine#[_,rfl,Hx #[_,rfl,h _ h' tk dr c (cN (kz js) IP us) (λb o e=>hk b o (hne b o e) (kp2 b o e)) hle hD ?_ (eh.trans hP)]]
  rw[<- tH hN hperm];exact tL hjs
end
section
variable{X:Cx}{J:Hr (HD×JJ)}{Y:L2.St}{H:Hp}{s:Hw}{A:Hr HD}{S:aa}
def ll:∀as:Hr HD,Vals (as.map V.ref) (as.map IA)
 | []=>.nil
 | _::as=>.cons rfl (ll as)
def vR:∀ {ks:Hr T} {as:Hr HD},RelL X.K A H (T.ws ks) (as.map V.ref)->∀b∈as,∃k∈ks,Rel X.K A H k.w (.ref b)
 | [],[],_,_,h=>nomatch h
 | [],_::_,r,_,_=>nomatch r
 | _::_,[],r,_,_=>nomatch r
 | k::ks,a::as,r,b,h=>by
  cases r with
  | cons r1 r2=>
   rcases HW.mp h with rfl|h
   ·exact#[k,.head _,r1]
   ·obtain⟨k',h1,h2⟩:=vR r2 b h;exact#[k',.tail _ h1,h2]
def vS (I:Inv X J Y H s):∀ {js:Hr T} {us:Hr Hu},IsTs s.heap js us->(∀u∈us,∃k b,u=IA b/\Rel X.K A H (T.w k) (.ref b))->∃vs,RelL X.K A H (T.ws js) vs/\Vals vs us
 | _,_,.nil,_=>#[[],.nil,.nil]
 | _,_,.cons a b,h=>by
  obtain⟨k,c,rfl,r⟩:=h _ (.head _);obtain⟨vs,h1,h2⟩:=vS I b λu hu=>h u (.tail _ hu)
  have:IsT s.heap k (.ref c):=jE I k r rfl;obtain rfl:=a.inj this;exact#[.ref c::vs,.cons r h1,.cons rfl h2]
def ol (hh:X.A.handled=gV)(hu:X.A.units+12 < cLine):LCall X (.builtin "sorted") bZ:=by
 intro J s Y H A S xs vs us w S' I so rl rv e;unfold bZ at e;split at e
 ·rename_i i;obtain⟨a,ea,rfl⟩:=eC (xs:=[]) rl rv;split at e
  ·rename_i ks hs;split at e
   ·rename_i hb;cases e;unfold Dq at hs;split at hs
    ·rename_i us hx;cases hs;obtain⟨o,φ,as,q,⟨hex,es,ep,t,hd,hz,fit,led,pl,he⟩,r⟩:=so.obj i _ a hx ea;have ho:s.heap.get? a=ba o:=(show ObjOk X.prog X.w H s.heap a (.frz o (.ext φ))from I.hok a _ q).1
     have hT:IsTs s.heap ks (es.toList.map (·.2)):=by rw[he]; exact dM I ks r (ll as)
     refine oh hh hu ho hex hd hz fit led pl hT hb λD h' tk dr c us hk hD oD hU hP=>?_
     obtain⟨vs,h1,h2⟩:=vS I hU λu hu=>by
      have:=hP.mem_iff.mp hu;rw[he]at this;obtain⟨b,hb,rfl⟩:=HX.mp this;obtain⟨k,_,rk⟩:=vR r b hb;exact#[k,b,rfl,rk]
     have hl:us.length<=sizeLine:=by rw[hP.length_eq,Hv,HS]; exact hz
     exact ef (u:=.lst vs) I so hk hD #[by rw[L2.Vals.length h2]; exact hl,us,c,h2,oD] λhn=>#[_,aA,h1.mono (bY hn)]
    ·cases hs
   ·cases e
  ·cases e
 ·cases e
def qo (hh:X.A.handled=gV)(hu:X.A.units+12 < cLine):LCall X (.type "set") gA:=by
 intro J s Y H A S xs vs us w S' I so rl rv e;unfold gA at e;split at e
 ·rename_i i;obtain⟨a,ea,rfl⟩:=eC (xs:=[]) rl rv;split at e
  ·rename_i ws hw;split at e
   ·rename_i ks hs;split at e
    ·rename_i hb;rw[Hy]at e;obtain⟨us,hp,e⟩:=e;cases e;have hkk:∀x∈ks,dH x=true/\x.isTup=true/\x.depth<=ap:=λx hx=>by
      have:=Ig.mp hb x hx;simp only[rG,Hz,HQ]at this;exact#[this.1.1,this.1.2,this.2]
     obtain⟨vs',h1,r1⟩:=aR so hw ea;obtain⟨its,rv',p,hzz⟩:=I.list h1;have hws:T.ws ks=ws:=W.ts_w hs;rw[<- hws]at r1;have hT:IsTs s.heap ks its:=dM I ks r1 rv';obtain⟨res,hplay,hkeys,hled,hpl⟩:=tJ hp (!dW X.w);have itm:∀(j:HB) (u:Hu),its[j]?=ba u->∃k b,ks[j]?=ba k/\u=IA b/\Rel X.K A H (T.w k) (.ref b):=λj u hj=>by
      have hjl:=(HH.mp hj).1;have hjk:j < ks.length:=by rw[hT.length]; exact hjl
      have hkw:(T.ws ks)[j]?=ba (T.w ks[j]):=by rw[vO,HF,HC hjk]; rfl
      obtain⟨v,hv,rkv⟩:=r1.get hkw;obtain⟨u',hu',ruv⟩:=L2.Vals.get rv' hv;rw[hj]at hu';cases hu';have ht:=(hkk _ (IC hjk)).2.1;generalize hk0:ks[j]=k0 at rkv ht;cases k0 with
      | int _=>cases ht
      | str _=>cases ht
      | tup ys=>
       cases rkv with
       | tup q1 q2=>
        obtain rfl:u=IA _:=ruv;exact#[.tup ys,_,by rw[<- hk0]; exact HC hjk,rfl,.tup q1 q2]
     refine tq (ks:=ks) (res:=res) hh p.isList (by simpa using hT) (λx hx=>#[(hkk x hx).1,(hkk x hx).2.2]) (λj v hj=>?_) (by show _+ap < cLine; rw[aB,aB,aB]; unfold ap; omega) (by rw[nY ks _ λx hx=>(hkk x hx).1]; exact hplay) λh' tk zs ep ho ez hok hz hy hk=>?_
     ·obtain⟨k,b,_,hb,_⟩:=itm j v (by simpa using hj)
      exact#[b,hb]
     ·have ezt:zs.toList.map (λz=>z.2.1)=us:=by
       rw[<- hkeys,<- ez,Nc,J6]; rfl
      have hsz:res.1.size=zs.size:=by rw[<- ez,Jv]
      refine ef (dr:=s.drawn) (u:=.frz (jD X.w zs ep res.2) (.ext λh=>h.get? s.heap.objs.size=ba (jD X.w zs ep res.2))) I so hk (HE _) #[ho,ho,#[_,ho],λh1 h2 q k=>k _ q] λhn=>#[_,_,zs.toList.map λz=>z.2.2,aA,#[#[rfl,rfl,rfl],zs.map zV,ep,res.2,rfl,?_,?_,hled,?_,?_],?_]
      ·rw[Jv,IX];simp only[cK,Hz,HQ]at hok;have:=hok.2; omega
      ·rw[Jv];simp only[cK,Hz,HQ]at hok;exact hok.1.1
      ·rw[Jv,<- hsz]; exact λz=>.inr (hpl z)
      ·rw[Nc,J6,J6]; rfl
      ·rw[<- ezt];have all:∀z∈zs.toList,Rel X.K (A++[s.heap.objs.size]) (bc H s.heap.objs.size (.frz (jD X.w zs ep res.2) (.ext λh=>h.get? s.heap.objs.size=ba (jD X.w zs ep res.2)))) (T.w z.2.1) (.ref z.2.2):=λz hz'=>by
        obtain⟨j,g1,g2⟩:=hy z hz';obtain⟨k,b,g3,g4,g5⟩:=itm j _ (by simpa using g2)
        rw[g1]at g3;cases g3; cases g4
        exact g5.mono (bY hn)
       clear hy ezt;generalize zs.toList=l at all
       induction l with
       | nil=>exact .nil
       | cons z l ih=>exact .cons (all z (.head _)) (ih λy hy=>all y (.tail _ hy))
    ·cases e
   ·cases e
  ·cases e
 ·cases e
def mr (hh:X.A.handled=gV):LCall X (.type "tuple") jM:=by
 intro J s Y H A S xs vs us w S' I so rl rv e;unfold jM at e;split at e
 ·rename_i i;split at e
  ·rename_i lo hi hr;split at e
   ·rename_i hb;cases e;obtain⟨a,ea,rfl⟩:=eC (xs:=[]) rl rv;obtain⟨b1,b2,b3,b4,b5⟩:=hb;have hH:H a=ba (.rng lo hi):=by
     unfold uF at hr;split at hr
     ·rename_i hx; cases hr; exact so.obj i _ a hx ea
     ·cases hr
    obtain⟨t,u,v,ho⟩:=I.hok a _ hH;have hn:J1 lo hi 1=((hi - lo).toNat:HB):=by rw[N9]; split <;> omega
    refine iF hh ho (Qo b1 b2 b3 b4) hn b5 λh' tk acc hk hle hacc=>?_
    have hv:Vals ((Ix (hi - lo).toNat).map λ(k:HB)=>V.int (lo+(k:HM))) acc.toList:=by
     refine lZ (by rw[Hv,IL,HS,hacc.1]) λi v u e1 e2=>?_
     rw[HF,Hy]at e1;obtain⟨k,e1,rfl⟩:=e1;obtain⟨hk,rfl⟩:=HH.mp e1;obtain⟨t,rfl⟩:=hacc.2 i u (by rw[<- Jd]; exact e2)
     exact#[t,by simp]
    have hnn:H h'.objs.size=gV:=I.hok.fresh hle;refine#[.ref h'.objs.size,_,A,I.laid (a:=h'.objs.size) (o:=.tup ((Ix (hi - lo).toNat).map λ(k:HB)=>V.int (lo+(k:HM)))) (t':=tk) (λb o e=>Ht _ (hk b o e)) hle #[by simpa using b5,acc.toList,hv,?_],rfl,bN (.inl hnn),so.lay hnn,.tup (.inl (.inl aA)) (l5 _)]
    exact#[_,HI _ rfl,rfl,0,by simp]
   ·cases e
  ·exact iT J s Y H A S _ vs us w S' I so rl rv e
 ·exact iT J s Y H A S _ vs us w S' I so rl rv e
end
section
variable{X:Cx}{J:Hr (HD×JJ)}{Y:L2.St}{H:Hp}{s:Hw}{A:Hr HD}{S:aa}
def tM (hh:X.A.handled=gV)(hu:X.A.units+12 < cLine):LCall X (.builtin "min") vI:=by
 intro J s Y H A S xs vs us w S' I so rl rv e;cases rl with
 | nil=>cases e
 | cons r t=>
  cases t with
  | cons _ _=>cases r <;> cases e
  | nil=>
   cases rv with
   | cons ru rv2=>
    cases rv2;cases r with
    | ref ea=>
     simp only[vI]at e;split at e
     ·rename_i ws hw;split at e
      ·rename_i ks hk;split at e
       ·rename_i hc;rw[Hy]at e;obtain⟨w',e1,e2⟩:=e;cases e2;obtain⟨vs',h1,r1⟩:=aR so hw ea;obtain⟨its,rv1,p,hz⟩:=I.list h1;obtain rfl:_=IA _:=ru;have hws:T.ws ks=ws:=W.ts_w hk;have hT:IsTs s.heap ks its:=dM I ks (hws ▸ r1) rv1;have hl:its.length=ks.length:=hT.length.symm;have hlw:ws.length=ks.length:=by rw[r1.length,L2.Vals.length rv1,hl]
        have hn:0 < ks.length:=by
         have:=(HH.mp e1).1;omega
        refine vE (items:=its.toArray) (bt:=kz ks) hh p.isList (by simpa [hl]using hn) (λi j vi vj s' Q E hk' hi hj hq=>?_) λv h' tk hv hk'=>?_
        ·have hi':i < ks.length:=by
          have:=(JN.mp hi).1
          simpa [hl]using this
         have hj':j < ks.length:=by
          have:=(JN.mp hj).1
          simpa [hl]using this
         have g:=hT.kept (h':=s'.heap) λb o _ e=>hk' b o e
         have e1:vi=its[i]'∅:=by
          have:=(JN.mp hi).2
          simpa using this.symm
         have e2:vj=its[j]'∅:=by
          have:=(JN.mp hj).2
          simpa using this.symm
         subst e1 e2;have b1:=bJ (ks:=ks) i hi';have b2:=bJ (ks:=ks) j hj';exact D7 bC _ _ _ _ X.A.in1 s' _ ∅ ∅ (g.get i hi' ∅) (g.get j hj' ∅) (by rw[aB]; unfold bC; omega) (cU hc.2 hi' hj') X.prog X.w _ _ hq
        ·have hv':its[jH ks]?=ba v:=by
          have:its.toArray.size=ks.length:=by simpa using hl
          rw[this]at hv
          simpa [jH]using hv
         obtain⟨v',q1,q2⟩:=r1.get e1;obtain⟨u',q3,q4⟩:=L2.Vals.get rv1 q1;rw[hv']at q3;cases q3;exact#[v',H,A,I.kept hk',q4,.refl,so,q2]
       ·cases e
      ·cases e
     ·cases e
    | _=>cases e
def lm:∀ {ws:Hr W} {bs:Hr Il},gy ws=ba bs->ws=bs.map W.bl
 | [],bs,h=>by cases h; rfl
 | .bl b::ws,bs,h=>by
  simp only[gy,Hy]at h;obtain⟨r,h1,h2⟩:=h;subst h2;rw[lm h1]; rfl
 | .non::_,_,h|.int _::_,_,h|.str _::_,_,h|.tup _::_,_,h|.ref _::_,_,h=>by cases h
def qp {bs:Hr Il}{vs:Hr V}{us:Hr Hu}(r:RelL X.K A H (bs.map W.bl) vs)(rv:Vals vs us):us=bs.map Lg:=by
 induction bs generalizing vs us with
 | nil=>cases r; cases rv; rfl
 | cons b bs ih=>
  cases r with
  | cons r1 r2=>
   cases rv with
   | cons v1 v2=>
    cases r1;obtain rfl:_=Lg b:=v1;rw[ih r2 v2]; rfl
def tN (bs:Hr Il):(Ix bs.length).all (λi=>bs.getD i false)=bs.all id:=by
 induction bs with
 | nil=>rfl
 | cons b bs ih=>simp[Nk,Qt,M2]at ih ⊢; rw[ih]
def B8 {id:Jy}{fb:Hr Il->Il}{g:Hr W->aa->HA (W×aa)}(hg:∀xs S,g xs S=match xs with|[.ref i]=>(match eO S i with|some ws=>(gy ws).map λbs=>(.bl (fb bs),S)|none=>gV)|_=>gV)
  (hcall:∀ {s:Hw} {x:Hu} {Q:Hu->Hw->Prop} {E:Hu->Hw->Prop} {bs:Hr Il},wpAny (model X.prog X.w) X.A.in1 (pyIter x) (λit s₂=>∃I fp wr P St,it=.ref I/\Pj X.prog X.w X.A.in1 I fp wr bs.length P St/\St 0 s₂.heap/\TruthOf X.prog X.w X.A.in1 P (λi=>bs.getD i false)/\
   ∀h' tk,(∀b o,b∉wr->s₂.heap.get? b=ba o->h'.get? b=ba o)->Q (.bool (fb bs)) { s₂ with heap:=h',toks:=tk }) E s->wpAny (model X.prog X.w) X.A (call (.builtin id) [x]) Q E s)
  (hh:X.A.handled=gV):LCall X (.builtin id) g:=by
 intro J s Y H A S xs vs us w S' I so rl rv e;rw[hg]at e;cases rl with
 | nil=>cases e
 | cons r t=>
  cases t with
  | cons _ _=>cases r <;> cases e
  | nil=>
   cases rv with
   | cons ru rv2=>
    cases rv2;cases r with
    | @ref ri ad ea=>
     simp only at e;split at e
     ·rename_i ws hw;rw[Hy]at e;obtain⟨bs,e1,e2⟩:=e;cases e2;obtain⟨vs',h1,r1⟩:=aR so hw ea;obtain⟨its,rv1,p,hz⟩:=I.list h1;obtain rfl:_=IA _:=ru;rw[lm e1]at r1;have hits:=qp r1 rv1;refine hcall (bs:=bs) ?_;refine KJ p.isList ?_;have hlt:ad < s.heap.objs.size:=by obtain⟨_,ho,_⟩:=p.isList; exact HP ho
      have W:=Ou (prog:=X.prog) (w:=X.w) (A:=X.A.in1) hh s.heap.objs.size ad (HV hlt) its.toArray;have hsz:its.toArray.size=bs.length:=by rw[HL,hits,Hv]
      rw[hsz]at W;refine#[_,_,_,_,_,rfl,W,#[#[_,HI _ rfl,rfl,rfl],?_],λi v s' Q E hi hq=>?_,λh' tk hk=>?_]
      ·obtain⟨o,ho,hc⟩:=p.isList;exact#[o,Ht _ ho,hc]
      ·have hb:bs[i]?.map Lg=ba v:=by rw[<- HF,<- hits]; simpa using hi
       cases q:bs[i]? with
       | none=>rw[q]at hb; cases hb
       | some b=>
        rw[q]at hb;cases hb;have eb:bs.getD i false=b:=by simp[q]
        have hq:Q (bs.getD i false) s':=hq;rw[eb]at hq;exact Ki hq
      ·refine#[.bl (fb bs),H,A,I.kept (λb o e=>hk b o (λz=>?_) (Ht _ e)),rfl,.refl,so,.bl]
       have hb:=HP e;rw[HJ.mp z]at hb;exact Jw _ hb
     ·cases e
    | _=>cases e
def tP (hh:X.A.handled=gV):LCall X (.builtin "all") B6:=
 B8 (fb:=λbs=>bs.all id) (λxs S=>rfl) (λ{s x Q E bs} h=>call_all_walk (J0 h (λit s₂ #[I,fp,wr,P,St',a,b,c,d,f]=>#[I,fp,wr,_,P,St',_,a,b,c,d,λh' tk hk=>by rw[tN]; exact f h' tk hk]) λ_ _ e=>e)) hh
end
noncomputable abbrev FA:=Fm->aa->HA (Hr W×aa)
noncomputable abbrev FT:=Fm->aa->HA (Il×aa)
inductive Out where
 | nx (Z:Fm)|rt (w:W)|bk (Z:Fm)|ct (Z:Fm)
noncomputable abbrev FS:=Fm->aa->HA (Out×aa)
section
variable (X:Cx)
abbrev tE (f:FE):TE:=λY H Q=>∃A Z S w S',EnvRel X.K A H Z Y/\StoreOk X.w X.K A H S/\f Z S=ba (w,S')/\∀v H',EndV X.w X.K A H S' w v H'->Q v H'
abbrev EndB (A:Hr HD)(H:Hp)(S':aa)(k:Il):Il->Hp->Prop:=λb H'=>b=k/\∃A',Ext X.K A H A' H'/\StoreOk X.w X.K A' H' S'
abbrev tT (f:FT):TT:=λY H Q=>∃A Z S k S',EnvRel X.K A H Z Y/\StoreOk X.w X.K A H S/\f Z S=ba (k,S')/\∀b H',EndB X A H S' k b H'->Q b H'
abbrev B9 (A:Hr HD)(H:Hp)(S':aa)(ws:Hr W):Hr V->Hp->Prop:=λvs H'=>∃A',Ext X.K A H A' H'/\StoreOk X.w X.K A' H' S'/\RelL X.K A' H' ws vs
abbrev tA (f:FA):TA:=λY H Q=>∃A Z S ws S',EnvRel X.K A H Z Y/\StoreOk X.w X.K A H S/\f Z S=ba (ws,S')/\∀vs H',B9 X A H S' ws vs H'->Q vs H'
abbrev EndS (A:Hr HD)(H:Hp)(o:Out)(S':aa):Ends where
 nx:=λY' H'=>∃Z' A',o=.nx Z'/\Ext X.K A H A' H'/\StoreOk X.w X.K A' H' S'/\EnvRel X.K A' H' Z' Y'
 rt:=λv H'=>∃w A',o=.rt w/\Ext X.K A H A' H'/\StoreOk X.w X.K A' H' S'/\Rel X.K A' H' w v
 bk:=λY' H'=>∃Z' A',o=.bk Z'/\Ext X.K A H A' H'/\StoreOk X.w X.K A' H' S'/\EnvRel X.K A' H' Z' Y'
 ct:=λY' H'=>∃Z' A',o=.ct Z'/\Ext X.K A H A' H'/\StoreOk X.w X.K A' H' S'/\EnvRel X.K A' H' Z' Y'
structure Imp (E D:Ends):Prop where
 nx:∀Y H,E.nx Y H->D.nx Y H
 rt:∀v H,E.rt v H->D.rt v H
 bk:∀Y H,E.bk Y H->D.bk Y H
 ct:∀Y H,E.ct Y H->D.ct Y H
abbrev tS (f:FS):TS:=λD Y H=>∃A Z S o S',EnvRel X.K A H Z Y/\StoreOk X.w X.K A H S/\f Z S=ba (o,S')/\Imp (EndS X A H o S') D
noncomputable abbrev GE (e:Ii)(f:FE):Prop:=PE X e (tE X f)
noncomputable abbrev GT (e:Ii)(f:FT):Prop:=PT X e (tT X f)
noncomputable abbrev GW (e:Ii)(f:FT):Prop:=PW X e (tT X f)
noncomputable abbrev GA (es:Hr Ii)(f:FA):Prop:=PA X es (tA X f)
noncomputable abbrev GS (st:KO)(f:FS):Prop:=PS X st (tS X f)
noncomputable abbrev GSs (sts:Hr KO)(f:FS):Prop:=PSs X sts (tS X f)
end
def Imp.trans {E D F:Ends}(a:Imp E D)(b:Imp D F):Imp E F:=#[λ_ _ h=>b.nx _ _ (a.nx _ _ h),λ_ _ h=>b.rt _ _ (a.rt _ _ h),λ_ _ h=>b.bk _ _ (a.bk _ _ h),λ_ _ h=>b.ct _ _ (a.ct _ _ h)]
section
variable{X:Cx}
def GE.of {e:Ii}{t:TE}{f:FE}(h:PE X e t)(hf:∀(Y:L2.St) (H:Hp) (A:Hr HD) (Z:Fm) (S:aa) (w:W) (S':aa),EnvRel X.K A H Z Y->StoreOk X.w X.K A H S->f Z S=ba (w,S')->∀Q:VK,(∀v H',EndV X.w X.K A H S' w v H'->Q v H')->t Y H Q):GE X e f:=
 λJ s Y H Q I #[A,Z,S,w,S',er,so,e1,hq]=>h J s Y H Q I (hf Y H A Z S w S' er so e1 Q hq)
def GT.of {e:Ii}{t:TT}{f:FT}(h:PT X e t)(hf:∀(Y:L2.St) (H:Hp) (A:Hr HD) (Z:Fm) (S:aa) (k:Il) (S':aa),EnvRel X.K A H Z Y->StoreOk X.w X.K A H S->f Z S=ba (k,S')->∀Q:Il->Hp->Prop,(∀b H',EndB X A H S' k b H'->Q b H')->t Y H Q):GT X e f:=
 λJ s Y H Q I #[A,Z,S,w,S',er,so,e1,hq]=>h J s Y H Q I (hf Y H A Z S w S' er so e1 Q hq)
def GW.of {e:Ii}{t:TT}{f:FT}(h:PW X e t)(hf:∀(Y:L2.St) (H:Hp) (A:Hr HD) (Z:Fm) (S:aa) (k:Il) (S':aa),EnvRel X.K A H Z Y->StoreOk X.w X.K A H S->f Z S=ba (k,S')->∀Q:Il->Hp->Prop,(∀b H',EndB X A H S' k b H'->Q b H')->t Y H Q):GW X e f:=
 λwh J s Y H Q I #[A,Z,S,w,S',er,so,e1,hq]=>h wh J s Y H Q I (hf Y H A Z S w S' er so e1 Q hq)
def GA.of {es:Hr Ii}{t:TA}{f:FA}(h:PA X es t)(hf:∀(Y:L2.St) (H:Hp) (A:Hr HD) (Z:Fm) (S:aa) (ws:Hr W) (S':aa),EnvRel X.K A H Z Y->StoreOk X.w X.K A H S->f Z S=ba (ws,S')->∀Q:Hr V->Hp->Prop,(∀vs H',B9 X A H S' ws vs H'->Q vs H')->t Y H Q):GA X es f:=
 λpos J s Y H Q I #[A,Z,S,w,S',er,so,e1,hq]=>h pos J s Y H Q I (hf Y H A Z S w S' er so e1 Q hq)
def GS.of {st:KO}{t:TS}{f:FS}(h:PS X st t)(hf:∀(Y:L2.St) (H:Hp) (A:Hr HD) (Z:Fm) (S:aa) (o:Out) (S':aa),EnvRel X.K A H Z Y->StoreOk X.w X.K A H S->f Z S=ba (o,S')->∀D:Ends,Imp (EndS X A H o S') D->t D Y H):GS X st f:=
 λJ s Y H D I #[A,Z,S,o,S',er,so,e1,hq]=>h J s Y H D I (hf Y H A Z S o S' er so e1 D hq)
def GSs.of {st:Hr KO}{t:TS}{f:FS}(h:PSs X st t)(hf:∀(Y:L2.St) (H:Hp) (A:Hr HD) (Z:Fm) (S:aa) (o:Out) (S':aa),EnvRel X.K A H Z Y->StoreOk X.w X.K A H S->f Z S=ba (o,S')->∀D:Ends,Imp (EndS X A H o S') D->t D Y H):GSs X st f:=
 λJ s Y H D I #[A,Z,S,o,S',er,so,e1,hq]=>h J s Y H D I (hf Y H A Z S o S' er so e1 D hq)
def EndV.after {A A1:Hr HD}{H H1:Hp}{S':aa}{w:W}{v:V}{H':Hp}(e:Ext X.K A H A1 H1)(h:EndV X.w X.K A1 H1 S' w v H'):EndV X.w X.K A H S' w v H':=by
 obtain⟨A',x,y,z⟩:=h;exact#[A',e.trans x,y,z]
def EndB.after {A A1:Hr HD}{H H1:Hp}{S':aa}{k b:Il}{H':Hp}(e:Ext X.K A H A1 H1)(h:EndB X A1 H1 S' k b H'):EndB X A H S' k b H':=by
 obtain⟨h1,A',x,y⟩:=h;exact#[h1,A',e.trans x,y]
def EndS.after {A A1:Hr HD}{H H1:Hp}{S':aa}{o:Out}(e:Ext X.K A H A1 H1):Imp (EndS X A1 H1 o S') (EndS X A H o S'):=
 #[λ_ _ #[Z',A',a,b,c,d]=>#[Z',A',a,e.trans b,c,d],λ_ _ #[Z',A',a,b,c,d]=>#[Z',A',a,e.trans b,c,d],λ_ _ #[Z',A',a,b,c,d]=>#[Z',A',a,e.trans b,c,d],λ_ _ #[Z',A',a,b,c,d]=>#[Z',A',a,e.trans b,c,d]]
abbrev fC (w:W):FE:=λ_ S=>ba (w,S)
abbrev fV (i:HB):FE:=λZ S=>match Z[i]? with
 | some (ba w)=>ba (w,S)
 | _=>gV
def om {e:Ii}{v:V}{w:W}(h:PE X e (tC v))(r:∀A H,Rel X.K A H w v):GE X e (fC w):=
 GE.of h λY H A Z S w' S' er so e Q hq=>by cases e; exact hq _ _ (.here so (r A H))
def Ge {i:HB}{e:Ii}(h:PE X e (Br i)):GE X e (fV i):=GE.of h λY H A Z S w S' er so e Q hq=>by
 unfold fV at e;split at e
 ·rename_i w' hw;cases e;obtain⟨v,h1,h2⟩:=er.2 i _ hw;exact#[v,h1,hq _ _ (.here so h2)]
 ·cases e
abbrev zj (g:W->W->aa->HA (W×aa))(fa fb:FE):FE:=λZ S=>match fa Z S with
 | some (x,S1)=>match fb Z S1 with
  | some (y,S2)=>g x y S2
  | none=>gV
 | none=>gV
def Fp {fa fb:FE}{g:W->W->aa->HA (W×aa)}{Z:Fm}{S:aa}{r:W×aa}(e:zj g fa fb Z S=ba r):∃x S1 y S2,fa Z S=ba (x,S1)/\fb Z S1=ba (y,S2)/\g x y S2=ba r:=by
 unfold zj at e;split at e
 ·rename_i x S1 h1;split at e
  ·rename_i y S2 h2;exact#[x,S1,y,S2,h1,h2,e]
  ·cases e
 ·cases e
def gX {fa fb:FE}{Z:Fm}{S S1 S2:aa}{x y:W}{Y:L2.St}{H:Hp}{A:Hr HD}{R:V->V->Hp->Prop}(er:EnvRel X.K A H Z Y)(so:StoreOk X.w X.K A H S)(h1:fa Z S=ba (x,S1))(h2:fb Z S1=ba (y,S2))
  (h:∀a b H2 A2,Ext X.K A H A2 H2->StoreOk X.w X.K A2 H2 S2->Rel X.K A2 H2 x a->Rel X.K A2 H2 y b->R a b H2):tE X fa Y H λa H1=>tE X fb Y H1 λb H2=>R a b H2:=by
 refine#[A,Z,S,x,S1,er,so,h1,λa H1 #[A1,e1,o1,r1]=>?_]
 refine#[A1,Z,S1,y,S2,er.mono e1,o1,h2,λb H2 #[A2,e2,o2,r2]=>?_]
 exact h a b H2 A2 (e1.trans e2) o2 (r1.mono e2) r2
def LOp.opr {f:Hu->Hu->QP Hu}{g:W->W->aa->HA (W×aa)}(h:LOp X f g):OpR X f (λa b H Q=>∃A S x y w S',StoreOk X.w X.K A H S/\Rel X.K A H x a/\Rel X.K A H y b/\g x y S=ba (w,S')/\∀v H',EndV X.w X.K A H S' w v H'->Q v H'):=by
 intro J s Y H a b u v Q I ru rv ⟨A,S,x,y,w,S',so,rx,ry,e,hq⟩;exact bf (h J s Y H A S x y a b u v w S' I so rx ru ry rv e) λu' s' #[v',H',A',I',r',e1,o1,z1]=>#[v',H',I',r',hq v' H' #[A',e1,o1,z1]]
def AQ {a b:Ii}{op:OD}{pos:Kr}{fa fb:FE}{g:W->W->aa->HA (W×aa)}(ho:LOp X (binaryOp op) g)(ha:GE X a fa)(hb:GE X b fb):GE X (.BinOp a op b pos) (zj g fa fb):=
 GE.of (DL ho.opr ha hb) λY H A Z S w S' er so e Q hq=>by
  obtain⟨x,S1,y,S2,h1,h2,h3⟩:=Fp e;exact gX er so h1 h2 λa b H2 A2 e2 o2 r1 r2=>#[A2,S2,x,y,w,S',o2,r1,r2,h3,λv H' z=>hq v H' (z.after e2)]
abbrev vT (fa:FE):FE:=λZ S=>match fa Z S with
 | some (.int i,S1)=>ba (.int (-i),S1)
 | _=>gV
def vU {a:Ii}{pos:Kr}{fa:FE}(ha:GE X a fa):GE X (.UnaryOp .USub a pos) (vT fa):=
 GE.of (DM BQ ha) λY H A Z S w S' er so e Q hq=>by
  unfold vT at e;split at e
  ·rename_i i S1 h1;cases e;refine#[A,Z,S,_,_,er,so,h1,λv H1 #[A1,e1,o1,r1]=>?_]
   cases r1;exact#[_,rfl,hq _ _ #[A1,e1,o1,.int]]
  ·cases e
abbrev zm (o:COp)(fa fb:FE):FE:=zj (cM o) fa fb
def Cc {a b:Ii}{o:COp}{pos:Kr}{fa fb:FE}(hu:X.A.units+gr < cLine)(ha:GE X a fa)(hb:GE X b fb)(hm:behindInMarks o.py b=false):GE X (.Compare a [o.py] [b] pos) (zm o fa fb):=
 GE.of (yA (nN hu o).opr ha hb hm) λY H A Z S w S' er so e Q hq=>by
  obtain⟨x,S1,y,S2,h1,h2,h3⟩:=Fp e;exact gX er so h1 h2 λa b H2 A2 e2 o2 r1 r2=>#[A2,S2,x,y,w,S',o2,r1,r2,h3,λv H' z=>hq v H' (z.after e2)]
abbrev vV (f:FE):FT:=λZ S=>match f Z S with
 | some (.bl k,S')=>ba (k,S')
 | _=>gV
def Cd {a b:Ii}{o:COp}{pos:Kr}{fa fb:FE}(hu:X.A.units+gr < cLine)(ha:GE X a fa)(hb:GE X b fb)(hm:behindInMarks o.py b=false):GT X (.Compare a [o.py] [b] pos) (vV (zm o fa fb)):=
 GT.of (yB (nN hu o).opr ha hb hm) λY H A Z S k S' er so e Q hq=>by
  unfold vV at e;split at e
  ·rename_i k' S'' h0;cases e;obtain⟨x,S1,y,S2,h1,h2,h3⟩:=Fp h0;refine gX er so h1 h2 λa b H2 A2 e2 o2 r1 r2=>#[A2,S2,x,y,_,_,o2,r1,r2,h3,λv H' #[A',z1,z2,z3]=>?_]
   cases z3;exact#[k,rfl,hq _ _ #[rfl,A',e2.trans z1,z2]]
  ·cases e
abbrev fP (f:FE):FT:=λZ S=>match f Z S with
 | some (w,S')=>(ee S' w).map λk=>(k,S')
 | none=>gV
def bS {e:Ii}{f:FE}(h:GE X e f)(he:∀whole,isTrue e X.env whole=(do let v <- whole; standAt e.pos; holding [v] (truthy v))):GT X e (fP f):=by
 intro J s Y H Q I ⟨A,Z,S,k,S',er,so,e1,hq⟩;unfold fP at e1;split at e1
 ·rename_i w S1 h1;rw[Hy]at e1;obtain⟨k',ek,e2⟩:=e1;cases e2;refine isTrue_plain (bf (h J s Y H (EndV X.w X.K A H _ w) I #[A,Z,S,w,_,er,so,h1,λ_ _ z=>z]) λv s1 #[x,H1,I1,r1,A1,e1,o1,z1]=>?_) (he _)
  exact Gc I1 o1 z1 r1 ek λs' I'=>#[H1,I',hq _ _ #[rfl,A1,e1,o1]]
 ·cases e1
abbrev vW (f g:FT):FT:=λZ S=>match f Z S with
 | some (true,S1)=>g Z S1
 | some (false,S1)=>ba (false,S1)
 | none=>gV
abbrev D8 (f g:FT):FT:=λZ S=>match f Z S with
 | some (true,S1)=>ba (true,S1)
 | some (false,S1)=>g Z S1
 | none=>gV
abbrev zn (f:FT):FT:=λZ S=>match f Z S with
 | some (k,S1)=>ba (!k,S1)
 | none=>gV
def vX {f g:FT}{Y:L2.St}{H:Hp}{A:Hr HD}{Z:Fm}{S:aa}{k:Il}{S':aa}(er:EnvRel X.K A H Z Y)(so:StoreOk X.w X.K A H S)(e:vW f g Z S=ba (k,S'))(Q:Il->Hp->Prop)(hq:∀b H',EndB X A H S' k b H'->Q b H') :
  Dx (tT X f) (tT X g) Y H Q:=by
 unfold vW at e;split at e
 ·rename_i S1 h1;refine#[A,Z,S,true,S1,er,so,h1,λb H1 #[z0,A1,z1,z2]=>?_]
  subst z0;rw[Ic rfl];exact#[A1,Z,S1,k,S',er.mono z1,z2,e,λb H' q=>hq b H' (q.after z1)]
 ·rename_i S1 h1;cases e;refine#[A,Z,S,false,_,er,so,h1,λb H1 #[z0,A1,z1,z2]=>?_]
  subst z0;rw[Im Ih];exact hq _ _ #[rfl,A1,z1,z2]
 ·cases e
def zo {f g:FT}{Y:L2.St}{H:Hp}{A:Hr HD}{Z:Fm}{S:aa}{k:Il}{S':aa}(er:EnvRel X.K A H Z Y)(so:StoreOk X.w X.K A H S)(e:D8 f g Z S=ba (k,S'))(Q:Il->Hp->Prop)(hq:∀b H',EndB X A H S' k b H'->Q b H') :
  G0 (tT X f) (tT X g) Y H Q:=by
 unfold D8 at e;split at e
 ·rename_i S1 h1;cases e;refine#[A,Z,S,true,_,er,so,h1,λb H1 #[z0,A1,z1,z2]=>?_]
  subst z0;rw[Ic rfl];exact hq _ _ #[rfl,A1,z1,z2]
 ·rename_i S1 h1;refine#[A,Z,S,false,S1,er,so,h1,λb H1 #[z0,A1,z1,z2]=>?_]
  subst z0;rw[Im Ih];exact#[A1,Z,S1,k,S',er.mono z1,z2,e,λb H' q=>hq b H' (q.after z1)]
 ·cases e
def zp {a:Ii}{pos:Kr}{f:FT}(h:GT X a f):GW X (.BoolOp .And [a] pos) f:=yq h
def Ce {a:Ii}{pos:Kr}{f:FT}(h:GT X a f):GW X (.BoolOp .Or [a] pos) f:=Bs h
def Cf {a b:Ii}{r:Hr Ii}{pos:Kr}{f g:FT}(h:GT X a f)(h2:GW X (.BoolOp .And (b::r) pos) g):GW X (.BoolOp .And (a::b::r) pos) (vW f g):=
 GW.of (Bt h h2) λY H A Z S k S' er so e Q hq=>vX er so e Q hq
def D9 {a b:Ii}{r:Hr Ii}{pos:Kr}{f g:FT}(h:GT X a f)(h2:GW X (.BoolOp .Or (b::r) pos) g):GW X (.BoolOp .Or (a::b::r) pos) (D8 f g):=
 GW.of (Dy h h2) λY H A Z S k S' er so e Q hq=>zo er so e Q hq
def Cg {a:Ii}{pos:Kr}{f:FT}(h:GT X a f):GT X (.UnaryOp .Not a pos) (zn f):=
 GT.of (Bu h) λY H A Z S k S' er so e Q hq=>by
  unfold zn at e;split at e
  ·rename_i k1 S1 h1;cases e;refine#[A,Z,S,k1,_,er,so,h1,λb H1 #[z0,A1,z1,z2]=>?_]
   subst z0;exact hq _ _ #[rfl,A1,z1,z2]
  ·cases e
abbrev rH (f g:FE):FE:=λZ S=>match f Z S with
 | some (.bl true,S1)=>g Z S1
 | some (.bl false,S1)=>ba (.bl false,S1)
 | _=>gV
abbrev zq (f g:FE):FE:=λZ S=>match f Z S with
 | some (.bl true,S1)=>ba (.bl true,S1)
 | some (.bl false,S1)=>g Z S1
 | _=>gV
abbrev rJ (f:FE):FE:=λZ S=>match f Z S with
 | some (.bl k,S1)=>ba (.bl (!k),S1)
 | _=>gV
def Ch {a:Ii}{op:Q9}{pos:Kr}{f:FE}(h:GE X a f):GE X (.BoolOp op [a] pos) f:=Bv h
def Ci {a b:Ii}{r:Hr Ii}{pos:Kr}{f g:FE}(h:GE X a f)(h2:GE X (.BoolOp .And (b::r) pos) g):GE X (.BoolOp .And (a::b::r) pos) (rH f g):=
 GE.of (Bw h h2) λY H A Z S w S' er so e Q hq=>by
  unfold rH at e;split at e
  ·rename_i S1 h1;refine#[A,Z,S,_,S1,er,so,h1,λv H1 #[A1,z1,z2,z3]=>?_]
   cases z3;refine#[true,rfl,?_];rw[Ic rfl];exact#[A1,Z,S1,w,S',er.mono z1,z2,e,λb H' q=>hq b H' (q.after z1)]
  ·rename_i S1 h1;cases e;refine#[A,Z,S,_,_,er,so,h1,λv H1 #[A1,z1,z2,z3]=>?_]
   cases z3;refine#[false,rfl,?_];rw[Im Ih];exact hq _ _ #[A1,z1,z2,.bl]
  ·cases e
def Ea {a b:Ii}{r:Hr Ii}{pos:Kr}{f g:FE}(h:GE X a f)(h2:GE X (.BoolOp .Or (b::r) pos) g):GE X (.BoolOp .Or (a::b::r) pos) (zq f g):=
 GE.of (DB h h2) λY H A Z S w S' er so e Q hq=>by
  unfold zq at e;split at e
  ·rename_i S1 h1;cases e;refine#[A,Z,S,_,_,er,so,h1,λv H1 #[A1,z1,z2,z3]=>?_]
   cases z3;refine#[true,rfl,?_];rw[Ic rfl];exact hq _ _ #[A1,z1,z2,.bl]
  ·rename_i S1 h1;refine#[A,Z,S,_,S1,er,so,h1,λv H1 #[A1,z1,z2,z3]=>?_]
   cases z3;refine#[false,rfl,?_];rw[Im Ih];exact#[A1,Z,S1,w,S',er.mono z1,z2,e,λb H' q=>hq b H' (q.after z1)]
  ·cases e
def Cj {a:Ii}{pos:Kr}{f:FE}(h:GE X a f):GE X (.UnaryOp .Not a pos) (rJ f):=
 GE.of (Bx h) λY H A Z S w S' er so e Q hq=>by
  unfold rJ at e;split at e
  ·rename_i k1 S1 h1;cases e;refine#[A,Z,S,_,_,er,so,h1,λb H1 #[A1,z1,z2,z3]=>?_]
   cases z3;exact#[_,rfl,hq _ _ #[A1,z1,z2,.bl]]
  ·cases e
abbrev zr (c:FT)(f g:FE):FE:=λZ S=>match c Z S with
 | some (true,S1)=>f Z S1
 | some (false,S1)=>g Z S1
 | none=>gV
def Ck {c a b:Ii}{pos:Kr}{fc:FT}{f g:FE}(hc:GT X c fc)(ha:GE X a f)(hb:GE X b g):GE X (.IfExp c a b pos) (zr fc f g):=
 GE.of (uL hc ha hb) λY H A Z S w S' er so e Q hq=>by
  unfold zr at e;split at e
  ·rename_i S1 h1;refine#[A,Z,S,_,S1,er,so,h1,λb H1 #[z0,A1,z1,z2]=>?_]
   subst z0;rw[Ic rfl];exact#[A1,Z,S1,w,S',er.mono z1,z2,e,λb H' q=>hq b H' (q.after z1)]
  ·rename_i S1 h1;refine#[A,Z,S,_,S1,er,so,h1,λb H1 #[z0,A1,z1,z2]=>?_]
   subst z0;rw[Im Ih];exact#[A1,Z,S1,w,S',er.mono z1,z2,e,λb H' q=>hq b H' (q.after z1)]
  ·cases e
abbrev i9:FA:=λ_ S=>ba ([],S)
abbrev dO (f:FE)(g:FA):FA:=λZ S=>match f Z S with
 | some (w,S1)=>match g Z S1 with
  | some (ws,S2)=>ba (w::ws,S2)
  | none=>gV
 | none=>gV
def Cm:GA X [] i9:=GA.of uR λY H A Z S ws S' er so e Q hq=>by cases e; exact hq _ _ #[A,.refl,so,.nil]
def zt {e:Ii}{es:Hr Ii}{f:FE}{g:FA}(h:GE X e f)(h2:GA X es g)(hs:starEach (e::es) X.env=(false,eval e X.env)::starEach es X.env):GA X (e::es) (dO f g):=
 GA.of (lM h h2 hs) λY H A Z S ws S' er so e Q hq=>by
  unfold dO at e;split at e
  ·rename_i w S1 h1;split at e
   ·rename_i ws2 S2 h2;cases e;refine#[A,Z,S,w,S1,er,so,h1,λv H1 #[A1,z1,z2,z3]=>?_]
    refine#[A1,Z,S1,ws2,_,er.mono z1,z2,h2,λvs H2 #[A2,y1,y2,y3]=>?_]
    exact hq _ _ #[A2,z1.trans y1,y2,.cons (z3.mono y1) y3]
   ·cases e
  ·cases e
abbrev vY (f:FA):FE:=λZ S=>match f Z S with
 | some (ws,S1)=>pV S1 ws
 | none=>gV
abbrev vZ (f:FA):FE:=λZ S=>match f Z S with
 | some (ws,S1)=>kD S1 ws
 | none=>gV
def v4 {es:Hr Ii}{k:HB}{pos:Kr}{f:FA}(h:GA X es f):GE X (.Tuple es k pos) (vY f):=
 GE.of (BU h) λY H A Z S w S' er so e Q hq=>by
  unfold vY at e;split at e
  ·rename_i ws S1 h1;obtain⟨hl,rfl,rfl⟩:=qW e;refine#[A,Z,S,ws,_,er,so,h1,λvs H1 #[A1,z1,z2,z3]=>#[by rw[<- z3.length]; exact hl,λp hp=>?_]]
   exact hq _ _ (EndV.after z1 (.tup z2 z3 hp))
  ·cases e
def v6 {es:Hr Ii}{pos:Kr}{f:FA}(h:GA X es f):GE X (.List es pos) (vZ f):=
 GE.of (BV h) λY H A Z S w S' er so e Q hq=>by
  unfold vZ at e;split at e
  ·rename_i ws S1 h1;obtain⟨hl,rfl,rfl⟩:=jd e;refine#[A,Z,S,ws,_,er,so,h1,λvs H1 #[A1,z1,z2,z3]=>#[by rw[<- z3.length]; exact hl,λp hp=>?_]]
   exact hq _ _ (EndV.after z1 (.lst z2 z3 hp))
  ·cases e
abbrev iY (g:Hr W->aa->HA (W×aa))(f:FA):FE:=λZ S=>match f Z S with
 | some (ws,S1)=>g ws S1
 | none=>gV
def LCall.callr {v:Hu}{g:Hr W->aa->HA (W×aa)}(h:LCall X v g):CallR X v (λvs H Q=>∃A S ws w S',StoreOk X.w X.K A H S/\RelL X.K A H ws vs/\g ws S=ba (w,S')/\∀v H',EndV X.w X.K A H S' w v H'->Q v H'):=by
 intro J s Y H vs us Q I rv ⟨A,S,ws,w,S',so,rl,e,hq⟩;exact bf (h J s Y H A S ws vs us w S' I so rl rv e) λu' s' #[v',H',A',I',r',e1,o1,z1]=>#[v',H',I',r',hq v' H' #[A',e1,o1,z1]]
def ln {g:Hr W->aa->HA (W×aa)}{f:FA}{Y:L2.St}{H:Hp}{A:Hr HD}{Z:Fm}{S:aa}{w:W}{S':aa}(er:EnvRel X.K A H Z Y)(so:StoreOk X.w X.K A H S)(e:iY g f Z S=ba (w,S'))(Q:VK)(hq:∀v H',EndV X.w X.K A H S' w v H'->Q v H') :
  tA X f Y H λvs H1=>∃A S ws w S',StoreOk X.w X.K A H1 S/\RelL X.K A H1 ws vs/\g ws S=ba (w,S')/\∀v H',EndV X.w X.K A H1 S' w v H'->Q v H':=by
 unfold iY at e;split at e
 ·rename_i ws S1 h1;exact#[A,Z,S,ws,S1,er,so,h1,λvs H1 #[A1,z1,z2,z3]=>#[A1,S1,ws,w,S',z2,z3,e,λv H' q=>hq v H' (q.after z1)]]
 ·cases e
def on {id:Jy}{x:HY}{e:Ii}{es:Hr Ii}{p pos:Kr}{f:FA}{g:Hr W->aa->HA (W×aa)}(hc:LCall X (.builtin id) g)(hg:Gl X x)(hm:X.mg x=gV)(hv:bootBuiltins x=ba (.builtin id))(ha:GA X (e::es) f)
  (hn:x≠"__name__") (hdb:(x==("__debug__" : HY))=false) (hs:starEach (e::es) X.env=(false,eval e X.env)::starEach es X.env) (hpl:(backTo pos (starEach es X.env)).any (·.1)=false):GE X (.Call (.Name x p) (e::es) [] pos) (iY g f):=
 GE.of (nk hc.callr hg hm hv ha hn hdb hs hpl) λY H A Z S w S' er so e Q hq=>ln er so e Q hq
def oo {id:Jy}{x:HY}{e:Ii}{es:Hr Ii}{p pos:Kr}{f:FA}{g:Hr W->aa->HA (W×aa)}(hc:LCall X (.type id) g)(hg:Gl X x)(hm:X.mg x=gV)(hv:bootBuiltins x=ba (.type id))(ha:GA X (e::es) f)
  (hn:x≠"__name__") (hdb:(x==("__debug__" : HY))=false) (hs:starEach (e::es) X.env=(false,eval e X.env)::starEach es X.env) (hpl:(backTo pos (starEach es X.env)).any (·.1)=false):GE X (.Call (.Name x p) (e::es) [] pos) (iY g f):=
 GE.of (sK hc.callr hg hm hv ha hn hdb hs hpl) λY H A Z S w S' er so e Q hq=>ln er so e Q hq
end
abbrev tyOk (T:Jy)(S:aa):W->Il
 | .str _=>T == "str"
 | .ref i=>(T == "list" && (eO S i).isSome)||(T == "dict" && (iA S i).isSome)
 | _=>false
abbrev Dr (T:Jy)(g:W->Hr W->aa->HA (W×aa))(fo:FE)(f:FA):FE:=λZ S=>match fo Z S with
 | some (x,S1)=>if tyOk T S1 x then match f Z S1 with
  | some (ws,S2)=>g x ws S2
  | none=>gV
  else gV
 | none=>gV
abbrev Gf (fa fb:FE):FE:=zj mX fa fb
noncomputable abbrev FO:=Fm->aa->HA (HA HM×aa)
abbrev Cn:FO:=λ_ S=>ba (gV,S)
abbrev rK (f:FE):FO:=λZ S=>match f Z S with
 | some (.int i,S1)=>ba (ba i,S1)
 | _=>gV
abbrev Eb (fa:FE)(fl fh:FO):FE:=λZ S=>match fa Z S with
 | some (x,S1)=>match fl Z S1 with
  | some (lo,S2)=>match fh Z S2 with
   | some (hi,S3)=>uE x lo hi S3
   | none=>gV
  | none=>gV
 | none=>gV
section
variable{X:Cx}
def tyOk.is {J:Hr (HD×JJ)}{Y:L2.St}{s:Hw}{A:Hr HD}{H:Hp}{S:aa}{T:Jy}{x:W}{a:V}{v:Hu}(I:Inv X J Y H s)(so:StoreOk X.w X.K A H S)(r:Rel X.K A H x a)(rv:RelV a v)(h:tyOk T S x=true) :
  s.TypeIs v T/\∀b,v=.ref b->∃ob,s.heap.get? b=ba ob/\ob.dict=gV:=by
 cases r with
 | str=>exact u4 I rv (show F8 X.K T (.str _) H from eq_of_beq h)
 | ref ea=>
  simp only[tyOk,JY,Hz]at h;rcases h with⟨h1,h2⟩|⟨h1,h2⟩
  ·obtain⟨xs,hx⟩:=Jh.mp h2;obtain⟨vs,h3,_⟩:=aR so hx ea;exact u4 I rv (show F8 X.K T (.ref _) H from .inl #[eq_of_beq h1,vs,h3])
  ·obtain⟨U,hx⟩:=Jh.mp h2;obtain⟨xs,rd,_⟩:=eZ so hx ea;obtain⟨_,_,_,o,es,ep,q1,q2,q3,q4⟩:=bO I rd;have e:=eq_of_beq h1;subst e;obtain rfl:v=IA _:=rv;exact#[#[o,q1,q2.1],λb e=>by cases e; exact#[o,q1,q2.2.1]]
 | _=>cases h
def oq {o e:Ii}{es:Hr Ii}{name:HY}{apos cpos:Kr}{T id:Jy}{g:W->Hr W->aa->HA (W×aa)}{fo:FE}{f:FA}(pa:PlainAttrs T)(slot:Slot T name id)(hty:typeOf (.builtin id)=pure (.type "method_descriptor"))(hm:kS X id g)
  (ho:GE X o fo) (ha:GA X (e::es) f) (hbase:attributeBase o name X.env (eval o X.env)=eval o X.env)
  (hfew:((backTo cpos (starEach (e::es) X.env)).all (λx=>!x.1)&&(backToKw cpos (keywordEach [] X.env)).all (λx=>x.1.isSome)
   && decide ((e::es).length+([]:Hr Pw).length+(if ([]:Hr Pw).isEmpty then 0 else 1) < 30))=true)
  (hline:(apos.endLine==cpos.line)=true) (hs:starEach (e::es) X.env=(false,eval e X.env)::starEach es X.env) (hplain:(backTo cpos (starEach es X.env)).any (·.1)=false) :
  GE X (.Call (.Attribute o name apos) (e::es) [] cpos) (Dr T g fo f):=by
 intro J s Y H Q I ⟨A,Z,S,w,S',er,so,e,hq⟩;unfold Dr at e;split at e
 ·rename_i x S1 h1;split at e
  ·rename_i ht;split at e
   ·rename_i ws S2 h2;refine wpAny_Call_method_late hbase hfew hline rfl (bf (ho J s Y H (EndV X.w X.K A H S1 x) I #[A,Z,S,_,_,er,so,h1,λ_ _ z=>z]) λv s1 #[a,H1,I1,r1,A1,e1,o1,z1]=>?_)
    obtain⟨t1,t2⟩:=tyOk.is I1 o1 z1 r1 ht;refine#[T,id,pa,slot,hty,t1,t2,?_];have hA:=ha cpos J s1 Y H1 (B9 X A1 H1 S2 ws) I1 #[A1,Z,S1,ws,S2,er.mono e1,o1,h2,λ_ _ z=>z]
    rw[hs]at hA ⊢;refine Calls.callWith_builtin (by show(false||(backTo cpos (starEach es X.env)).any (·.1))=false; rw[hplain] <;> rfl) (Calls.evalArgs_plain ?_)
    refine bf hA λus s2 #[vs,H2,I2,r2,A2,e2,o2,z2]=>?_
    refine bf (hm J s2 Y H2 A2 S2 x a v ws vs us w S' I2 o2 (z1.mono e2) r1 z2 r2 e) λu' s' #[v',H',A',I',r',e3,o3,z3]=>?_
    exact#[v',H',I',r',hq v' H' #[A',(e1.trans e2).trans e3,o3,z3]]
   ·cases e
  ·cases e
 ·cases e
def LIx.ixr {g:W->W->aa->HA (W×aa)}(h:LIx X g):IxR X (λa b H Q=>∃A S x y w S',StoreOk X.w X.K A H S/\Rel X.K A H x a/\Rel X.K A H y b/\g x y S=ba (w,S')/\∀v H',EndV X.w X.K A H S' w v H'->Q v H'):=by
 intro value slice J s Y H a b u v Q I ru rv ⟨A,S,x,y,w,S',so,rx,ry,e,hq⟩ hs;exact bf (h value slice J s Y H A S x y a b u v w S' I so rx ru ry rv e hs) λu' s' #[v',H',A',I',r',e1,o1,z1]=>#[v',H',I',r',hq v' H' #[A',e1,o1,z1]]
def Ec {a b:Ii}{pos:Kr}{fa fb:FE}(hu:X.A.units+10 < cLine)(ha:GE X a fa)(hb:GE X b fb)(hs:lP b):GE X (.Subscript a b pos) (Gf fa fb):=
 GE.of (DY (Gd hu).ixr ha hb hs) λY H A Z S w S' er so e Q hq=>by
  obtain⟨x,S1,y,S2,h1,h2,h3⟩:=Fp e;exact gX er so h1 h2 λa b H2 A2 e2 o2 r1 r2=>#[A2,S2,x,y,w,S',o2,r1,r2,h3,λv H' z=>hq v H' (z.after e2)]
abbrev tO (X:Cx)(f:FO):TO:=λY H Q=>∃A Z S k S',EnvRel X.K A H Z Y/\StoreOk X.w X.K A H S/\f Z S=ba (k,S')/\∀H' A',Ext X.K A H A' H'->StoreOk X.w X.K A' H' S'->Q k H'
noncomputable abbrev GO (X:Cx)(e:HA Ii)(f:FO):Prop:=PO X e (tO X f)
def zu:GO X gV Cn:=λJ s Y H Q I #[A,Z,S,k,S',er,so,e,hq]=>by
 cases e;exact yF J s Y H Q I (hq H A .refl so)
def zv {e:Ii}{f:FE}(h:GE X e f):GO X (ba e) (rK f):=λJ s Y H Q I #[A,Z,S,k,S',er,so,e,hq]=>by
 unfold rK at e;split at e
 ·rename_i i S1 h1;cases e;refine yG h J s Y H Q I #[A,Z,S,_,_,er,so,h1,λv H1 #[A1,z1,z2,z3]=>?_]
  cases z3;exact#[i,rfl,hq H1 A1 z1 z2]
 ·cases e
def LSl.slr {g:W->HA HM->HA HM->aa->HA (W×aa)}(h:LSl X g):DX X (λa lo hi H Q=>∃A S x w S',StoreOk X.w X.K A H S/\Rel X.K A H x a/\g x lo hi S=ba (w,S')/\∀v H',EndV X.w X.K A H S' w v H'->Q v H'):=by
 intro J s Y H a v vl vu lo hi sl Q I rv hs pl pu ⟨A,S,x,w,S',so,rx,e,hq⟩;obtain⟨T,id,h1,h2,h3⟩:=h J s Y H A S x a v vl vu lo hi sl w S' I so rx rv hs pl pu e;exact#[T,id,h1,h2,bf h3 λu' s' #[v',H',A',I',r',e1,o1,z1]=>#[v',H',I',r',hq v' H' #[A',e1,o1,z1]]]
def Ed {a:Ii}{lo hi:HA Ii}{p2 pos:Kr}{fa:FE}{fl fh:FO}(ha:GE X a fa)(hl:GO X lo fl)(hh:GO X hi fh):GE X (.Subscript a (.Slice lo hi gV p2) pos) (Eb fa fl fh):=
 GE.of (uX He.slr ha hl hh) λY H A Z S w S' er so e Q hq=>by
  unfold Eb at e;split at e
  ·rename_i x S1 h1;split at e
   ·rename_i l S2 h2;split at e
    ·rename_i h S3 h3;refine#[A,Z,S,x,S1,er,so,h1,λv H1 #[A1,z1,z2,z3]=>?_]
     refine#[A1,Z,S1,l,S2,er.mono z1,z2,h2,λH2 A2 y1 y2=>?_]
     refine#[A2,Z,S2,h,S3,er.mono (z1.trans y1),y2,h3,λH3 A3 x1 x2=>?_]
     exact#[A3,S3,x,w,S',x2,(z3.mono y1).mono x1,e,λv H' q=>hq v H' (q.after ((z1.trans y1).trans x1))]
    ·cases e
   ·cases e
  ·cases e
noncomputable abbrev FF:=Hr W->aa->HA (W×aa)
abbrev v8 (wd:IE)(K:HG)(n:HB)(g:FF):Sp:=λvs H Q _=>∃A S ws w S',StoreOk wd K A H S/\RelL K A H ws vs/\ws.length=n/\g ws S=ba (w,S')/\∀v H',EndV wd K A H S' w v H'->Q v H'
abbrev ou (n:HB)(g:FF)(f:FA):FE:=λZ S=>match f Z S with
 | some (ws,S1)=>if ws.length=n then g ws S1 else gV
 | none=>gV
def ow {n:HB}{g:FF}{f:FA}{Y:L2.St}{H:Hp}{A:Hr HD}{Z:Fm}{S:aa}{w:W}{S':aa}{E:XK}(er:EnvRel X.K A H Z Y)(so:StoreOk X.w X.K A H S)(e:ou n g f Z S=ba (w,S'))(Q:VK)(hq:∀v H',EndV X.w X.K A H S' w v H'->Q v H') :
  uT (v8 X.w X.K n g) [] E (tA X f) Y H Q:=by
 unfold ou at e;split at e
 ·rename_i ws S1 h1;split at e
  ·rename_i hl;refine#[A,Z,S,ws,S1,er,so,h1,λvs H1 #[A1,z1,z2,z3]=>?_]
   show v8 X.w X.K n g (vs++[]) H1 Q E;rw[Jp];exact#[A1,S1,ws,w,S',z2,z3,hl,e,λv H' q=>hq v H' (q.after z1)]
  ·cases e
 ·cases e
def Co {k n:HB}{fa:HD}{fd:Ks}{ps:Hr HY}{g:FF}{x:HY}{e:Ii}{es:Hr Ii}{p pos:Kr}{f:FA}(F:FnOk X.prog X.w X.K X.mg X.base uD k fa fd ps (v8 X.w X.K n g))(hr:Room k X.A)(hg:Gl X x)(hm:X.mg x=ba (.ref fa))(hk:JC X.K (.ref fa)=true)
  (hb:Binds X.K fd ps []) (ha:GA X (e::es) f) (hdb:(x==("__debug__" : HY))=false) (he:starEach (e::es) X.env=(false,eval e X.env)::starEach es X.env) (hpl:(backTo pos (starEach es X.env)).any (·.1)=false) :
  GE X (.Call (.Name x p) (e::es) [] pos) (ou n g f):=
 GE.of (yC F hr hg hm hk hb .nil AM ha hdb he hpl) λY H A Z S w S' er so e Q hq=>ow er so e Q hq
def zw {k n:HB}{fa:HD}{fd:Ks}{ps:Hr HY}{g:FF}{x:HY}{p pos:Kr}(F:FnOk X.prog X.w X.K X.mg X.base uD k fa fd ps (v8 X.w X.K n g))(hr:Room k X.A)(hg:Gl X x)(hm:X.mg x=ba (.ref fa))(hk:JC X.K (.ref fa)=true)
  (hb:Binds X.K fd ps []) (hdb:(x==("__debug__" : HY))=false):GE X (.Call (.Name x p) [] [] pos) (ou n g i9):=
 GE.of (uV F hr hg hm hk hb .nil AM hdb) λY H A Z S w S' er so e Q hq=>by
  obtain⟨A1,S1,ws,w1,S1',a1,a2,a3,a4,a5⟩:=ow (f:=i9) (E:=E0) er so e Q hq |> λ#[A,Z,S,ws,S',b1,b2,b3,b4]=>b4 [] H (by cases b3; exact#[A,.refl,b2,.nil])
  exact#[A1,S1,ws,w1,S1',a1,a2,a3,a4,a5]
def zx:GSs X [] (λZ S=>ba (.nx Z,S)):=GSs.of yr λY H A Z S o S' er so e D hd=>by cases e; exact hd.nx _ _ #[Z,A,rfl,.refl,so,er]
abbrev zy (f g:FS):FS:=λZ S=>match f Z S with
 | some (.nx Z',S1)=>g Z' S1
 | some (.rt w,S1)=>ba (.rt w,S1)
 | some (.bk Z',S1)=>ba (.bk Z',S1)
 | some (.ct Z',S1)=>ba (.ct Z',S1)
 | none=>gV
def wa {st:KO}{sts:Hr KO}{f g:FS}(h:GS X st f)(h2:GSs X sts g):GSs X (st::sts) (zy f g):=GSs.of (uN h h2) λY H A Z S o S' er so e D hd=>by
 unfold zy at e;split at e
 ·rename_i Z1 S1 h1;refine#[A,Z,S,_,_,er,so,h1,#[λY' H' #[Z',A',e1,e2,e3,e4]=>?_,λv H' #[w,A',e1,_]=>(by cases e1),λv H' #[w,A',e1,_]=>(by cases e1),λv H' #[w,A',e1,_]=>(by cases e1)]]
  cases e1;exact#[A',_,S1,o,S',e4,e3,e,(EndS.after e2).trans hd]
 ·rename_i w S1 h1;cases e;exact#[A,Z,S,_,_,er,so,h1,#[λY' H' #[w,A',e1,_]=>(by cases e1),hd.rt,hd.bk,hd.ct]]
 ·rename_i w S1 h1;cases e;exact#[A,Z,S,_,_,er,so,h1,#[λY' H' #[w,A',e1,_]=>(by cases e1),hd.rt,hd.bk,hd.ct]]
 ·rename_i w S1 h1;cases e;exact#[A,Z,S,_,_,er,so,h1,#[λY' H' #[w,A',e1,_]=>(by cases e1),hd.rt,hd.bk,hd.ct]]
 ·cases e
abbrev zz (f:FE):FS:=λZ S=>match f Z S with
 | some (_,S1)=>ba (.nx Z,S1)
 | none=>gV
def Ee {e:Ii}{pos:Kr}{f:FE}(h:GE X e f)(hs:swapsWith e gV pos.line X.env=pure false):GS X (.Expr e pos) (zz f):=GS.of (yu h hs) λY H A Z S o S' er so e D hd=>by
 unfold zz at e;split at e
 ·rename_i w S1 h1;cases e;exact#[A,Z,S,w,_,er,so,h1,λv H1 #[A1,z1,z2,z3]=>hd.nx _ _ #[Z,A1,rfl,z1,z2,er.mono z1]]
 ·cases e
abbrev wb:FS:=λZ S=>ba (.nx Z,S)
def Cp {x:HY}{j:HB}{pos pos':Kr}:GS X (.Expr (.Constant (.str x) j pos) pos') wb:=GS.of By λY H A Z S o S' er so e D hd=>by cases e; exact hd.nx _ _ #[Z,A,rfl,.refl,so,er]
def zA {pos:Kr}:GS X (.Pass pos) wb:=GS.of yt λY H A Z S o S' er so e D hd=>by cases e; exact hd.nx _ _ #[Z,A,rfl,.refl,so,er]
abbrev zB (f:FE):FS:=λZ S=>match f Z S with
 | some (w,S1)=>ba (.rt w,S1)
 | none=>gV
def Cq {e:Ii}{pos:Kr}{f:FE}(h:GE X e f):GS X (.Return (ba e) pos) (zB f):=GS.of (Bz h) λY H A Z S o S' er so e D hd=>by
 unfold zB at e;split at e
 ·rename_i w S1 h1;cases e;exact#[A,Z,S,w,_,er,so,h1,λv H1 #[A1,z1,z2,z3]=>hd.rt _ _ #[w,A1,rfl,z1,z2,z3]]
 ·cases e
abbrev zC (c:FT)(f g:FS):FS:=λZ S=>match c Z S with
 | some (true,S1)=>f Z S1
 | some (false,S1)=>g Z S1
 | none=>gV
def Ef {c:Ii}{a b:Hr KO}{pos:Kr}{fc:FT}{f g:FS}(hc:GT X c fc)(ha:GSs X a f)(hb:GSs X b g):GS X (.If c a b pos) (zC fc f g):=GS.of (DD hc ha hb) λY H A Z S o S' er so e D hd=>by
 unfold zC at e;split at e
 ·rename_i S1 h1;refine#[A,Z,S,_,S1,er,so,h1,λb H1 #[z0,A1,z1,z2]=>?_]
  subst z0;rw[Ic rfl];exact#[A1,Z,S1,o,S',er.mono z1,z2,e,(EndS.after z1).trans hd]
 ·rename_i S1 h1;refine#[A,Z,S,_,S1,er,so,h1,λb H1 #[z0,A1,z1,z2]=>?_]
  subst z0;rw[Im Ih];exact#[A1,Z,S1,o,S',er.mono z1,z2,e,(EndS.after z1).trans hd]
 ·cases e
noncomputable abbrev FG:=W->Fm->aa->HA (Fm×aa)
abbrev tG (X:Cx)(f:FG):TG:=λv Y H Q=>∃A Z S w Z' S',EnvRel X.K A H Z Y/\StoreOk X.w X.K A H S/\Rel X.K A H w v/\f w Z S=ba (Z',S')/\∀Y' H' A',Ext X.K A H A' H'->StoreOk X.w X.K A' H' S'->EnvRel X.K A' H' Z' Y'->Q Y' H'
noncomputable abbrev GG (X:Cx)(tg:Ii)(f:FG):Prop:=PG X tg (tG X f)
abbrev zD (i:HB):FG:=λw Z S=>ba (Z.set i (ba w),S)
def rL {i:HB}{x:HY}{pos:Kr}(hN:X.N.Nodup)(hi:X.N[i]?=ba x)(hx:yo X.env.scope x)(hf:X.fn x=true\/X.env.scope.names.lookup x=ba .local):GG X (.Name x pos) (zD i):=by
 intro J s Y H v u Q I r ⟨A,Z,S,w,Z',S',er,so,rw',e,hq⟩;cases e;exact qP hN hi hx hf J s Y H v u Q I r (hq _ _ A .refl so (er.set rw' i))
abbrev dv:Hr HB->Hr W->Fm->HA Fm
 | [],[],Z=>ba Z
 | i::is,w::ws,Z=>dv is ws (Z.set i (ba w))
 | _,_,_=>gV
abbrev Ds (is:Hr HB):FG:=λw Z S=>match w with
 | .tup ws=>(dv is ws Z).map λZ'=>(Z',S)
 | _=>gV
def tQ:∀ {ts:Hr Ii} {is:Hr HB},(∀x∈ts,∃y p,x=.Name y p)->Nf (λ(t:Ii) (i:HB)=>∃x p,t=N2 x p/\X.N[i]?=ba x/\yo X.env.scope x/\(X.fn x=true\/X.env.scope.names.lookup x=ba .local)) ts is->X.N.Nodup->
  DE X ts (λvs Y H Q=>∃A Z ws Z' S,EnvRel X.K A H Z Y/\StoreOk X.w X.K A H S/\RelL X.K A H ws vs/\dv is ws Z=ba Z'/\∀Y',EnvRel X.K A H Z' Y'->Q Y' H):=by
 intro ts
 induction ts with
 | nil=>
  intro is _ h hN;cases h;intro J s Y H vs us Q I r ⟨A,Z,ws,Z',S,er,so,rl,e,hq⟩;cases rl with
  | nil=>cases e; exact yv J s Y H [] us Q I r #[rfl,hq _ er]
  | cons _ _=>cases e
 | cons t ts ih=>
  intro is hs h hN;cases h with
  | cons h1 h2=>
   obtain⟨x,p,rfl,hi,hl,hf⟩:=h1;have:=ih (λy hy=>hs y (Ji _ hy)) h2 hN
   intro J s Y H vs us Q I r ⟨A,Z,ws,Z',S,er,so,rl,e,hq⟩;cases rl with
   | nil=>cases e
   | cons r1 r2=>
    refine uO (qP hN hi hl hf) this rfl J s Y H _ us Q I r #[_,_,rfl,?_];exact#[A,_,_,Z',S,er.set r1 _,so,r2,e,hq]
def Cr {ts:Hr Ii}{is:Hr HB}{k:HB}{pos:Kr}(hc:X.calm=true)(hs:∀x∈ts,∃y p,x=.Name y p)(h:Nf (λ(t:Ii) (i:HB)=>∃x p,t=N2 x p/\X.N[i]?=ba x/\yo X.env.scope x/\(X.fn x=true\/X.env.scope.names.lookup x=ba .local)) ts is)(hN:X.N.Nodup)
  (hn:(assignEach ts X.env).length=ts.length) (hst:(assignEach ts X.env).findIdx? (·.1)=gV):GG X (.Tuple ts k pos) (Ds is):=by
 intro J s Y H v u Q I r ⟨A,Z,S,w,Z',S',er,so,rw',e,hq⟩;unfold Ds at e;split at e
 ·rw[Hy]at e;obtain⟨Z1,e1,e2⟩:=e;cases e2;cases rw' with
  | tup h1 r1=>
   have hl:∀(is:Hr HB) (ws:Hr W) (Z Z':Fm),dv is ws Z=ba Z'->is.length=ws.length:=by
    intro is
    induction is with
    | nil=>intro ws Z Z' e; cases ws <;> first|rfl|cases e
    | cons i is ih=>intro ws Z Z' e; cases ws <;> first|cases e|(simp; exact ih _ _ _ e)
   exact BE hc (tQ hs h hN) hn hst J s Y H _ u Q I r #[_,_,rfl,h1,by rw[<- r1.length,<- hl _ _ _ _ e1,<- M3 h],A,Z,_,_,_,er,so,r1,e1,λY' z=>hq _ _ A .refl so z]
 ·cases e
abbrev zE (fo fi:FE):FG:=λw Z S=>match fo Z S with
 | some (o,S1)=>match fi Z S1 with
  | some (i,S2)=>match gT o i w S2 with
   | some S3=>ba (Z,S3)
   | none=>gV
  | none=>gV
 | none=>gV
def LSet.pset {g:W->W->W->aa->HA aa}(h:LSet X g):BC X (λao ai av H Q=>∃A S o i w S',StoreOk X.w X.K A H S/\Rel X.K A H o ao/\Rel X.K A H i ai/\Rel X.K A H w av/\g o i w S=ba S'/\∀H' A',Ext X.K A H A' H'->StoreOk X.w X.K A' H' S'->Q H'):=by
 intro J s Y H ao ai av uo ui uv Q I ro ri rv ⟨A,S,o,i,w,S',so,r1,r2,r3,e,hq⟩;exact bf (h J s Y H A S o i w ao ai av uo ui uv S' I so r1 ro r2 ri r3 rv e) λ_ s' #[H',A',I',e1,o1]=>#[H',I',hq H' A' e1 o1]
def Cs {o i:Ii}{pos:Kr}{fo fi:FE}(hu:X.A.units+10 < cLine)(ho:GE X o fo)(hi:GE X i fi)(ha:∀v,assign (.Subscript o i pos) X.env v=(do
   let ov <- holding [v] (eval o X.env)
   let iv <- holding [v,ov] (eval i X.env)
   standAt pos
   holding [v,ov,iv] (setItem ov iv v)
   release [v,ov,iv] [])):GG X (.Subscript o i pos) (zE fo fi):=by
 intro J s Y H v u Q I r ⟨A,Z,S,w,Z',S',er,so,rw',e,hq⟩;unfold zE at e;split at e
 ·rename_i o' S1 h1;split at e
  ·rename_i i' S2 h2;split at e
   ·rename_i S3 h3;cases e;refine BF ho hi (D5 hu).pset ha J s Y H v u Q I r ?_;refine#[A,Z,S,o',S1,er,so,h1,λa H1 #[A1,e1,o1,r1]=>?_]
    refine#[A1,Z,S1,i',S2,er.mono e1,o1,h2,λb H2 #[A2,e2,o2,r2]=>?_]
    exact#[A2,S2,o',i',w,_,o2,r1.mono e2,r2,rw'.mono (e1.trans e2),h3,λH' A' z1 z2=>hq Y H' A' ((e1.trans e2).trans z1) z2 (er.mono ((e1.trans e2).trans z1))]
   ·cases e
  ·cases e
 ·cases e
abbrev jN (f:FE)(g:FG):FS:=λZ S=>match f Z S with
 | some (w,S1)=>match g w Z S1 with
  | some (Z',S2)=>ba (.nx Z',S2)
  | none=>gV
 | none=>gV
def qr {tg e:Ii}{pos:Kr}{f:FE}{g:FG}(h:GE X e f)(hg:GG X tg g)(hs:swapsWithSole [tg] e pos.line X.env=pure false)(hw:swappedStores [tg] e X.env=pure gV)(h1:(assignEach [tg] X.env).map (·.2)=[assign tg X.env]) :
  GS X (.Assign [tg] e pos) (jN f g):=GS.of (BG h hg hs hw h1) λY H A Z S o S' er so e D hd=>by
 unfold jN at e;split at e
 ·rename_i w S1 h1;split at e
  ·rename_i Z1 S2 h2;cases e;refine#[A,Z,S,w,S1,er,so,h1,λv H1 #[A1,z1,z2,z3]=>?_]
   exact#[A1,Z,S1,w,Z1,_,er.mono z1,z2,z3,h2,λY' H' A' y1 y2 y3=>hd.nx _ _ #[Z1,A',rfl,z1.trans y1,y2,y3]]
  ·cases e
 ·cases e
abbrev zF (i j:HB)(f:FA):FS:=λZ S=>match f Z S with
 | some ([x,y],S1)=>ba (.nx ((Z.set i (ba x)).set j (ba y)),S1)
 | _=>gV
def Ct {i j:HB}{x y:HY}{a b:Ii}{f:FA}{px py pt pos:Kr}{kt k2:HB}{pt2:Kr}(hc:X.calm=true)(hN:X.N.Nodup)(hi:X.N[i]?=ba x)(hj:X.N[j]?=ba y)(hij:i≠j)
  (hx:X.env.scope.names.lookup x=ba .local) (hy:X.env.scope.names.lookup y=ba .local) (ha:GA X [a,b] f)
  (hw:swappedStores [.Tuple [.Name x px,.Name y py] kt pt] (.Tuple [a,b] k2 pt2) X.env=pure (ba [x,y]))
  (hs:swapsWithSole [.Tuple [.Name x px,.Name y py] kt pt] (.Tuple [a,b] k2 pt2) pos.line X.env=pure false) :
  GS X (.Assign [.Tuple [.Name x px,.Name y py] kt pt] (.Tuple [a,b] k2 pt2) pos) (zF i j f):=GS.of (BH hc hN hi hj hij hx hy ha hw hs) λY H A Z S o S' er so e D hd=>by
 unfold zF at e;split at e
 ·rename_i x y S1 h1;cases e;refine#[A,Z,S,_,_,er,so,h1,λvs H1 #[A1,z1,z2,z3]=>?_]
  cases z3 with
  | cons r1 t=>
   cases t with
   | cons r2 t=>
    cases t;exact#[_,_,rfl,hd.nx _ _ #[_,A1,rfl,z1,z2,((er.mono z1).set r1 i).set r2 j]]
 ·cases e
abbrev mw (c:FT)(b:FS):HB->FS
 | 0,_,_=>gV
 | n+1,Z,S=>match c Z S with
  | some (true,S1)=>match b Z S1 with
   | some (.nx Z',S2)=>mw c b n Z' S2
   | some (.ct Z',S2)=>mw c b n Z' S2
   | some (.bk Z',S2)=>ba (.nx Z',S2)
   | some (.rt w,S2)=>ba (.rt w,S2)
   | none=>gV
  | some (false,S1)=>ba (.nx Z,S1)
  | none=>gV
def wc {c:Ii}{body:Hr KO}{pos:Kr}{fc:FT}{fb:FS}(n:HB)(hp:N1 (model X.prog X.w) X.A X.env X.xe)(hc:GT X c fc)(hb:GSs X body fb):GS X (.While c body [] pos) (mw fc fb n):=GS.of (uP hp hc hb) λY H A Z S o S' er so e D hd=>by
 refine#[λm Y1 H1=>∃A1 Z1 S1,Ext X.K A H A1 H1/\EnvRel X.K A1 H1 Z1 Y1/\StoreOk X.w X.K A1 H1 S1/\mw fc fb m Z1 S1=ba (o,S'),#[n,A,Z,S,.refl,er,so,e],?_]
 rintro m Y1 H1 ⟨A1,Z1,S1,e1,er1,so1,w1⟩;cases m with
 | zero=>cases w1
 | succ m=>
  simp only[mw]at w1;split at w1
  ·rename_i S2 h1;refine#[A1,Z1,S1,_,S2,er1,so1,h1,λb H2 #[z0,A2,z1,z2]=>?_]
   subst z0;rw[Ic rfl];refine#[λY3 H3=>∃A3 Z3 S3,Ext X.K A H A3 H3/\EnvRel X.K A3 H3 Z3 Y3/\StoreOk X.w X.K A3 H3 S3/\mw fc fb m Z3 S3=ba (o,S'),λY' H' h=>#[m,Jq _,h],?_]
   split at w1
   ·rename_i Z3 S3 h3;refine#[A2,Z1,S2,_,S3,er1.mono z1,z2,h3,#[λY' H' #[Z',A',y0,y1,y2,y3]=>?_,λv H' #[w,A',y0,_]=>(by cases y0),λv H' #[w,A',y0,_]=>(by cases y0),λv H' #[w,A',y0,_]=>(by cases y0)]]
    cases y0;exact#[A',_,S3,(e1.trans z1).trans y1,y3,y2,w1]
   ·rename_i Z3 S3 h3;refine#[A2,Z1,S2,_,S3,er1.mono z1,z2,h3,#[λv H' #[w,A',y0,_]=>(by cases y0),λv H' #[w,A',y0,_]=>(by cases y0),λv H' #[w,A',y0,_]=>(by cases y0),λY' H' #[Z',A',y0,y1,y2,y3]=>?_]]
    cases y0;exact#[A',_,S3,(e1.trans z1).trans y1,y3,y2,w1]
   ·rename_i Z3 S3 h3;cases w1;refine#[A2,Z1,S2,_,_,er1.mono z1,z2,h3,#[λv H' #[w,A',y0,_]=>(by cases y0),λv H' #[w,A',y0,_]=>(by cases y0),λY' H' #[Z',A',y0,y1,y2,y3]=>?_,λv H' #[w,A',y0,_]=>(by cases y0)]]
    cases y0;exact hd.nx _ _ #[_,A',rfl,(e1.trans z1).trans y1,y2,y3]
   ·rename_i w3 S3 h3;cases w1;refine#[A2,Z1,S2,_,_,er1.mono z1,z2,h3,#[λv H' #[w,A',y0,_]=>(by cases y0),λv H' #[w,A',y0,y1,y2,y3]=>?_,λv H' #[w,A',y0,_]=>(by cases y0),λv H' #[w,A',y0,_]=>(by cases y0)]]
    cases y0;exact hd.rt _ _ #[_,A',rfl,(e1.trans z1).trans y1,y2,y3]
   ·cases w1
  ·rename_i S2 h1;cases w1;refine#[A1,Z1,S1,_,_,er1,so1,h1,λb H2 #[z0,A2,z1,z2]=>?_]
   subst z0;rw[Im Ih];exact hd.nx _ _ #[_,A2,rfl,e1.trans z1,z2,er1.mono z1]
  ·cases w1
end
inductive MI where
 | its (ws:Hr W)
 | live (r:HB)
 | zl (r q:HB)
abbrev ox (xs ys:Hr W):Hr W:=HR (λx y=>.tup [x,y]) xs ys
abbrev MI.at (S:aa)(i:HB):MI->HA (HA W)
 | .its ws=>ba ws[i]?
 | .live r=>match eO S r with
  | some xs=>ba xs[i]?
  | none=>gV
 | .zl r q=>match eO S r,eO S q with
  | some xs,ba ys=>ba (ox xs ys)[i]?
  | _,_=>gV
abbrev MI.len (S:aa):MI->HA HB
 | .its ws=>ba ws.length
 | .live r=>(eO S r).map (·.length)
 | .zl r q=>match eO S r,eO S q with
  | some xs,ba ys=>ba (ox xs ys).length
  | _,_=>gV
noncomputable abbrev FI:=Fm->aa->HA (MI×aa)
structure MIt (wd:IE)(K:HG)(mi:MI)(td:It)(A0:Hr HD)(H0:Hp):Prop where
 go:∀A H S i w,Ext K A0 H0 A H->StoreOk wd K A H S->mi.at S i=ba (ba w)->td.go i H/\∀x H',td.yld i H x H'->Ext K A H A H'/\StoreOk wd K A H' S/\Rel K A H' w x
 stop:∀A H S i,Ext K A0 H0 A H->StoreOk wd K A H S->mi.at S i=ba gV->td.stop i H
abbrev tI (X:Cx)(f:FI):TI:=λY H R=>∃A Z S mi S',EnvRel X.K A H Z Y/\StoreOk X.w X.K A H S/\f Z S=ba (mi,S')/\∀td H' A',Ext X.K A H A' H'->StoreOk X.w X.K A' H' S'->MIt X.w X.K mi td A' H'->R td H'
noncomputable abbrev GI (X:Cx)(tg iter:Ii)(f:FI):Prop:=PI X tg iter (tI X f)
abbrev zG (f:FE):FI:=λZ S=>match f Z S with
 | some (.tup ws,S1)=>ba (.its ws,S1)
 | some (.ref r,S1)=>match eO S1 r with
  | some _=>ba (.live r,S1)
  | none=>gV
 | _=>gV
abbrev cg (lo:HM)(n:HB):Hr W:=(Ix n).map λ(k:HB)=>.int (lo+(k:HM))
abbrev qt (f:FA):FI:=λZ S=>match f Z S with
 | some ([.int j],S1)=>if -(2 ^ 62)<=j/\j < 2 ^ 62 then ba (.its (cg 0 j.toNat),S1)else gV
 | _=>gV
abbrev iRng2 (f:FA):FI:=λZ S=>match f Z S with
 | some ([.int i,.int j],S1)=>if -(2 ^ 62)<=i/\i < 2 ^ 62/\-(2 ^ 62)<=j/\j < 2 ^ 62 then ba (.its (cg i (j - i).toNat),S1)else gV
 | _=>gV
abbrev fe (mi:MI)(g:FG)(b:FS):HB->HB->FS
 | 0,i,Z,S=>match mi.at S i with
  | some gV=>ba (.nx Z,S)
  | _=>gV
 | n+1,i,Z,S=>match mi.at S i with
  | some (ba w)=>match g w Z S with
   | some (Z1,S1)=>match b Z1 S1 with
    | some (.nx Z2,S2)=>fe mi g b n (i+1) Z2 S2
    | some (.ct Z2,S2)=>fe mi g b n (i+1) Z2 S2
    | some (.bk Z2,S2)=>ba (.nx Z2,S2)
    | some (.rt w,S2)=>ba (.rt w,S2)
    | none=>gV
   | none=>gV
  | _=>gV
abbrev we (fi:FI)(g:FG)(b:FS):FS:=λZ S=>match fi Z S with
 | some (mi,S1)=>match mi.len S1 with
  | some n=>fe mi g b n 0 Z S1
  | none=>gV
 | none=>gV
section
variable{X:Cx}
def zH {A:Hr HD}{H:Hp}{ws:Hr W}{a:HD}{vs:Hr V}(h:SqT X.K H a vs)(r:RelL X.K A H ws vs):MIt X.w X.K (.its ws) (FQ X.K a) A H:=by
 refine#[λA' H' S i w e so hi=>?_,λA' H' S i e so hi=>?_]
 ·simp only[MI.at,Iv]at hi;obtain⟨v,h1,h2⟩:=(r.mono e).get hi;refine#[#[vs,v,e.tp _ _ h,h1],λx H2 #[z1,z2]=>?_]
  subst z1;have:=z2 vs (e.tp _ _ h);rw[h1]at this; cases this
  exact#[.refl,so,h2]
 ·simp only[MI.at,Iv]at hi;refine#[vs,e.tp _ _ h,?_];rw[<- r.length];exact IT.mp hi
def zI {A:Hr HD}{H:Hp}{r:HB}{a:HD}(ea:A[r]?=ba a):MIt X.w X.K (.live r) (FP X.K a) A H:=by
 refine#[λA' H' S i w e so hi=>?_,λA' H' S i e so hi=>?_]
 ·simp only[MI.at]at hi;split at hi
  ·rename_i xs hx;simp only[Iv]at hi;obtain⟨vs,h1,r1⟩:=aR so hx (e.ad _ _ ea);obtain⟨v,h2,h3⟩:=r1.get hi;refine#[#[vs,v,h1,h2],λx H2 #[z1,z2]=>?_]
   subst z1;have:=z2 vs h1;rw[h2]at this; cases this
   exact#[.refl,so,h3]
  ·cases hi
 ·simp only[MI.at]at hi;split at hi
  ·rename_i xs hx;simp only[Iv]at hi;obtain⟨vs,h1,r1⟩:=aR so hx (e.ad _ _ ea);refine#[vs,h1,?_];rw[<- r1.length];exact IT.mp hi
  ·cases hi
def dw {lo:HM}{n i:HB}:(cg lo n)[i]?=if i < n then ba (.int (lo+i))else gV:=by
 unfold cg;rw[HF]
 by_cases h:i < n
 ·rw[Ic h,Kl h]; rfl
 ·rw[Im h,IT.mpr (by simp; omega)]; rfl
def rM {A:Hr HD}{H:Hp}{lo:HM}{n:HB}:MIt X.w X.K (.its (cg lo n)) (DJ lo n) A H:=by
 refine#[λA' H' S i w e so hi=>?_,λA' H' S i e so hi=>?_]
 ·simp only[MI.at,Iv]at hi;rw[dw]at hi;split at hi
  ·cases hi;refine#[by assumption,λx H2 #[z1,z2]=>?_]
   subst z1 z2;exact#[.refl,so,.int]
  ·cases hi
 ·simp only[MI.at,Iv]at hi;rw[dw]at hi;split at hi
  ·cases hi
  ·show n<=i;omega
def oy {tg:Ii}{J:Hr (HD×JJ)}{Y:L2.St}{H1:Hp}{s1:Hw}{R:It->Hp->Prop}{a:HD}{xs:Hr V}{v:Hu}(I1:Inv X J Y H1 s1)(r1:RelV (.ref a) v)(hq:SqL X.K H1 a xs)(q:R (FP X.K a) H1) :
  wpAny (model X.prog X.w) X.A (pyIter v) (DI X J Y tg R) X.xe s1:=by
 cases r1;obtain⟨its,rv,p,hz⟩:=I1.list hq;refine KJ p.isList ?_;refine#[s1.heap.objs.size,[s1.heap.objs.size],_,_,H1,rfl,I1.kept (t':=s1.toks) λb o e=>Ht _ e,sF a _,#[_,HI _ rfl,rfl,rfl],λb hb=>?_,q]
 have e:b=s1.heap.objs.size:=by simpa using hb
 subst e;exact I1.fpOk (HE _) (I1.hok.fresh (HE _))
def qu {tg:Ii}{J:Hr (HD×JJ)}{Y:L2.St}{H1:Hp}{s1:Hw}{R:It->Hp->Prop}{a:HD}{xs:Hr V}{v:Hu}(I1:Inv X J Y H1 s1)(r1:RelV (.ref a) v)(hq:SqT X.K H1 a xs)(q:R (FQ X.K a) H1) :
  wpAny (model X.prog X.w) X.A (pyIter v) (DI X J Y tg R) X.xe s1:=by
 cases r1;obtain⟨its,rv,p,hz⟩:=I1.tuple hq;refine MN (show s1.heap.IsTuple a its.toArray from p) ?_
 refine#[s1.heap.objs.size,[s1.heap.objs.size],_,_,H1,rfl,I1.kept (t':=s1.toks) λb o e=>Ht _ e,pM a _,#[_,HI _ rfl,rfl,rfl],λb hb=>?_,q]
 have e:b=s1.heap.objs.size:=by simpa using hb
 subst e;exact I1.fpOk (HE _) (I1.hok.fresh (HE _))
def zJ {tg a:Ii}{f:FA}{p pos:Kr}(hg:Gl X "range")(hm:X.mg "range" = gV)(ha:GA X [a] f)(hs:starEach [a] X.env=[(false,eval a X.env)]):GI X tg (.Call (.Name "range" p) [a] [] pos) (qt f):=by
 intro J s Y H R I ⟨A,Z,S,mi,S',er,so,e,hq⟩;unfold qt at e;split at e
 ·rename_i j S1 h1;split at e
  ·rename_i hj;cases e;refine sG hg hm ha hs J s Y H R I #[A,Z,S,_,_,er,so,h1,λvs H1 #[A1,z1,z2,z3]=>?_]
   cases z3 with
   | cons r1 t=>
    cases t;cases r1;exact#[j,rfl,hj.1,hj.2,hq _ _ A1 z1 z2 rM]
  ·cases e
 ·cases e
def zK {tg a b:Ii}{f:FA}{p pos:Kr}(hg:Gl X "range")(hm:X.mg "range" = gV)(ha:GA X [a,b] f)(hs:starEach [a,b] X.env=[(false,eval a X.env),(false,eval b X.env)])(hs2:starEach [b] X.env=[(false,eval b X.env)]):GI X tg (.Call (.Name "range" p) [a,b] [] pos) (iRng2 f):=by
 intro J s Y H R I ⟨A,Z,S,mi,S',er,so,e,hq⟩;unfold iRng2 at e;split at e
 ·rename_i i j S1 h1;split at e
  ·rename_i hj;cases e;refine sH hg hm ha hs hs2 J s Y H R I #[A,Z,S,_,_,er,so,h1,λvs H1 #[A1,z1,z2,z3]=>?_]
   cases z3 with
   | cons r1 t=>
    cases t with
    | cons r2 t=>
     cases t;cases r1;cases r2;exact#[i,j,rfl,hj,hq _ _ A1 z1 z2 rM]
  ·cases e
 ·cases e
def Cu {tg l:Ii}{f:FE}(h:GE X l f):GI X tg l (zG f):=by
 intro J s Y H R I ⟨A,Z,S,mi,S',er,so,e,hq⟩;unfold zG at e;split at e
 ·rename_i ws S1 h1;cases e;refine bf (h J s Y H (EndV X.w X.K A H _ (.tup ws)) I #[A,Z,S,_,_,er,so,h1,λ_ _ z=>z]) λv s1 #[x,H1,I1,r1,A1,e1,o1,z1]=>?_
  cases z1 with
  | tup hq1 rl=>
   refine qu I1 r1 hq1 (hq _ _ A1 e1 o1 (zH hq1 rl))
 ·rename_i r S1 h1;split at e
  ·rename_i ys hy;cases e;refine bf (h J s Y H (EndV X.w X.K A H _ (.ref r)) I #[A,Z,S,_,_,er,so,h1,λ_ _ z=>z]) λv s1 #[x,H1,I1,r1,A1,e1,o1,z1]=>?_
   cases z1 with
   | ref ea=>
    obtain⟨vs,hl,_⟩:=aR o1 hy ea;exact oy I1 r1 hl (hq _ _ A1 e1 o1 (zI ea))
  ·cases e
 ·cases e
def Cv {tg iter:Ii}{body:Hr KO}{pos:Kr}{fi:FI}{g:FG}{fb:FS}(hp:N1 (model X.prog X.w) X.A X.env X.xe)(hc:X.calm=true)(hi:GI X tg iter fi)(hg:GG X tg g)(hb:GSs X body fb)
  (hs:∀x,foldedSetIterable iter X.env x=pure x):GS X (.For tg iter body [] pos) (we fi g fb):=GS.of (BJ hp hc hi hg hb hs) λY H A Z S o S' er so e D hd=>by
 unfold we at e;split at e
 ·rename_i mi S1 h1;split at e
  ·rename_i n hn;refine#[A,Z,S,mi,S1,er,so,h1,λtd H1 A1 z1 z2 mit=>?_]
   refine#[λi m Y2 H2=>∃A2 Z2 S2,Ext X.K A1 H1 A2 H2/\EnvRel X.K A2 H2 Z2 Y2/\StoreOk X.w X.K A2 H2 S2/\fe mi g fb m i Z2 S2=ba (o,S'),#[n,A1,Z,S1,.refl,er.mono z1,z2,e],?_]
   rintro i m Y2 H2 ⟨A2,Z2,S2,e2,er2,so2,w2⟩;cases m with
   | zero=>
    dsimp only[fe]at w2;split at w2
    ·rename_i hs;cases w2;exact .inl #[mit.stop A2 H2 _ i e2 so2 hs,hd.nx _ _ #[_,A2,rfl,z1.trans e2,so2,er2]]
    ·cases w2
   | succ m=>
    dsimp only[fe]at w2;split at w2
    ·rename_i w hw;obtain⟨go,yl⟩:=mit.go A2 H2 S2 i w e2 so2 hw;refine .inr #[go,λY3 H3=>∃A3 Z3 S3,Ext X.K A1 H1 A3 H3/\EnvRel X.K A3 H3 Z3 Y3/\StoreOk X.w X.K A3 H3 S3/\fe mi g fb m (i+1) Z3 S3=ba (o,S'),λY' H' h=>#[m,Jq _,h],λx H3 hy=>?_]
     obtain⟨x1,x2,x3⟩:=yl x H3 hy;split at w2
     ·rename_i Z3 S3 h3;refine#[A2,Z2,S2,w,Z3,S3,er2.mono x1,x2,x3,h3,λY4 H4 A4 y1 y2 y3=>?_]
      have ex:Ext X.K A1 H1 A4 H4:=(e2.trans x1).trans y1;split at w2
      ·rename_i Z5 S5 h5;refine#[A4,Z3,S3,_,S5,y3,y2,h5,#[λY' H' #[Z',A',u0,u1,u2,u3]=>?_,λv H' #[w,A',y0,_]=>(by cases y0),λv H' #[w,A',y0,_]=>(by cases y0),λv H' #[w,A',y0,_]=>(by cases y0)]]
       cases u0;exact#[A',_,S5,ex.trans u1,u3,u2,w2]
      ·rename_i Z5 S5 h5;refine#[A4,Z3,S3,_,S5,y3,y2,h5,#[λv H' #[w,A',y0,_]=>(by cases y0),λv H' #[w,A',y0,_]=>(by cases y0),λv H' #[w,A',y0,_]=>(by cases y0),λY' H' #[Z',A',u0,u1,u2,u3]=>?_]]
       cases u0;exact#[A',_,S5,ex.trans u1,u3,u2,w2]
      ·rename_i Z5 S5 h5;cases w2;refine#[A4,Z3,S3,_,_,y3,y2,h5,#[λv H' #[w,A',y0,_]=>(by cases y0),λv H' #[w,A',y0,_]=>(by cases y0),λY' H' #[Z',A',u0,u1,u2,u3]=>?_,λv H' #[w,A',y0,_]=>(by cases y0)]]
       cases u0;exact hd.nx _ _ #[_,A',rfl,(z1.trans ex).trans u1,u2,u3]
      ·rename_i w5 S5 h5;cases w2;refine#[A4,Z3,S3,_,_,y3,y2,h5,#[λv H' #[w,A',y0,_]=>(by cases y0),λv H' #[w,A',u0,u1,u2,u3]=>?_,λv H' #[w,A',y0,_]=>(by cases y0),λv H' #[w,A',y0,_]=>(by cases y0)]]
       cases u0;exact hd.rt _ _ #[_,A',rfl,(z1.trans ex).trans u1,u2,u3]
      ·cases w2
     ·cases w2
    ·cases w2
  ·cases e
 ·cases e
end
section
variable{prog:Iw}{w:IE}{B:IB}{E:Hu->Hw->Prop}{s:Hw}
def zL {d:HD}{es:Ik Kj}{ep:HB}{Q:Hu->Hw->Prop}(hd:(d==sysModules)=false)(hm:RawD d es ep s.heap)(hfit:(es.size:HM) < 2 ^ 63)
  (h:Q (.int es.size (s.toks+1)) { s with toks:=s.toks+1+1 }):wpAny (model prog w) B (call (.builtin "len") [.ref d]) Q E s:=by
 have hT:=hm.type;obtain⟨o,ho,hc,hdat⟩:=id hm;refine Lx kind_len plain_len entry_len (args_len1 _) ?_;unfold KI.«len»;refine Hs (m:=oneArg "len" _) (Hx ?_);refine Hs (m:=callSpecial? (.ref d) (JX "__len__")) (IV (name:=JX "__len__") hT F.slot_dict_len (Jb F.slot_dict_len hT F.entry_dict_len ?_ (F.args_dict_len_1 _)));show wpAny _ _ (dictSize d >>= _) _ _ s;unfold dictSize;refine Hs (Hs (LW ho hdat (Hx ?_)));show wpAny _ _ (P4 d >>= _) _ _ s;refine Hs (wpAny_pendingCount_other hd ?_);refine wpAny_ret_mkInt ?_;rw[Nat.add_zero];show wpAny _ _ _ _ _ { s with toks:=s.toks+1 }
 refine Hs (Jg (Hx ?_));refine Hs (Ln ?_);show wpAny _ _ (if ((es.size:HB):HM) < 0 then _ else _) _ _ _
 rw[Im ∅]
 show wpAny _ _ (if ((es.size:HB):HM)>=2 ^ 63 then _ else _) _ _ _
 rw[Im ∅]
 exact Hs (Pk (Hx #[_,rfl,h]))
end
section
variable{X:Cx}{J:Hr (HD×JJ)}{Y:L2.St}{H:Hp}{s:Hw}{A:Hr HD}{S:aa}
def qv:LCall X (.builtin "len") nU:=by
 intro J s Y H A S xs vs us w S' I so rl rv e
 by_cases hd:∃i U,xs=[.ref i]/\iA S i=ba U
 ·obtain⟨i,U,rfl,hk⟩:=hd;simp only[nU,hk]at e;cases e;cases rl with
  | cons r t=>
   cases t;cases rv with
   | cons ru rv2=>
    cases rv2;cases r with
    | ref ea=>
     obtain⟨xs,rd,kr⟩:=eZ so hk ea;have d:=bO I rd;obtain⟨es,ep,raw,he⟩:=d.raw;obtain rfl:_=IA _:=ru;have hl:es.size=xs.length:=by rw[<- HS,he,Hv]
     have hz:=d.1;have hs:sizeLine=16777216:=IX;refine zL d.2.1 raw ∅ #[.int U.length,H,A,I.tok _,#[_,by rw[kr.length,hl]],.refl,so,.int]
 ·have:nU xs S=ny xs S:=by
   unfold nU;split
   ·rename_i i;split
    ·rename_i U hk;exact absurd #[i,U,rfl,hk] hd
    ·rfl
   ·rfl
  rw[this]at e;exact sU J s Y H A S xs vs us w S' I so rl rv e
abbrev G3 (S:aa):W->HA Jy
 | .non=>ba "NoneType"|.bl _=>ba "bool"|.int _=>ba "int"|.str _=>ba "str"|.tup _=>ba "tuple"
 | .ref i=>match eO S i with
  | some _=>ba "list"
  | none=>(iA S i).map λ_=>"dict"
abbrev rN:Hr Jy:=["bool","int","str","tuple","list","dict"]
abbrev wf (S:aa)(x:W)(c:Jy):HA Il:=match G3 S x with
 | some t=>if rN.contains c then ba (t==c||(t == "bool" && c == "int"))else gV
 | none=>gV
def gB {K:HG}{t c:Jy}(ht:t∈["NoneType","bool","int","str","tuple","list","dict"])(hc:c∈rN):PySem.W.kitOne K (.type t) (.type c)=ba (t==c||(t == "bool" && c == "int")):=by
 simp only[rN,HW,Iy,JH]at ht hc;rcases ht with rfl|rfl|rfl|rfl|rfl|rfl|rfl <;> rcases hc with rfl|rfl|rfl|rfl|rfl|rfl <;> rfl
def wg:CallR X (.builtin "isinstance") (λvs H Q=>∃A S x v c b,vs=[v,.ty c]/\StoreOk X.w X.K A H S/\Rel X.K A H x v/\wf S x c=ba b/\Q (.bl b) H):=by
 intro J s Y H vs us Q I rv ⟨A,S,x,v,c,b,e1,so,rx,e2,hq⟩;subst e1;cases rv with
 | cons r1 rv2=>cases rv2 with
  | cons r2 rv3=>
   cases rv3;obtain rfl:_=JE c:=r2;unfold wf at e2;split at e2
   ·rename_i t ht;split at e2
    ·rename_i hc;cases e2;have hc':c∈rN:=by simpa using hc
     have fin:∀tk,EP X J Y Q (.bool (t==c||(t == "bool" && c == "int"))) { s with toks:=tk }:=λtk=>#[.bl _,H,I.tok _,rfl,hq]
     cases rx with
     | non=>cases ht; cases(show _=IP from r1); exact KD PySem.W.kitx_none I.kIn L5 (gB (by simp) hc') (λz=>nomatch z) fin
     | bl=>cases ht; cases(show _=Lg _ from r1); exact KD PySem.W.kitx_bool I.kIn L5 (gB (by simp) hc') (λz=>nomatch z) fin
     | int=>cases ht; obtain⟨t',q⟩:=(show ∃t,_=M9 _ t from r1); cases q; exact KD PySem.W.kitx_int I.kIn L5 (gB (by simp) hc') (λz=>nomatch z) fin
     | str=>cases ht; obtain⟨t',q⟩:=(show ∃t,_=L0 _ t from r1); cases q; exact KD PySem.W.kitx_str I.kIn L5 (gB (by simp) hc') (λz=>nomatch z) fin
     | tup h1 r1'=>
      cases ht;obtain⟨its,rv,⟨o,q1,q2,_⟩,hz⟩:=I.tuple h1;cases(show _=IA _ from r1)
      exact KD PySem.W.kitx_tuple I.kIn #[o,q1,q2] (gB (by simp) hc') (λz=>nomatch z) fin
     | ref ea=>
      cases(show _=IA _ from r1)
      simp only[G3]at ht;split at ht
      ·rename_i ws hw;cases ht;obtain⟨vs,h1,_⟩:=aR so hw ea;obtain⟨its,rv,p,hz⟩:=I.list h1;obtain⟨o,q1,q2,_⟩:=p.isList;exact KD PySem.W.kitx_list I.kIn #[o,q1,q2] (gB (by simp) hc') (λz=>nomatch z) fin
      ·rw[Hy]at ht;obtain⟨U,hk,rfl⟩:=ht;obtain⟨xs,rd,kr⟩:=eZ so hk ea;obtain⟨es,ep,⟨o,q1,q2,_⟩,he⟩:=(bO I rd).raw;exact KD PySem.W.kitx_dict I.kIn #[o,q1,q2.1] (gB (by simp) hc') (λz=>nomatch z) fin
    ·cases e2
   ·cases e2
abbrev wj (c:Jy)(f:FE):FE:=λZ S=>match f Z S with
 | some (x,S1)=>(wf S1 x c).map λb=>(.bl b,S1)
 | none=>gV
def Cw {cn:HY}{c:Jy}{e:Ii}{p p2 pos:Kr}{f:FE}(hg:Gl X "isinstance")(hm:X.mg "isinstance" = gV)(hg2:Gl X cn)(hm2:X.mg cn=gV)(hv2:bootBuiltins cn=ba (.type c))(hn2:cn≠"__name__")(hd2:(cn==("__debug__" : HY))=false)
  (he:GE X e f) (hs:starEach [e,.Name cn p2] X.env=(false,eval e X.env)::starEach [.Name cn p2] X.env):GE X (.Call (.Name "isinstance" p) [e,.Name cn p2] [] pos) (wj c f):=
 GE.of (nk (wg) hg hm rfl (lM he (lM (yp (v:=.ty c) hg2 hm2 hv2 rfl hn2 hd2) uR) hs) #v[] #v[] hs rfl) λY H A Z S w S' er so e Q hq=>by
  unfold wj at e;split at e
  ·rename_i x1 S1 h1;rw[Hy]at e;obtain⟨b,e1,e2⟩:=e;cases e2;exact#[A,Z,S,x1,_,er,so,h1,λv H1 #[A1,z1,z2,z3]=>#[A1,_,x1,v,c,b,rfl,z2,z3,e1,hq _ _ #[A1,z1,z2,.bl]]]
  ·cases e
end
abbrev cV:Hr (T×W)->Hr W->HA (Hr (T×W))
 | U,[]=>ba U
 | U,k::v::ws=>match fO k with
  | some t=>cV (dY U t v) ws
  | none=>gV
 | _,[_]=>gV
abbrev AR:FE:=λ_ S=>ba (.ref S.length,S++[.dic []])
abbrev oz (f:FA):FE:=λZ S=>match f Z (S++[.dic []])with
 | some (ws,S1)=>match S1[S.length]? with
  | some (.dic [])=>match cV [] ws with
   | some U=>ba (.ref S.length,S1.set S.length (.dic U))
   | none=>gV
  | _=>gV
 | none=>gV
section
variable (K:HG) (A:Hr HD) (H:Hp)
inductive RelP:Hr W->Hr (V×V)->Prop
 | nil:RelP [] []
 | cons {k v:W} {a b:V} {ws:Hr W} {ps:Hr (V×V)}:Rel K A H k a->Rel K A H v b->RelP ws ps->RelP (k::v::ws) ((a,b)::ps)
end
def RelP.mono {K:HG}{A A':Hr HD}{H H':Hp}(e:Ext K A H A' H'){ws:Hr W}{ps:Hr (V×V)}(h:RelP K A H ws ps):RelP K A' H' ws ps:=by
 induction h with
 | nil=>exact .nil
 | cons a b c ih=>exact .cons (a.mono e) (b.mono e) ih
section
variable{X:Cx}{J:Hr (HD×JJ)}{Y:L2.St}{H:Hp}{s:Hw}{A:Hr HD}{S:aa}
abbrev Gg (X:Cx)(A:Hr HD)(H:Hp)(S':aa)(ws:Hr W):Hr (V×V)->Hp->Prop:=λps H'=>∃A',Ext X.K A H A' H'/\StoreOk X.w X.K A' H' S'/\RelP X.K A' H' ws ps
abbrev Eg (X:Cx)(pos:Kr)(keys:Hr (HA Ii))(values:Hr Ii)(f:FA):Prop:=
 ∀(J:Hr (HD×JJ)) (s:Hw) (Y:L2.St) (H:Hp) (A:Hr HD) (Z:Fm) (S:aa) (ws:Hr W) (S':aa),Inv X J Y H s->EnvRel X.K A H Z Y->StoreOk X.w X.K A H S->f Z S=ba (ws,S')->
  wpAny (model X.prog X.w) X.A (evalPairs (pairTrees keys values X.env pos)) (λvs s'=>∃ps H',Inv X J Y H' s'/\VV ps vs/\Gg X A H S' ws ps H') X.xe s
def zM {pos:Kr}:Eg X pos [] [] i9:=λJ s Y H A Z S ws S' I er so e=>by
 cases e;exact pairTrees_nil_walk #[[],H,I,.nil,A,.refl,so,.nil]
def wl {pos:Kr}{k v:Ii}{ks:Hr (HA Ii)}{vs:Hr Ii}{fk fv:FE}{f:FA}(hk:GE X k fk)(hv:GE X v fv)(hr:Eg X pos ks vs f):Eg X pos (ba k::ks) (v::vs) (dO fk (dO fv f)):=λJ s Y H A Z S ws S' I er so e=>by
 unfold dO at e;split at e
 ·rename_i w1 S1 h1;split at e
  ·rename_i w2 S2 h2;cases e;split at h2
   ·rename_i w3 S3 h3;split at h2
    ·rename_i w4 S4 h4;cases h2;refine pairTrees_cons_walk (bf (hk J s Y H (EndV X.w X.K A H S1 w1) I #[A,Z,S,_,_,er,so,h1,λ_ _ z=>z]) λu s1 #[x,H1,I1,r1,A1,e1,o1,z1]=>
      bf (hv J s1 Y H1 (EndV X.w X.K A1 H1 S3 w3) I1 #[A1,Z,S1,_,_,er.mono e1,o1,h3,λ_ _ z=>z]) λu2 s2 #[x2,H2,I2,r2,A2,e2,o2,z2]=>
      bf (hr J s2 Y H2 A2 Z S3 _ _ I2 (er.mono (e1.trans e2)) o2 h4) λvs' s3 #[ps,H3,I3,rel,A3,e3,o3,z3]=>?_)
     exact#[(x,x2)::ps,H3,I3,.cons #[r1,r2] rel,A3,e1.trans (e2.trans e3),o3,.cons (z1.mono (e2.trans e3)) (z2.mono e3) z3]
    ·cases h2
   ·cases h2
  ·cases e
 ·cases e
def lp {r:HB}{d:HD}{E:Hu->Hw->Prop}(hu:X.A.units+10 < cLine):∀(vs:Hr (Hu×Hu)) (ps:Hr (V×V)) (ws:Hr W) (U U':Hr (T×W)) (s:Hw) (H:Hp) (S:aa) (Q:PUnit->Hw->Prop),
  Inv X J Y H s->StoreOk X.w X.K A H S->ma S r=ba U->A[r]?=ba d->RelP X.K A H ws ps->VV ps vs->cV U ws=ba U'->U.length+vs.length<=30->
  (∀s' H',Inv X J Y H' s'->Ext X.K A H A H'->StoreOk X.w X.K A H' (S.set r (.dic U'))->Q Oq s')->
  wpAny (model X.prog X.w) X.A (forIn vs Oq λ(x:Hu×Hu) (_:PUnit)=>(do dictSet d x.1 x.2; pure (JZ Oq):QP (ForInStep PUnit))) Q E s
 | [],_,_,U,U',s,H,S,Q,I,so,hr,ea,rp,vv,e,hl,hq=>by
  cases vv;cases rp;cases e;rw[NT];refine Hx (hq s H I .refl ?_);have hS:=gS hr;have:S.set r (.dic U)=S:=by
   apply MZ;intro j;rw[J5];split
   ·rename_i e; subst e
    split
    ·exact hS.symm
    ·rename_i h; exact absurd (HH.mp hS).1 h
   ·rfl
  rw[this]; exact so
 | (ku,vu)::vs,_,_,U,U',s,H,S,Q,I,so,hr,ea,rp,vv,e,hl,hq=>by
  cases vv with
  | cons hv vv2=>
   cases rp with
   | @cons wk wv va vb ws2 ps2 rk rv' rp2=>
    simp only[cV]at e;split at e
    ·rename_i t ht;rw[Mf];obtain⟨xs,hH,kr⟩:=rg so hr ea;have dd0:=bO I (.inl hH);have dd:=dd0.dict I kr;obtain⟨bk,e1,e2,rkk⟩:=gR ht rk hv.1;have e2:ku=IA bk:=e2;subst e2;obtain⟨q1,q2,q3⟩:=di ht;rw[IW]at hl;have hz:xs.length<=sizeLine:=dd0.1;refine Hs (Hs (wpAny_dictSet_heap (hsz:=hz) (show X.A.units+ap < cLine by unfold ap; omega) (iB I rkk q3) dd λh' dd' hs=>Hx ?_))
     have kr':=kr.put q2 q3 rkk rv' hv.2;have hz':(storedH xs t bk vu).length<=sizeLine:=by
      rw[<- kr'.length];have h2:=cL U t wv;rw[IX];omega
     have dn:DicAt X.w d (storedH xs t bk vu) h':=.of hz' dd0.2.1 dd';obtain⟨so',ex⟩:=so.writeO (gS hr) rfl ea (u:=dt X.w d (storedH xs t bk vu)) (n:=.dic (dY U t wv)) #[_,aA,kr'.mono (bN (.ext hH))];have I':Inv X J Y (bc H d (dt X.w d (storedH xs t bk vu))) { s with heap:=h',toks:=s.toks+(aQ X.prog X.w).draws t }:=lT I (by rw[hH]; exact L5) hs (let ⟨q,_,_,hq,_⟩:=dd'; #[q,hq]) dn.ok
     have hl':(S.set r (.dic (dY U t wv)))[r]?=ba (.dic (dY U t wv)):=by
      rw[J5,Ic rfl,Ic (HH.mp (gS hr)).1]
     refine lp hu vs _ _ (dY U t wv) U' _ _ _ Q I' so' (by unfold ma; rw[hl']) ea (rp2.mono ex) vv2 e (by have:=cL U t wv; omega) λs' H' I2 ex2 so2=>?_
     rw[List.set_set]at so2;exact hq s' H' I2 (ex.trans ex2) so2
    ·cases e
def zN {pos:Kr}:GE X (.Dict [] [] pos) AR:=λJ s Y H Q I #[A,Z,S,w,S',er,so,e,hq]=>by
 cases e;have hn:=I.hok.fresh (HE s.heap.objs.size);have dn:DicAt X.w s.heap.objs.size [] (s.heap.push { cls:=.type "dict",data:=.dict #[] }):=#[Jx _,Ly.mpr (Ne.symm (HV I.big)),NU,_,#[],0,HI _ rfl,#[rfl,rfl,rfl],rfl,rfl];refine wpAny_Dict_empty #[.ref s.heap.objs.size,_,I.laid (a:=s.heap.objs.size) (o:=dt X.w s.heap.objs.size []) (t':=s.toks) (λ_ _ q=>Ht _ q) (HE _) dn.ok,rfl,hq _ _ #[A++[s.heap.objs.size],bY hn,so.pushO hn #[[],aA,.nil],.ref ?_]]
 rw[<- so.len]; simp
def zO {pos:Kr}{keys:Hr (HA Ii)}{values:Hr Ii}{f:FA}(hu:X.A.units+10 < cLine)(h:Eg X pos keys values f)(hall:keys.all (·.isSome)=true)(hl:keys.length=values.length)(h0:keys≠[])(h15:keys.length<=15):GE X (.Dict keys values pos) (oz f):=by
 intro J s Y H Q I ⟨A,Z,S,w,S',er,so,e,hq⟩;unfold oz at e;split at e
 ·rename_i ws S1 h1;split at e
  ·rename_i hS1;split at e
   ·rename_i U hp;cases e;have hn:=I.hok.fresh (HE s.heap.objs.size);have dn:DicAt X.w s.heap.objs.size [] (s.heap.push { cls:=.type "dict",data:=.dict #[] }):=#[Jx _,Ly.mpr (Ne.symm (HV I.big)),NU,_,#[],0,HI _ rfl,#[rfl,rfl,rfl],rfl,rfl];have I1:=I.laid (a:=s.heap.objs.size) (o:=dt X.w s.heap.objs.size []) (h':=s.heap.push { cls:=.type "dict",data:=.dict #[] }) (t':=s.toks) (λ_ _ q=>Ht _ q) (HE _) dn.ok
    have ex0:Ext X.K A H (A++[s.heap.objs.size]) (bc H s.heap.objs.size (dt X.w s.heap.objs.size [])):=bY hn;have so0:StoreOk X.w X.K (A++[s.heap.objs.size]) (bc H s.heap.objs.size (dt X.w s.heap.objs.size [])) (S++[.dic []]):=so.pushO hn #[[],aA,.nil];have hlen:=pairTrees_length keys values X.env pos hall hl;have hne:pairTrees keys values X.env pos≠[]:=λhe=>by
     rw[he]at hlen;exact h0 (Jo.mp hlen.symm)
    rw[arm_eval_Dict,zip_pairTrees keys values X.env pos hall hl,dictDisplay_pairs _ hne ∅]
    refine Hs (L7 (Hs ?_));unfold subDict;refine Hs (QL ?_);refine Hs (Jg ?_);rw[Ic ∅]
    refine Hs (J0 (wpAny_evalPairs_len (h J _ Y _ _ Z _ _ _ I1 (er.mono ex0) so0 h1)) (λvs s₁ h₁=>?_) λ_ _ e=>e)
    obtain⟨hvl,ps,H2,I2,vv,A2,ex2,so2,rp⟩:=h₁;refine Jg ?_;have ea:A2[S.length]?=ba s.heap.objs.size:=ex2.ad _ _ (by rw[<- so.len]; simp)
    refine Hs (lp hu vs ps ws [] U s₁ H2 S1 _ I2 so2 (by unfold ma; rw[hS1]) ea rp vv hp (by rw[J8]; omega) λs' H' I3 ex3 so3=>?_)
    exact Hx (Hx (Hx #[.ref s.heap.objs.size,H',I3,rfl,hq _ _ #[A2,ex0.trans (ex2.trans ex3),so3,.ref ea]]))
   ·cases e
  ·cases e
 ·cases e
end
abbrev G4 (wd:IE)(a:HD)(o:JJ)(xs:Hr (T×HD×Hu)):It:=
 #[λi H=>H a=ba (.frz o (dt wd a xs))/\i < xs.length,λi H x H'=>H'=H/\∃q,xs[i]?=ba q/\x=.ref q.2.1,λi H=>H a=ba (.frz o (dt wd a xs))/\xs.length<=i]
def tR {P:Iw}{w:IE}{K:HG}{tg:Ii}(a it:HD){o:JJ}{es:Ik Kj}{ep:HB}{xs:Hr (T×HD×Hu)}(hx:o.ExactDict)(hd:o.data=.dict es ep)(he:es.toList=xs.map (u9 w)) :
  Turn P w K tg (G4 w a o xs) [it] it (λi h=>h.IsKeyIter it a i es.size ep) where
 mem:=by simp
 obj:=λi h st b hb=>by
  have e:b=it:=by simpa using hb
  subst e;obtain⟨o,e,c,d⟩:=st;exact#[o,e,λv z=>by rw[d]at z; cases z]
 keep:=λi h h' st k=>st.at λo e=>k it (by simp) o e
 item:=by
  intro X hP hw hK hc i J s Y H E I hf st hg;subst hP hw hK;obtain⟨hH,hi⟩:=hg;have ho:s.heap.get? a=ba o:=(show ObjOk X.prog X.w H s.heap a (.frz o (dt X.w a xs))from I.hok a _ hH).1
  have hl:es.size=xs.length:=by rw[<- HS,he,Hv]
  have hi':i < es.size:=∅
  obtain⟨f0,f1,f2,f3,f4,f5⟩:=hf it (by simp)
  have hk:es[i].key=.ref (xs[i]).2.1:=by
   have:es.toList[i]?=ba (u9 X.w xs[i]):=by rw[he,HF,HC hi]; rfl
   rw[Jd,Kb hi']at this;have:=Je this;rw[this]; rfl
  refine nP st #[o,ho,hx,hd] hi' λh' st' sb=>?_
  have I1:Inv X J Y H { s with heap:=h' }:=I.turned (t':=s.toks) (λb o hb e=>(sb.2 b hb).trans e) f0 f1 f3 f4 f5
  obtain⟨o',e,c,d⟩:=id st';exact#[_,rfl,qQ (s:={ s with heap:=h' }) e c d #v[] #[.ref (xs[i]).2.1,H,I1,hk,#[rfl,xs[i],HC hi,rfl],st',λb hb=>(hf b hb).1]]
 done:=by
  intro X hP hw hK hc i J s Y H E I hf st hg;subst hP hw hK;obtain⟨hH,hi⟩:=hg;have ho:s.heap.get? a=ba o:=(show ObjOk X.prog X.w H s.heap a (.frz o (dt X.w a xs))from I.hok a _ hH).1
  have hl:es.size=xs.length:=by rw[<- HS,he,Hv]
  obtain⟨f0,f1,f2,f3,f4,f5⟩:=hf it (by simp)
  exact rj (I.ok.hd hc) st #[o,ho,hx,hd] ∅ λh' eb=>#[rfl,I.turned (t':=s.toks) (λb o hb e=>eb b o hb e) f0 f1 f3 f4 f5]
 self:=λ_ _ _ _ _ st h=>NR st h
abbrev eQ (f:FE):FI:=λZ S=>match f Z S with
 | some (.tup ws,S1)=>ba (.its ws,S1)
 | some (.ref r,S1)=>match eO S1 r with
  | some _=>ba (.live r,S1)
  | none=>match iA S1 r with
   | some U=>ba (.its (U.map λp=>p.1.w),S1.set r (.frd U))
   | none=>gV
 | _=>gV
section
variable{X:Cx}{J:Hr (HD×JJ)}{Y:L2.St}{H:Hp}{s:Hw}{A:Hr HD}{S:aa}
def wm {a:HD}{o:JJ}{U:Hr (T×W)}{xs:Hr (T×HD×Hu)}(hH:H a=ba (.frz o (dt X.w a xs)))(kr:KRel X.K A H U xs):MIt X.w X.K (.its (U.map λp=>p.1.w)) (G4 X.w a o xs) A H:=by
 refine#[λA' H' S i w e so hi=>?_,λA' H' S i e so hi=>?_]
 ·simp only[MI.at,Iv]at hi;obtain⟨v,h1,h2⟩:=((kr.mono e).keysL).get hi;rw[HF,Hy]at h1;obtain⟨q,q1,q2⟩:=h1;refine#[#[e.fz _ _ _ hH,(HH.mp q1).1],λx H2 #[z1,q',z2,z3]=>?_]
  subst z1 z3;rw[q1]at z2; cases z2
  exact#[.refl,so,by rw[q2]; exact h2]
 ·simp only[MI.at,Iv]at hi;refine#[e.fz _ _ _ hH,?_];have:=IT.mp hi;rw[Hv,kr.length]at this;exact this
def zP {tg l:Ii}{f:FE}(h:GE X l f):GI X tg l (eQ f):=by
 intro J s Y H R I ⟨A,Z,S,mi,S',er,so,e,hq⟩
 by_cases hd:∃r S1 U,f Z S=ba (.ref r,S1)/\eO S1 r=gV/\iA S1 r=ba U
 ·obtain⟨r,S1,U,h1,h2,h3⟩:=hd;simp only[eQ,h1,h2,h3]at e;cases e;refine bf (h J s Y H (EndV X.w X.K A H S1 (.ref r)) I #[A,Z,S,_,_,er,so,h1,λ_ _ z=>z]) λv s1 #[x,H1,I1,r1,A1,e1,o1,z1]=>?_
  cases z1 with
  | @ref _ a ea=>
   obtain rfl:v=IA a:=r1;have fz:∃o xs H2,Inv X J Y H2 s1/\Ext X.K A1 H1 A1 H2/\StoreOk X.w X.K A1 H2 (S1.set r (.frd U))/\H2 a=ba (.frz o (dt X.w a xs))/\KRel X.K A1 H2 U xs:=by
    unfold iA at h3;split at h3
    ·rename_i k hk;cases h3;obtain⟨xs,hH,kr⟩:=o1.obj r _ a hk ea;have d:=bO I1 (.inl hH);obtain⟨_,_,_,o,es,ep,q1,q2,q3,q4⟩:=id d;obtain⟨so',ex⟩:=o1.writeO hk rfl ea (u:=.frz o (dt X.w a xs)) (n:=.frd U) #[o,xs,aA,kr.mono (bN (.ext hH))];exact#[o,xs,_,lT (h':=s1.heap) (t':=s1.toks) (ob:=.frz o (dt X.w a xs)) I1 (by rw[hH]; exact L5) (OP _ _) #[o,q1] #[q1,d.ok],ex,so',aA,kr.mono ex]
    ·rename_i k hk;cases h3;obtain⟨o,xs,hH,kr⟩:=o1.obj r _ a hk ea;have:S1.set r (.frd U)=S1:=by
      apply MZ;intro j;rw[J5];split
      ·rename_i e; subst e
       split
       ·exact hk.symm
       ·rename_i h; exact absurd (HH.mp hk).1 h
      ·rfl
     rw[this];exact#[o,xs,H1,I1,.refl,o1,hH,kr]
    ·cases h3
   obtain⟨o,xs,H2,I2,ex,so2,hH,kr⟩:=fz;have d:=bO I2 (.inr #[o,hH]);have ho:s1.heap.get? a=ba o:=(show ObjOk X.prog X.w H2 s1.heap a (.frz o (dt X.w a xs))from I2.hok a _ hH).1
   obtain⟨_,hsm,_,o',es,ep,q1,q2,q3,q4⟩:=id d;rw[ho]at q1;cases q1;refine nO hsm #[o,ho,q2,q3] ?_;refine#[s1.heap.objs.size,[s1.heap.objs.size],_,_,H2,rfl,I2.kept (t':=s1.toks) λb o e=>Ht _ e,tR a _ q2 q3 q4,#[_,HI _ rfl,rfl,rfl],λb hb=>?_,hq _ _ A1 (e1.trans ex) so2 (wm hH kr)]
   have e:b=s1.heap.objs.size:=by simpa using hb
   subst e;exact I2.fpOk (HE _) (I2.hok.fresh (HE _))
 ·have:eQ f Z S=zG f Z S:=by
   unfold eQ zG;cases hf:f Z S with
   | none=>rfl
   | some p=>
    obtain⟨w,S1⟩:=p;cases w with
    | ref r=>
     cases h2:eO S1 r with
     | some _=>simp only[h2]
     | none=>
      cases h3:iA S1 r with
      | none=>simp only[h2,h3]
      | some U=>exact absurd #[r,S1,U,hf,h2,h3] hd
    | _=>rfl
  rw[this]at e;exact Cu h J s Y H R I #[A,Z,S,mi,S',er,so,e,hq]
end
abbrev iZ (zs:Hr HM):HB:=(firstMet (λi=>zs.getD i 0) zs.length).length
section
variable{prog:Iw}{w:IE}{A:IB}{E:Hu->Hw->Prop}{s:Hw}
set_option maxHeartbeats 4000000 in
def tU {l:HD}{its:Ik Hu}{zs:Hr HM}{Q:Hu->Hw->Prop}(hh:A.handled=gV)(hl:s.heap.IsTuple l its)(hi:Nj its.toList zs)(hz:zs.length=its.size)(hb:its.size+1 < scanBound)
  (h:∀h' tk o,h'.get? s.heap.objs.size=ba o->B4 (iZ zs) o->(∀b u,s.heap.get? b=ba u->h'.get? b=ba u)->Q (.ref s.heap.objs.size) { s with heap:=h',toks:=tk }):wpAny (model prog w) A (call (.type "set") [.ref l]) Q E s:=by
 obtain⟨c,tl,hmro⟩:=F.called_set.mro;have hmade:=F.called_set.made;have hsub:=F.called_set.sub;have hn1:=F.called_set.notType;have hn2:=F.called_set.canCreate;have hct:=F.typeCall_set_1 (.ref l);refine PB (Mc ?_);show wpAny _ _ (callAny (.type "set") _) _ _ _;refine Hx #[MH _ (by decide +kernel),Jf F.entry_type_call ?_]
 rw[Ot (NE "set" [.ref l] []) rfl]
 repeat (any_goals (first|assumption|wp_step))
 refine K5 (nz (w:=w) (.ref l) (E:=E) (Q₁:=λobj s1=>obj=.ref s.heap.objs.size/\s1={ s with heap:=s.heap.push (aP w) }) #[rfl,rfl]) λr s1 hr=>?_
 match r,hr with
 | .ok (.ret obj),hr=>
  obtain⟨rfl,rfl⟩:=hr;have oS:(s.heap.push (aP w)).get? s.heap.objs.size=ba (aP w):=HI _ rfl;have tS:Qf { s with heap:=s.heap.push (aP w) } (.ref s.heap.objs.size) "set":=#[_,oS,rfl]
  have hli:=F.called_set.init.lookup;have hbi:=F.called_set.init.bind (.ref s.heap.objs.size)
  repeat (any_goals (first|assumption|wp_step))
  refine K5 (NO (R:=wants (λr s2=>r=.none/\∃h' tk o,s2={ s with heap:=h',toks:=tk }/\h'.get? s.heap.objs.size=ba o/\B4 (iZ zs) o/\∀b u,s.heap.get? b=ba u->h'.get? b=ba u) E) F.called_set.init.plain F.entry_set_init (O6 tS ?_)) λr2 s2 hr2=>?_
  ·obtain⟨⟨oc,od,ot,osl⟩,hol,hcl,nl,hdl⟩:=id hl;simp only at hcl hdl;subst hcl hdl;have hol1:=Ht (aP w) hol;have l1:(s.heap.push (aP w)).IsTuple l its:=#[_,hol1,rfl,nl,rfl];have e1:=F.sub_tuple_set;have e2:=F.sub_tuple_frozenset;have e3:(JE "tuple" == JE "dict")=false:=by decide
   unfold KI.«set.__init__» noKeywords Mg;generalize hPI:pyIter=PI
   wp_walk
   subst hPI;refine MN l1 (Hs (Lj ?_));have ls:l < s.heap.objs.size:=HP hol;have sz:(s.heap.push (aP w)).objs.size=s.heap.objs.size+1:=Ju ..;have ne:l≠(s.heap.push (aP w)).objs.size:=by rw[sz]; exact HV (JT ls)
   refine codeAny_set_update_loopS ((Walks.tuple (A:=A.in1.in1.in1) (by simp[hh]) _ l ne its).toS) s.heap.objs.size (by rw[sz]; simp only[HW,Iy,JH,NP]; exact#[HV (Jq _),Jz ls]) (λi=>zs.getD i 0) (λi v hv=>PX hi i v (by rw[Jd]; exact hv)) hb (its.size - 0) 0 _ ∅ (Jx _) #[#[_,HI _ rfl,rfl,rfl],l1.push _] ?_ λs3 mv hS3=>?_
   ·exact SetOf_congr ((setObjOf_fresh (knd:=intKind prog w) (!dW w)).setOf (Ht _ oS) (by unfold scanBound; omega)) (λ_=>rfl) rfl
   ·rw[Od mv];obtain⟨o,ho,hex,es,ep,t,hd,_,_,hn,hf⟩:=hS3.objOf;refine Hx (Hx #[rfl,s3.heap,s3.toks,o,rfl,ho,#[hex,es,ep,t,hd,by rw[hn]; unfold iZ; rw[hz],hf],λb u q=>?_])
    have hb:=HP q;exact mv.heap b u (by rw[sz]; simp only[HW,Iy,JH,NP]; exact#[HV hb,HV (JT hb)]) (Ht _ (Ht _ q))
  ·match r2,hr2 with
   | .ok (.ret r),hr2=>
    obtain⟨rfl,h',tk,o,rfl,g1,g2,g3⟩:=hr2
    repeat (any_goals (first|assumption|wp_step))
    exact h h' tk o g1 g2 g3
   | .ok .next,hr2=>exact hr2.elim
   | .ok .brk,hr2=>exact hr2.elim
   | .ok .cont,hr2=>exact hr2.elim
   | .error e,hr2=>exact hr2
 | .ok .next,hr=>exact hr.elim
 | .ok .brk,hr=>exact hr.elim
 | .ok .cont,hr=>exact hr.elim
 | .error e,hr=>exact hr
end
abbrev fX:Hr W->HA (Hr HM)
 | []=>ba []
 | .int z::ws=>(fX ws).map (z :: ·)
 | _=>gV
abbrev jO (xs:Hr W)(S:aa):HA (W×aa):=match xs with
 | [.tup ws]=>match fX ws with
  | some zs=>if zs.length<=1000 then ba (.ref S.length,S++[.sti (iZ zs)])else gV
  | none=>gV
 | _=>gV
abbrev zQ (xs:Hr W)(S:aa):HA (W×aa):=match xs with
 | [.ref i]=>match S[i]? with
  | some (.sti n)=>if n<=1000 then ba (.int n,S)else gV
  | _=>gV
 | _=>gV
section
variable{X:Cx}{J:Hr (HD×JJ)}{Y:L2.St}{H:Hp}{s:Hw}{A:Hr HD}{S:aa}
def gY {A:Hr HD}{H:Hp}:∀ {ws:Hr W} {vs:Hr V} {us:Hr Hu} {zs:Hr HM},RelL X.K A H ws vs->Vals vs us->fX ws=ba zs->Nj us zs/\zs.length=us.length
 | [],_,_,zs,.nil,.nil,h=>by cases h; exact#[.nil,rfl]
 | .int z::ws,_,_,zs,.cons .int t,.cons ru tv,h=>by
  simp only[fX,Hy]at h;obtain⟨zs',h1,rfl⟩:=h;obtain⟨tk,rfl⟩:=ru;obtain⟨a,b⟩:=gY t tv h1;exact#[.cons z tk a,by rw[IW,IW,b]]
 | .non::_,_,_,_,_,_,h|.bl _::_,_,_,_,_,_,h|.str _::_,_,_,_,_,_,h|.tup _::_,_,_,_,_,_,h|.ref _::_,_,_,_,_,_,h=>by cases h
def qw (hh:X.A.handled=gV):LCall X (.type "set") jO:=by
 intro J s Y H A S xs vs us w S' I so rl rv e;unfold jO at e;split at e
 ·rename_i ws;split at e
  ·rename_i zs hz;split at e
   ·rename_i hl;cases e;cases rl with
    | cons r t=>
     cases t;cases rv with
     | cons ru rv2=>
      cases rv2;cases r with
      | tup h1 r1=>
       obtain⟨its,rv',p,hzz⟩:=I.tuple h1;obtain rfl:_=IA _:=ru;obtain⟨g1,g2⟩:=gY r1 rv' hz;refine tU (zs:=zs) hh (show s.heap.IsTuple _ its.toArray from p) (by simpa using g1) (by simpa using g2) (by unfold scanBound; rw[HL]; omega) λh' tk o ho hS hk=>?_
       exact ef (dr:=s.drawn) (u:=.frz o (.ext λh=>h.get? s.heap.objs.size=ba o)) I so hk (HE _) #[ho,ho,#[_,ho],λh1 h2 q k=>k _ q] λhn=>#[o,_,aA,hS]
   ·cases e
  ·cases e
 ·cases e
def qx:LCall X (.builtin "len") zQ:=by
 intro J s Y H A S xs vs us w S' I so rl rv e;unfold zQ at e;split at e
 ·rename_i i;obtain⟨a,ea,rfl⟩:=eC (xs:=[]) rl rv;split at e
  ·rename_i n hi;split at e
   ·rename_i hn;cases e;obtain⟨o,φ,q,hex,es,ep,t,hd,hz,hf⟩:=so.obj i _ a hi ea;have ho:s.heap.get? a=ba o:=(show ObjOk X.prog X.w H s.heap a (.frz o (.ext φ))from I.hok a _ q).1
    exact call_len_set ho hex hd hf ∅ #[.int n,H,A,I.tok _,#[_,by rw[hz]],.refl,so,.int]
   ·cases e
  ·cases e
 ·cases e
end
abbrev mx (zs:Hr HM):HM:=zs.getD (argBest (λi j=>decide (zs.getD i 0 > zs.getD j 0)) (zs.length - 1)) 0
abbrev zR (xs:Hr W)(S:aa):HA (W×aa):=match xs with
 | [.ref i]=>match eO S i with
  | some ws=>match fX ws with
   | some zs=>if zs.length=0 then gV else ba (.int (mx zs),S)
   | none=>gV
  | none=>gV
 | _=>gV
abbrev jP (xs:Hr W)(S:aa):HA (W×aa):=match xs with
 | [.ref i]=>match eO S i with
  | some ws=>match fX ws with
   | some zs=>if zs.length<=1000 then ba (.ref S.length,S++[.sti (iZ zs)])else gV
   | none=>gV
  | none=>gV
 | _=>gV
section
variable{prog:Iw}{w:IE}{A:IB}{E:Hu->Hw->Prop}{s:Hw}
def jQ {bt:HB->HB->Il}:∀n,argBest bt n<=n
 | 0=>HE _
 | n+1=>by
  unfold argBest;split
  ·exact HE _
  ·exact Nat.le_succ_of_le (jQ n)
def wn {l:HD}{its:Ik Hu}{zs:Hr HM}{Q:Hu->Hw->Prop}(hh:A.handled=gV)(hl:s.heap.IsList l its)(hi:Nj its.toList zs)(hz:zs.length=its.size)(hne:0 < its.size)
  (h:∀h' tk t,(∀b o,s.heap.get? b=ba o->h'.get? b=ba o)->Q (.int (mx zs) t) { s with heap:=h',toks:=tk }):wpAny (model prog w) A (call (.builtin "max") [.ref l]) Q E s:=by
 have hlt:l < s.heap.objs.size:=let ⟨_,ho,_⟩:=hl; HP ho
 have hne':l≠s.heap.objs.size:=HV hlt;have val:∀(i:HB) (v:Hu),its[i]?=ba v->∃t,v=.int (zs.getD i 0) t:=λi v hv=>PX hi i v (by rw[Jd]; exact hv)
 refine call_max_walk (KJ hl #[_,_,_,_,_,_,_,rfl,Ou (A:=A.in1) hh _ l hne' its,#[#[_,HI _ rfl,rfl,rfl],hl.push _],λb hb=>?_,hne,CmpOf.ints_gt (λi=>zs.getD i 0) val,λv h' tk hP hk=>?_])
 ·rw[Ju];simp only[HW,Iy,JH]at hb;rcases hb with rfl|rfl
  ·exact Jq _
  ·exact JT hlt
 ·obtain⟨t,rfl⟩:=val _ v hP;rw[<- hz];refine h h' tk t λb o e=>hk b o (λhm=>?_) (Ht _ e)
  exact absurd (HP e) (by rw[HJ.mp hm]; exact Jw _)
end
def wo {zs:Hr HM}(h:0 < zs.length):mx zs∈zs:=by
 unfold mx;have:=jQ (bt:=λi j=>decide (zs.getD i 0 > zs.getD j 0)) (zs.length - 1)
 have h2:argBest (λi j=>decide (zs.getD i 0 > zs.getD j 0)) (zs.length - 1) < zs.length:=∅
 rw[Kv,HC h2];exact IC h2
section
variable{X:Cx}{J:Hr (HD×JJ)}{Y:L2.St}{H:Hp}{s:Hw}{A:Hr HD}{S:aa}
def tV (hh:X.A.handled=gV):LCall X (.builtin "max") zR:=by
 intro J s Y H A S xs vs us w S' I so rl rv e;unfold zR at e;split at e
 ·rename_i i;obtain⟨a,ea,rfl⟩:=eC (xs:=[]) rl rv;split at e
  ·rename_i ws hw;split at e
   ·rename_i zs hs;split at e
    ·cases e
    ·rename_i hn;cases e;obtain⟨vs',h1,r1⟩:=aR so hw ea;obtain⟨its,rv',p,hzz⟩:=I.list h1;obtain⟨g1,g2⟩:=gY r1 rv' hs;exact wn (zs:=zs) hh p.isList (by simpa using g1) (by simpa using g2) (by rw[HL,<- g2]; omega) λh' tk t hk=>#[.int _,H,A,I.kept hk,#[_,rfl],.refl,so,.int]
   ·cases e
  ·cases e
 ·cases e
def qA (hh:X.A.handled=gV):LCall X (.type "set") jP:=by
 intro J s Y H A S xs vs us w S' I so rl rv e;unfold jP at e;split at e
 ·rename_i i;obtain⟨a,ea,rfl⟩:=eC (xs:=[]) rl rv;split at e
  ·rename_i ws hw;split at e
   ·rename_i zs hs;split at e
    ·rename_i hn;cases e;obtain⟨vs',h1,r1⟩:=aR so hw ea;obtain⟨its,rv',p,hzz⟩:=I.list h1;obtain⟨g1,g2⟩:=gY r1 rv' hs;refine call_set_list (ns:=zs) hh p.isList (by simpa using g1) (by unfold scanBound; rw[HL]; omega) λh' tk hS hk=>?_
     obtain⟨o,ho,hex,es,ep,t,hd,_,_,hn,hf⟩:=hS.objOf;exact ef (dr:=s.drawn) (u:=.frz o (.ext λh=>h.get? s.heap.objs.size=ba o)) I so (λb o e=>hk b o (HP e) e) (HE _) #[ho,ho,#[_,ho],λh1 h2 q k=>k _ q] λhn'=>#[o,_,aA,hex,es,ep,t,hd,by rw[hn]; unfold iZ; rw[HL,<- g2],hf]
    ·cases e
   ·cases e
  ·cases e
 ·cases e
end
abbrev bg (mi:MI)(g:FG)(c:FT)(f:FE):HB->HB->Fm->aa->HA (Hr W×aa)
 | 0,i,_,S=>match mi.at S i with
  | some gV=>ba ([],S)
  | _=>gV
 | n+1,i,Z,S=>match mi.at S i with
  | some (ba w)=>match g w Z S with
   | some (Z1,S1)=>match c Z1 S1 with
    | some (true,S2)=>match f Z1 S2 with
     | some (y,S3)=>match bg mi g c f n (i+1) Z1 S3 with
      | some (ys,S4)=>ba (y::ys,S4)
      | none=>gV
     | none=>gV
    | some (false,S2)=>bg mi g c f n (i+1) Z1 S2
    | none=>gV
   | none=>gV
  | _=>gV
abbrev eE (cap:Hr (HA HB))(Z:Fm):Fm:=cap.map λo=>match o with
 | some j=>(Z[j]?).join
 | none=>gV
abbrev jR (fi:FI)(g:FG)(c:FT)(f:FE)(cap:Hr (HA HB)):FE:=λZ S=>match fi Z S with
 | some (mi,S1)=>match mi.len S1 with
  | some n=>match bg mi g c f n 0 (eE cap Z) S1 with
   | some (ys,S2)=>kD S2 ys
   | none=>gV
  | none=>gV
 | none=>gV
abbrev AS:FT:=λ_ S=>ba (true,S)
abbrev kA (X:Cx)(scope:Ld)(cl:Hr (HY×HD))(C:HD)(N:Hr HY)(s0:Hw)(H0:Hp)(ex:Hr HD):Cx:=
 { X with env:=compEnvC scope cl C X.env,N:=N,s₀:=s0,H₀:=H0,outer:=X.stack,stack:=X.stack,ex:=ex,fn:=λ_=>false,pn:=[],xe:=λ_ _=>Jt }
structure CompOk (X:Cx)(scope:Ld)(cl:Hr (HY×HD))(N:Hr HY)(cap:Hr (HA HB)):Prop where
 clos:closureFor scope X.env=pure cl
 kind:scope.kind=.function
 names:∀y∈scope.names,y.2=.local->scope.names.lookup y.1=ba .local
 nocell:∀y∈scope.names,y.2≠.cell
 sub:∀x c,cl.lookup x=ba c->X.env.cells.lookup x=ba c
 has:∀x,((relabel scope X.env).names.lookup x=ba .cell\/(relabel scope X.env).names.lookup x=ba .free)->∃c,cl.lookup x=ba c
 len:cap.length=N.length
 cap:∀(i j:HB) (x:HY),cap[i]?=ba (ba j)->N[i]?=ba x->X.N[j]?=ba x/\(X.env.kindOf x=ba .cell\/X.env.kindOf x=ba .free)/\((relabel scope X.env).names.lookup x=ba .cell\/(relabel scope X.env).names.lookup x=ba .free)
def fQ {prog:Iw}{w:IE}{A:IB}{R:OZ->Hw->Prop}{s:Hw}{elt target iter:Ii}{ifs:Hr Ii}{scope:Ld}{pos:Kr}{it acc:Hu}{env:OA}(I:HB->Hw->Prop)
    (turn:∀n s,I n s->wpAny (model prog w) A (pyNext it) (λr s₁=>match r with
      | none=>R (.ok .next) s₁
      | some v=>wpAny (model prog w) A (letOwnedTupleGo target it v) (λ_ s₁=>wpAny (model prog w) A (assign target env v) (λ_ s₂=>
          wpAny (model prog w) A (forIn ifs true λc r=>if r=true then do let ok <- isTrue c env (eval c env); pure (JZ ok)else pure (JZ r)) (λok s₃=>
            if ok=true then wpAny (model prog w) A (eval elt env) (λx s₄=>
              wpAny (model prog w) A (call (.builtin "list.append") [acc,x]) (λ_ s₅=>∃m,m < n/\I m s₅) (λ_ _=>Jt) s₄) (λ_ _=>Jt) s₃
            else ∃m,m < n/\I m s₃) (λ_ _=>Jt) s₂) (λ_ _=>Jt) s₁) (λ_ _=>Jt) s₁) (λ_ _=>Jt) s)
    (n:HB) (h:I n s) :
    codeAny (model prog w) A (.compLoop (.ListComp elt [#[target,iter,ifs,0]] scope pos) 0 it acc env) R s:=by
  refine codeAny_loop rfl I (λn s hI=>?_) n h
  show wpAny _ A ((compTurn (.ListComp elt [#[target,iter,ifs,0]] scope pos) 0 it acc env).onRaise (λx=>do noteFrame x env; theTreesLotGoes x)) _ _ s
  refine wpAny_noted ?_;rw[compTurn_list];refine Hs (L7 (Hs (J0 (turn n s hI) (λr s₁ h₁=>?_) λ_ _ h'=>h'.elim)))
  cases r with
  | none=>exact Hx h₁
  | some v=>
    refine Hs (J0 h₁ (λ_ s₁ h₁=>?_) λ_ _ h'=>h'.elim)
    refine Hs (J0 h₁ (λ_ s₂ h₂=>Hs (J0 h₂ (λok s₃ h₃=>?_) λ_ _ h'=>h'.elim)) λ_ _ h'=>h'.elim)
    cases ok with
    | false=>exact Hx #[rfl,h₃]
    | true=>
      exact Hs (Hs (J0 h₃ (λx s₄ h₄=>Hs (J0 h₄ (λ_ s₅ h₅=>Hx (Hx #[rfl,h₅])) λ_ _ h'=>h'.elim)) λ_ _ h'=>h'.elim))
section
variable{X:Cx}{J:Hr (HD×JJ)}{Y:L2.St}{H:Hp}{s:Hw}
def Inv.adopt {D:HD}{o:HO}(I:Inv X J Y H s)(hn:H D=gV)(h1:D∈X.ex\/X.s₀.heap.objs.size<=D)(hL:D≠X.env.locals)(h2:∀x c,X.env.cells.lookup x=ba c->c≠D)(h3:∀p∈X.pn++J,p.1≠D)
  (new:ObjOk X.prog X.w (bc H D o) s.heap D o):Inv X J Y (bc H D o) s:=by
 have nit:∀b u,H b=ba u->b≠D:=λb u e z=>by rw[z,hn]at e; cases e
 have key:Inv X J Y (bc H D o) { s with heap:=s.heap,gens:=s.gens,drawn:=s.drawn,toks:=s.toks }:=by
  refine I.step (g':=s.gens) (d':=s.drawn) (t':=s.toks) (h':=s.heap) (ch:=[D]) (λb hb=>?_) (λb o _ _ hc e _=>e) (λb o _ _ hc e _=>#[o.slots,e]) (λb o hc e n=>?_)
   (λb o hc e=>#[o,e]) (λb xs e=>?_) (λb o xs e=>?_) (λb ps e=>#[#[],?_]) (λm hm=>hm) (λb u e=>?_) I.bare
  ·have e:b=D:=by simpa using hb
   subst e;exact#[h1,hL,h2,h3]
  ·rw[ay (λz=>hc (by simp[z]))]; exact n
  ·rw[ay (nit b _ e)]; exact e
  ·rw[ay (nit b _ e)]; exact e
  ·rw[ay (nit b _ e),e]; simp
  ·by_cases hb:b=D
   ·subst hb; rw[aA]at e; cases e; exact new
   ·rw[ay hb]at e;refine(I.hok b u e).stay (λc v hc q=>q) (λc q=>?_) λc xs q=>?_
    ·rw[ay (nit c _ q)]; exact q
    ·rw[ay (nit c _ q)]; exact q
 exact key
def Cy {scope:Ld}{cl:Hr (HY×HD)}{N:Hr HY}{cap:Hr (HA HB)}{C:HD}{s0:Hw}{ex:Hr HD}(I:Inv X J Y H s)(ck:CompOk X scope cl N cap)(hs:s.heap.objs.size<=s0.heap.objs.size)(hC:s0.heap.objs.size<=C)
  (hk:∀b o,s.heap.get? b=ba o->s0.heap.get? b=ba o) (hex:∀b∈ex,(b≠C)/\(∀x c,X.env.cells.lookup x=ba c->c≠b)/\(∀o,X.base.get? b≠ba o)/\b∉pL X.stack) :
  (kA X scope cl C N s0 H ex).Ok where
 mod:=I.ok.mod
 kind:=ck.kind
 glob:=I.ok.glob
 blt:=I.ok.blt
 above:=hC
 inj:=λx y c h1 h2=>I.ok.inj x y c (ck.sub x c h1) (ck.sub y c h2)
 has:=λx h=>ck.has x h
 cab:=λx c h=>by cases h
 hd:=I.ok.hd
 frames:=I.ok.frames
 stk:=.inl rfl
 exf:=λb hb=>#[(hex b hb).1,λx c h=>(hex b hb).2.1 x c (ck.sub x c h)]
 bs:=λb o e=>#[hk b o (I.bk b o e),(I.bs b o e).2]
 bsz:=ID (ID I.ok.bsz I.sz) hs
 noex:=λb o e hb=>(hex b hb).2.2.1 o e
 exfs:=λb hb=>(hex b hb).2.2.2
 funs:=I.stack.of_keeps λb o e _=>#[o,hk b o e,rfl]
 frf:=I.stkFree
structure BlockOk (X:Cx)(scope:Ld)(cl:Hr (HY×HD))(N:Hr HY)(tg elt:Ii)(ifs:Hr Ii)(g:FG)(c:FT)(f:FE):Prop where
 tgt:∀C s0 H0 ex,GG (kA X scope cl C N s0 H0 ex) tg g
 tst:∀C s0 H0 ex J s Y H Q,Inv (kA X scope cl C N s0 H0 ex) J Y H s->tT (kA X scope cl C N s0 H0 ex) c Y H Q->
  wpAny (model X.prog X.w) X.A (forIn ifs true λc r=>if r=true then do let ok <- isTrue c (compEnvC scope cl C X.env) (eval c (compEnvC scope cl C X.env)); pure (JZ ok)else pure (JZ r)) (TP (kA X scope cl C N s0 H0 ex) J Y Q) (λ_ _=>Jt) s
 elt:∀C s0 H0 ex,GE (kA X scope cl C N s0 H0 ex) elt f
def my {prog:Iw}{w:IE}{B:IB}{s:Hw}{E:Hu->Hw->Prop}{Q:Hu->Hw->Prop}{D:HD}{its:Hr Hu}{n:HB}{u:Hu}(e:s.heap.get? D=ba { cls:=.type "list",data:=.seq its.toArray n })(hz:its.length < sizeLine)
  (h:∀h' n',h'.get? D=ba { cls:=.type "list",data:=.seq (its++[u]).toArray n' }->(∀b o,b≠D->s.heap.get? b=ba o->h'.get? b=ba o)->Q .none { s with heap:=h' }) :
  wpAny (model prog w) B (call (.builtin "list.append") [.ref D,u]) Q E s:=by
 refine Mz F.slot_list_append #[_,e,rfl] F.entry_list_append (F.args_list_append_2 _ _) (OI D its.toArray n u (by rw[HL]; omega)) #[e,?_]
 have q:=O3 e (λa=>a.push u)
 have e2:its.toArray.push u=(its++[u]).toArray:=by simp
 rw[e2]at q;exact h _ _ q (λb o hb ho=>(IM s.heap (JA λa=>a.push u) (Ne.symm hb)).trans ho)
def lq {scope:Ld}{cl:Hr (HY×HD)}{N:Hr HY}{cap:Hr (HA HB)}{tg elt iter:Ii}{ifs:Hr Ii}{g:FG}{c:FT}{f:FE}{pos:Kr}{A:Hr HD}{Z:Fm}{S S':aa}{mi:MI}{n:HB}{ws:Hr W}{E:Hu->Hw->Prop}
  {it:HD} {fp:Hr HD} {tn:HB->IJ->Prop} {td:It} {RR:Hu->HD->OZ->Hw->Prop}
  (I:Inv X J Y H s) (hc:X.calm=true) (er:EnvRel X.K A H Z Y) (so:StoreOk X.w X.K A H S) (ck:CompOk X scope cl N cap) (bk:BlockOk X scope cl N tg elt ifs g c f)
  (T:Turn X.prog X.w X.K tg td fp it tn) (t0:tn 0 s.heap) (hfp:∀b∈fp,gm X J H b) (mit:MIt X.w X.K mi td A H) (e:bg mi g c f n 0 (eE cap Z) S=ba (ws,S')) (hz:ws.length<=sizeLine)
  (fin:∀D C s' H' A' vs m,s'.heap.Ns C m->H' D=gV->D≠C->C≠X.env.locals->C∉X.fs->H' C=gV->X.s₀.heap.objs.size<=C->(∀x c,X.env.cells.lookup x=ba c->c≠C)->(∀p∈X.pn++J,p.1≠C)->
   Inv X J Y (bc H' D (.lst vs)) s'->Ext X.K A H A' H'->StoreOk X.w X.K A' H' S'->RelL X.K A' H' ws vs->RR (.ref D) C (.ok .next) s') :
  wpAny (model X.prog X.w) X.A (newList []) (λacc s₃=>wpAny (model X.prog X.w) X.A (newFunctionEnv scope X.env.globals cl [] X.env.qual gV .none (ba X.env)) (λcenv s₄=>
   codeAny (model X.prog X.w) X.A (.compStart (.ListComp elt [#[tg,iter,ifs,0]] scope pos) 0 (.ref it) acc { cenv with scope:=relabel scope X.env }) (RR acc cenv.locals) s₄) E s₃) E s:=by
 refine IH (wpAny_newFunctionEnv ck.nocell (by intro y hy; simp at hy) (λh₁ hns₁ hsb₁=>?_) ck.kind)
 dsimp only at hns₁ hsb₁ ⊢;generalize hH2:s.heap.push { cls:=.type "list",dict:=gV,data:=.seq ([]:Hr Hu).toArray }=h2 at hns₁ hsb₁ ⊢;have hCs:h2.objs.size=s.heap.objs.size+1:=by rw[<- hH2,Ju]
 have k2:∀b o,s.heap.get? b=ba o->h2.get? b=ba o:=λb o z=>hH2 ▸ Ht _ z
 have lt2:∀b o,h2.get? b=ba o->b < h2.objs.size:=λb o z=>HP z
 have k1:∀b o,h2.get? b=ba o->h₁.get? b=ba o:=λb o z=>hsb₁.extBut b o (HV (lt2 b o z)) (Ht _ z)
 have hD2:h2.get? s.heap.objs.size=ba { cls:=.type "list",data:=.seq ([]:Hr Hu).toArray }:=hH2 ▸ HI _ rfl;have hDC:s.heap.objs.size≠h2.objs.size:=by rw[hCs]; omega
 have fresh:∀a,s.heap.objs.size<=a->H a=gV:=λa ha=>I.hok.fresh ha
 have cellLt:∀x c,X.env.cells.lookup x=ba c->c < s.heap.objs.size:=λx c z=>let ⟨_,q⟩:=I.cell x c z; q.lt
 have fpLt:∀b∈fp,b < s.heap.objs.size:=λb hb=>let ⟨_,q,_⟩:=T.obj 0 s.heap t0 b hb; HP q
 have stkLt:∀b∈pL X.stack,b < s.heap.objs.size:=λb hb=>let ⟨_,o,q,_⟩:=I.stack.mem hb; HP q
 have baseLt:∀b o,X.base.get? b=ba o->b < s.heap.objs.size:=λb o z=>HP (I.bk b o z)
 have fpStk:∀b∈fp,b∉pL X.stack:=λb hb z=>by
  rcases HW.mp (I.stkSub b z)with q|q
  ·exact(hfp b hb).2.1 q
  ·exact(hfp b hb).2.2.1 q
 have fpBase:∀b∈fp,∀o,X.base.get? b≠ba o:=λb hb o z=>by
  rcases(hfp b hb).2.2.2.1 with q|q
  ·exact I.ok.noex b o z q
  ·exact absurd (Iu (HP (I.ok.bs b o z).1) q) (Jw _)
 have ltC:∀ {b:HD},b < s.heap.objs.size->b≠h2.objs.size:=λhb=>by rw[hCs]; exact HV (JT hb)
 let s3:Hw:={ s with heap:=h2 }
 have ok':(kA X scope cl h2.objs.size N s3 H (fp++[s.heap.objs.size])).Ok:=by
  refine Cy I ck (show s.heap.objs.size<=h2.objs.size by rw[hCs]; omega) (HE _) k2 λb hb=>?_
  rcases Io.mp hb with hb|hb
  ·exact#[ltC (fpLt b hb),(hfp b hb).2.2.2.2.1,fpBase b hb,fpStk b hb]
  ·have eb:b=s.heap.objs.size:=by simpa using hb
   subst eb;exact#[hDC,λx c z=>HV (cellLt x c z),λo z=>Jw _ (baseLt _ o z),λz=>Jw _ (stkLt _ z)]
 obtain⟨m0,hn0,hl0⟩:=I.loc;have I0:Inv (kA X scope cl h2.objs.size N s3 H (fp++[s.heap.objs.size])) [] (cap.map λo=>match o with|some j=>(Y[j]?).join|none=>gV) H { s3 with heap:=h₁,toks:=s3.toks+([]:Hr (HY×Hu)).length }:=by
  refine#[ok',rfl,I.bare,Un.kept k1,#[_,hns₁,λi x v e1 e2 e3=>?_],λx cc z=>?_,fresh _ (show s.heap.objs.size<=h2.objs.size by rw[hCs]; exact KH _),λx cc z=>I.freeC x cc (ck.sub x cc z),λp hp=>absurd hp (by simp[kA]),(I.hok.kept k2).kept k1,by rw[Hv]; exact ck.len]
  ·rw[HF]at e2;cases q:cap[i]? with
   | none=>rw[q]at e2; cases e2
   | some oj=>
    rw[q]at e2;cases oj with
    | none=>cases e2
    | some j=>
     obtain⟨z1,z2,z3⟩:=ck.cap i j x q e1;have e2':(Y[j]?).join=ba v:=by simpa using e2
     have e2'':Y[j]?=ba (ba v):=by
      cases r:Y[j]? with
      | none=>rw[r]at e2'; cases e2'
      | some y=>rw[r]at e2'; exact congrArg ba e2'
     obtain⟨u,ru,lk⟩:=hl0 j x v z1 e2'' (by
      rcases z2 with z|z
      ·exact .inr (.inl z)
      ·exact .inr (.inr z))
     refine#[u,ru,?_];rcases lk with⟨zk,_⟩|⟨_,cc,zc,zi⟩
     ·rcases z2 with z|z <;> (rw[zk]at z; cases z)
     ·obtain⟨c2,hc2⟩:=ck.has x z3;have:=ck.sub x c2 hc2;rw[zc]at this; cases this
      refine .inr #[z3,cc,hc2,?_];obtain⟨o,ho,hd⟩:=zi;exact#[o,k1 _ _ (k2 _ _ ho),hd]
  ·obtain⟨v,o,ho,hd⟩:=I.cell x cc (ck.sub x cc z);exact#[v,o,k1 _ _ (k2 _ _ ho),hd]
 have er0:EnvRel X.K A H (eE cap Z) (cap.map λo=>match o with|some j=>(Y[j]?).join|none=>gV):=by
  refine#[by simp[eE],λi w q=>?_]
  unfold eE at q;rw[HF]at q ⊢;cases r:cap[i]? with
  | none=>rw[r]at q; cases q
  | some oj=>
   rw[r]at q;cases oj with
   | none=>cases q
   | some j=>
    have q':(Z[j]?).join=ba w:=by simpa using q
    have q'':Z[j]?=ba (ba w):=by
     cases z:Z[j]? with
     | none=>rw[z]at q'; cases q'
     | some y=>rw[z]at q'; exact congrArg ba q'
    obtain⟨v,z1,z2⟩:=er.2 j w q'';exact#[v,by simp[z1],z2]
 have t1:tn 0 h₁:=T.keep 0 s.heap h₁ t0 λb hb o z=>k1 b o (k2 b o z)
 have fpOk':∀ {H':Hp} {pp:Hr (HD×JJ)},(∀b∈fp,H' b=gV)->(∀p∈pp,p.1=s.heap.objs.size)->∀b∈fp,gm (kA X scope cl h2.objs.size N s3 H (fp++[s.heap.objs.size])) pp H' b:=λhn hp b hb=>
  #[hn b hb,ltC (fpLt b hb),fpStk b hb,.inl (Jr _ hb),λx cc z=>(hfp b hb).2.2.2.2.1 x cc (ck.sub x cc z),λp hpp=>by
   rw[hp p (by simpa [kA]using hpp)]
   exact(HV (fpLt b hb)).symm]
 have DinEx:s.heap.objs.size∈fp++[s.heap.objs.size]:=Iq _ (by simp)
 have cellD:∀x c,cl.lookup x=ba c->c≠s.heap.objs.size:=λx cc z=>HV (cellLt x cc (ck.sub x cc z))
 have fpD:∀b∈fp,b≠s.heap.objs.size:=λb hb=>HV (fpLt b hb)
 have theEnd:∀s' Y' H' A' vs its nn,Inv (kA X scope cl h2.objs.size N s3 H (fp++[s.heap.objs.size])) [] Y' H' s'->s'.heap.get? s.heap.objs.size=ba { cls:=.type "list",data:=.seq its nn }->∀(hits:∃l:Hr Hu,its=l.toArray/\Vals vs l),H' s.heap.objs.size=gV->Ext X.K A H A' H'->StoreOk X.w X.K A' H' S'->RelL X.K A' H' ws vs->
   RR (.ref s.heap.objs.size) h2.objs.size (.ok .next) s':=by
  intro s' Y' H' A' vs its nn I' hD hits hDn ex so' rl;obtain⟨l,rfl,rv⟩:=hits;obtain⟨m,hn,_⟩:=id I'.loc;have un:Un (pL X.stack) (fp++[s.heap.objs.size]) H H' s.heap s'.heap:=(Un.kept k2).trans I'.base;have hch:∀b∈fp++[s.heap.objs.size],(b∈X.ex\/X.s₀.heap.objs.size<=b)/\b≠X.env.locals/\(∀x c,X.env.cells.lookup x=ba c->c≠b)/\∀p∈X.pn++J,p.1≠b:=λb hb=>by
   rcases Io.mp hb with hb|hb
   ·exact#[(hfp b hb).2.2.2.1,(hfp b hb).2.1,(hfp b hb).2.2.2.2.1,(hfp b hb).2.2.2.2.2]
   ·have eb:b=s.heap.objs.size:=by simpa using hb
    subst eb;exact#[.inr I.sz,(HV I.lt).symm,λx cc z=>HV (cellLt x cc z),λp hp=>HV (HP (I.pin p hp).1)]
  have I2:Inv X J Y H' s':=I.call' (show s'.os=s.os from I'.os) un I'.hok I'.bare hch
  have I3:Inv X J Y (bc H' s.heap.objs.size (.lst vs)) s':=Inv.adopt I2 hDn (hch _ DinEx).1 (hch _ DinEx).2.1 (hch _ DinEx).2.2.1 (hch _ DinEx).2.2.2 #[by rw[<- rl.length]; exact hz,l,nn,rv,hD]
  have hCle:s.heap.objs.size<=h2.objs.size:=by rw[hCs]; exact KH _
  exact fin _ _ s' H' A' vs m hn hDn hDC (Jz (Iu I.lt hCle)) (I.nofs hCle) I'.free (ID I.sz hCle) (λx cc z=>HV (Iu (cellLt x cc z) hCle))
   (λp hp=>HV (Iu (HP (I.pin p hp).1) hCle)) I3 ex so' rl
 have loop:∀s4:Hw,s4={ s3 with heap:=h₁,toks:=s3.toks+([]:Hr (HY×Hu)).length }->
   codeAny (model X.prog X.w) X.A (.compLoop (.ListComp elt [#[tg,iter,ifs,0]] scope pos) 0 (.ref it) (.ref s.heap.objs.size) (compEnvC scope cl h2.objs.size X.env)) (RR (.ref s.heap.objs.size) h2.objs.size) s4:=by
  rintro s4 rfl;refine fQ (λk s5=>∃i Y5 H5 A5 Z5 S5 done its nn vs ys,Inv (kA X scope cl h2.objs.size N s3 H (fp++[s.heap.objs.size])) [] Y5 H5 s5/\tn i s5.heap/\(∀b∈fp,H5 b=gV)/\s5.heap.get? s.heap.objs.size=ba { cls:=.type "list",data:=.seq (its:Hr Hu).toArray nn }/\H5 s.heap.objs.size=gV/\Vals vs its/\
   Ext X.K A H A5 H5/\EnvRel X.K A5 H5 Z5 Y5/\StoreOk X.w X.K A5 H5 S5/\RelL X.K A5 H5 done vs/\ws=done++ys/\bg mi g c f k i Z5 S5=ba (ys,S')) ?_ n
   #[0,_,H,A,_,S,[],[],0,[],ws,I0,t1,λb hb=>(hfp b hb).1,k1 _ _ hD2,fresh _ (HE _),.nil,.refl,er0,so,.nil,rfl,e]
  rintro k s5 ⟨i,Y5,H5,A5,Z5,S5,done,its,nn,vs,ys,I5,t5,f5,d5,n5,v5,e5,er5,so5,rl5,hw5,w5⟩;have pinD:Inv (kA X scope cl h2.objs.size N s3 H (fp++[s.heap.objs.size])) [(s.heap.objs.size,{ cls:=.type "list",data:=.seq its.toArray nn })] Y5 H5 s5:=I5.pins_of λp hp=>by
   have hp':p=(s.heap.objs.size,{ cls:=.type "list",data:=.seq its.toArray nn }):=by simpa using hp
   subst hp';exact#[d5,n5,hDC,λz=>Jw _ (stkLt _ z),λv z=>by cases z]
  have oneD:∀p∈[(s.heap.objs.size,({ cls:=.type "list",data:=.seq its.toArray nn }:JJ))],p.1=s.heap.objs.size:=λp hp=>by
   have hp':p=(s.heap.objs.size,{ cls:=.type "list",data:=.seq its.toArray nn }):=by simpa using hp
   rw[hp']
  cases k with
  | zero=>
   dsimp only[bg]at w5;split at w5
   ·rename_i hst;cases w5;rw[Jp]at hw5;subst hw5;refine bf (T.done (kA X scope cl h2.objs.size N s3 H (fp++[s.heap.objs.size])) rfl rfl rfl hc i _ s5 Y5 H5 _ pinD (fpOk' f5 oneD) t5 (mit.stop A5 H5 _ i e5 so5 hst)) λr s6 #[hr,I6]=>?_
    subst hr;have p6:=I6.pin _ (Iq _ (HJ.mpr rfl));exact theEnd s6 Y5 H5 A5 vs _ nn (I6.pins_of λp hp=>absurd hp (by simp)) p6.1 #[its,rfl,v5] n5 e5 so5 rl5
   ·cases w5
  | succ k=>
   dsimp only[bg]at w5;split at w5
   ·rename_i w hw;obtain⟨go,yl⟩:=mit.go A5 H5 S5 i w e5 so5 hw;refine bf (T.item (kA X scope cl h2.objs.size N s3 H (fp++[s.heap.objs.size])) rfl rfl rfl hc i _ s5 Y5 H5 _ pinD (fpOk' f5 oneD) t5 go) λr s6 #[u,hr,h6]=>?_
    subst hr;refine bf h6 λ_ s7 #[x,H7,I7,r7,y7,t7,f7]=>?_
    obtain⟨x1,x2,x3⟩:=yl x H7 y7;have I7':=I7.pinned (fpOk' f7 oneD) (T.obj _ _ t7);split at w5
    ·rename_i Z8 S8 h8;refine bf (bk.tgt _ _ _ _ _ s7 Y5 H7 x u (λY' H'=>∃A',Ext X.K A5 H5 A' H'/\StoreOk X.w X.K A' H' S8/\EnvRel X.K A' H' Z8 Y') I7' r7 #[A5,Z5,S5,w,Z8,S8,er5.mono x1,x2,x3,h8,λY' H' A' q1 q2 q3=>#[A',x1.trans q1,q2,q3]]) λ_ s8 #[Y8,H8,I8,A8,e58,so8,er8]=>?_
     have e8:Ext X.K A H A8 H8:=e5.trans e58;have pD:∀ {Y':L2.St} {H':Hp} {s':Hw},Inv (kA X scope cl h2.objs.size N s3 H (fp++[s.heap.objs.size])) ([(s.heap.objs.size,{ cls:=.type "list",data:=.seq its.toArray nn })]++io fp s7.heap) Y' H' s'->s'.heap.get? s.heap.objs.size=ba { cls:=.type "list",data:=.seq its.toArray nn }/\H' s.heap.objs.size=gV:=λI'=>
      let q:=I'.pin _ (Iq _ (Jr _ (HJ.mpr rfl)))
      #[q.1,q.2.1]
     have pF:∀ {Y':L2.St} {H':Hp} {s':Hw},Inv (kA X scope cl h2.objs.size N s3 H (fp++[s.heap.objs.size])) ([(s.heap.objs.size,{ cls:=.type "list",data:=.seq its.toArray nn })]++io fp s7.heap) Y' H' s'->(∀b∈fp,H' b=gV)/\∀b∈fp,∀o,s7.heap.get? b=ba o->s'.heap.get? b=ba o:=λI'=>
      #[λb hb=>by
       obtain⟨o,eo,_⟩:=T.obj _ _ t7 b hb;exact(I'.pin (b,o) (Iq _ (Iq _ (eA hb eo)))).2.1,
       λb hb o eo=>(I'.pin (b,o) (Iq _ (Iq _ (eA hb eo)))).1]
     split at w5
     ·rename_i S9 h9;refine bf (bk.tst _ _ _ _ _ s8 Y8 H8 (λb H'=>b=true/\∃A',Ext X.K A8 H8 A' H'/\StoreOk X.w X.K A' H' S9) I8 #[A8,Z8,S8,true,S9,er8,so8,h9,λb H' #[z0,A',z1,z2]=>#[z0,A',z1,z2]]) λb s9 #[H9,I9,z0,A9,e9,so9]=>?_
      subst z0;rw[Ic rfl];split at w5
      ·rename_i y S10 h10;split at w5
       ·rename_i ys' S4 h11;cases w5;refine bf (bk.elt _ _ _ _ _ s9 Y8 H9 (EndV X.w X.K A9 H9 S10 y) I9 #[A9,Z8,S9,y,S10,er8.mono e9,so9,h10,λ_ _ z=>z]) λu10 s10 #[v10,H10,I10,r10,A10,e10,so10,rl10]=>?_
        obtain⟨d10,n10⟩:=pD I10;obtain⟨f10,k10⟩:=pF I10;have hlen:its.length < sizeLine:=by
         have l1:=v5.length;have l2:=rl5.length;rw[hw5,HK,IW]at hz;omega
        refine my d10 hlen λh' n' hd' hk'=>?_
        have Ib:Inv (kA X scope cl h2.objs.size N s3 H (fp++[s.heap.objs.size])) [] Y8 H10 { s10 with heap:=h' }:=by
         have Ia:Inv (kA X scope cl h2.objs.size N s3 H (fp++[s.heap.objs.size])) [] Y8 H10 s10:=I10.pins_of λp hp=>absurd hp (by simp)
         exact Ia.turned (t':=s10.toks) (it:=s.heap.objs.size) hk' n10 hDC (.inl DinEx) cellD (λp hp=>absurd hp (by simp[kA]))
        refine#[k,Jq k,i+1,Y8,H10,A10,Z8,S10,done++[y],its++[u10],n',vs++[v10],ys',Ib,?_,f10,hd',n10,v5.append #v[r10],(e8.trans e9).trans e10,(er8.mono e9).mono e10,so10,?_,?_,h11]
        ·exact T.keep (i+1) s7.heap h' t7 λb hb o eo=>hk' b o (fpD b hb) (k10 b hb o eo)
        ·exact(rl5.mono ((e58.trans e9).trans e10)).append #v[rl10]
        ·rw[hw5,Ja]; rfl
       ·cases w5
      ·cases w5
     ·rename_i S9 h9;refine bf (bk.tst _ _ _ _ _ s8 Y8 H8 (λb H'=>b=false/\∃A',Ext X.K A8 H8 A' H'/\StoreOk X.w X.K A' H' S9) I8 #[A8,Z8,S8,false,S9,er8,so8,h9,λb H' #[z0,A',z1,z2]=>#[z0,A',z1,z2]]) λb s9 #[H9,I9,z0,A9,e9,so9]=>?_
      subst z0;rw[Im Ih];obtain⟨d9,n9⟩:=pD I9;obtain⟨f9,k9⟩:=pF I9;refine#[k,Jq k,i+1,Y8,H9,A9,Z8,S9,done,its,nn,vs,ys,I9.pins_of λp hp=>absurd hp (by simp),T.keep (i+1) s7.heap _ t7 k9,f9,d9,n9,v5,e8.trans e9,er8.mono e9,so9,rl5.mono (e58.trans e9),hw5,w5]
     ·cases w5
    ·cases w5
   ·cases w5
 exact codeAny_compStart_list (loop _ rfl) (T.self X.A 0 _ _ _ t1 (loop _ rfl))
def oA {fi:FI}{g:FG}{c:FT}{f:FE}{cap:Hr (HA HB)}{Z:Fm}{S:aa}{w:W}{S':aa}(e:jR fi g c f cap Z S=ba (w,S')) :
  ∃mi S1 n ys S2,fi Z S=ba (mi,S1)/\mi.len S1=ba n/\bg mi g c f n 0 (eE cap Z) S1=ba (ys,S2)/\ys.length<=sizeLine/\w=.ref S2.length/\S'=S2++[.lst ys]:=by
 unfold jR at e;split at e
 ·rename_i mi S1 h1;split at e
  ·rename_i n h2;split at e
   ·rename_i ys S2 h3;obtain⟨h4,h5,h6⟩:=jd e;exact#[mi,S1,n,ys,S2,h1,h2,h3,h4,h5,h6]
   ·cases e
  ·cases e
 ·cases e
def zS {scope:Ld}{N:Hr HY}{cap:Hr (HA HB)}{tg elt iter:Ii}{ifs:Hr Ii}{fi:FI}{g:FG}{c:FT}{f:FE}{pos:Kr}(hc:X.calm=true)(hi:GI X tg iter fi)(hck:X.Ok->∃cl,CompOk X scope cl N cap/\BlockOk X scope cl N tg elt ifs g c f)
  (hs:∀x,foldedSetIterable iter X.env x=pure x):GE X (.ListComp elt [#[tg,iter,ifs,0]] scope pos) (jR fi g c f cap):=by
 intro J s Y H Q I ⟨A,Z,S,w,S',er,so,e,hq⟩;obtain⟨mi,S1,n,ys,S2,h1,h2,h3,h4,rfl,rfl⟩:=oA e;obtain⟨cl,ck,bk⟩:=hck I.ok;rw[eval_ListComp];refine M8 (use:=gV) rfl hs ck.clos ck.kind ck.names (bf (hi J s Y H (λtd H'=>∃A',Ext X.K A H A' H'/\StoreOk X.w X.K A' H' S1/\MIt X.w X.K mi td A' H') I #[A,Z,S,mi,S1,er,so,h1,λtd H' A' z1 z2 z3=>#[A',z1,z2,z3]]) λv s1 q1=>bf q1 λitv s2 q2=>?_)
 obtain⟨it,fp,tn,td,H2,rfl,I2,T,t0,hfp,A2,e2,so2,mit⟩:=q2;refine lq (RR:=λacc C=>compPost (model X.prog X.w) X.A X.xe gV (EP X J Y Q) acc C) I2 hc (er.mono e2) so2 ck bk T t0 hfp mit h3 h4 ?_
 intro D C s' H' A' vs m hn hDn hDC hCL hCf hCn hCs hCc hCp I3 ex so3 rl;refine#[m,hn,λh' hs'=>?_]
 have I4:Inv X J Y (bc H' D (.lst vs)) { s' with heap:=h' }:=I3.turned (t':=s'.toks) (it:=C) (λb o hb eo=>hs'.extBut b o hb eo) (by rw[ay (Ne.symm hDC)]; exact hCn) hCL (.inr hCs) hCc hCp
 exact#[.ref D,_,I4,rfl,hq _ _ (EndV.after (e2.trans ex) (.lst so3 rl hDn))]
def qB {scope:Ld}{N:Hr HY}{cap:Hr (HA HB)}{tg elt iter:Ii}{ifs:Hr Ii}{fi:FI}{g:FG}{c:FT}{f:FE}{pos py spos:Kr}{y:HY}{i:HB}(hc:X.calm=true)(hi:GI X tg iter fi)(hck:X.Ok->∃cl,CompOk X scope cl N cap/\BlockOk X scope cl N tg elt ifs g c f)
  (hs:∀x,foldedSetIterable iter X.env x=pure x) (hsw:swapsWith (.ListComp elt [#[tg,iter,ifs,0]] scope pos) (ba (.Name y py)) spos.line X.env=pure true) (hN:X.N.Nodup) (hy:X.N[i]?=ba y) (hl:X.env.scope.names.lookup y=ba .local) :
  GS X (.Assign [.Name y py] (.ListComp elt [#[tg,iter,ifs,0]] scope pos) spos) (jN (jR fi g c f cap) (zD i)):=by
 intro J s Y H Dd I ⟨A,Z,S,o,S',er,so,e,hd⟩;unfold jN at e;split at e
 ·rename_i w S0 h0;simp only[zD]at e;cases e;obtain⟨mi,S1,n,ys,S2,h1,h2,h3,h4,rfl,rfl⟩:=oA h0;obtain⟨cl,ck,bk⟩:=hck I.ok;rw[exec_Assign_Name_used _ _ _ _ hsw];refine Hs (L7 (Hs ?_));show wpAny _ X.A (do let _ <- comprehension (.ListComp elt [⟨tg,iter,ifs,0⟩] scope pos) scope X.env _ (newList []) false (eval iter X.env) (ba (assign (.Name y py) X.env))) _ _ s
  refine Hs (J0 (M8 (use:=ba (assign (.Name y py) X.env)) (Q:=λ_ s'=>SP X J Dd .next s') rfl hs ck.clos ck.kind ck.names
   (bf (hi J s Y H (λtd H'=>∃A',Ext X.K A H A' H'/\StoreOk X.w X.K A' H' S1/\MIt X.w X.K mi td A' H') I #[A,Z,S,mi,S1,er,so,h1,λtd H' A' z1 z2 z3=>#[A',z1,z2,z3]]) λv s1 q1=>bf q1 λitv s2 q2=>?_)) (λ_ s' hq=>Hx (Hx hq)) λ_ _ e=>e)
  obtain⟨it,fp,tn,td,H2,rfl,I2,T,t0,hfp,A2,e2,so2,mit⟩:=q2;refine lq (RR:=λacc C=>compPost (model X.prog X.w) X.A X.xe (ba (assign (.Name y py) X.env)) (λ_ s'=>SP X J Dd .next s') acc C) I2 hc (er.mono e2) so2 ck bk T t0 hfp mit h3 h4 ?_
  intro D C s' H' A' vs m hn hDn hDC hCL hCf hCn hCs hCc hCp I3 ex so3 rl;obtain⟨oC,esC,epC,hoC,hdC,hrC⟩:=id hn;have I3':Inv X (J++[(C,oC)]) Y (bc H' D (.lst vs)) s':=I3.pins_of λp hp=>by
   rcases Io.mp hp with hp|hp
   ·exact I3.pin p (Iq _ hp)
   ·have hp':p=(C,oC):=by simpa using hp
    subst hp';exact#[hoC,by rw[ay (Ne.symm hDC)]; exact hCn,hCL,hCf,λv z=>by rw[hdC]at z; cases z]
  show wpAny _ X.A (assign (.Name y py) X.env (.ref D)) _ _ _;refine OB (gJ I3' hN hy (.inl hl) (v:=.ref D) rfl (λs4 I4=>?_) (.inr hl))
  have pC:=I4.pin (C,oC) (Iq _ (Iq _ (HJ.mpr rfl)));refine#[m,#[oC,esC,epC,pC.1,hdC,hrC],λh' hs'=>?_]
  have I5:Inv X J (Y.set i (ba (.ref D))) (bc H' D (.lst vs)) s4:=I4.pins_of λp hp=>I4.pin p (Iq _ (Jr _ hp))
  have I6:Inv X J (Y.set i (ba (.ref D))) (bc H' D (.lst vs)) { s4 with heap:=h' }:=I5.turned (t':=s4.toks) (it:=C) (λb o hb eo=>hs'.extBut b o hb eo) (by rw[ay (Ne.symm hDC)]; exact hCn) hCL (.inr hCs) hCc hCp
  obtain⟨Af,f1,f2,f3⟩:=EndV.after (e2.trans ex) (EndV.lst so3 rl hDn);exact#[_,_,I6,hd.nx _ _ #[_,Af,rfl,f1,f2,(er.mono f1).set f3 i]]
 ·cases e
end
open PySem.Builtin.SmallTypes (nextOf)
structure Zap (z p q i j:HD):Prop where
 pz:p≠z
 qz:q≠z
 iz:i≠z
 jz:j≠z
 pq:p≠q
 pi:p≠i
 pj:p≠j
 qi:q≠i
 qj:q≠j
 ij:i≠j
section
variable{prog:Iw}{w:IE}
structure Zit (prog:Iw)(w:IE)(it:HD)(T:HB->IJ->Prop)(C:IJ->Prop)(i:HB)(Uq:HA (Hu->Prop)):Prop where
 keep:∀j h h',T j h->(∀o,h.get? it=ba o->h'.get? it=ba o)->T j h'
 next:∀V,Uq=ba V->∀(B:IB) (s:Hw) (Q:Hu->Hw->Prop) (E:Hu->Hw->Prop),T i s.heap->C s.heap->(∀u h' tk,V u->T (i+1) h'->JW it s.heap h'->Q u { s with heap:=h',toks:=tk })->wpAny (model prog w) B (nextOf (.ref it)) Q E s
 stop:Uq=gV->∀(B:IB) (s:Hw) (Q:Hu->Hw->Prop) (E:Hu->Hw->Prop),B.handled=gV->T i s.heap->C s.heap->(∀h' e,NQ it s.heap h'->(∃o,h'.get? e=ba o/\o.cls=.type "StopIteration")->E (.ref e) { s with heap:=h' })->wpAny (model prog w) B (nextOf (.ref it)) Q E s
variable{B:IB}{E:Hu->Hw->Prop}{s:Hw}{z p q i1 i2:HD}{T1 T2:HB->IJ->Prop}{C1 C2:IJ->Prop}{i:HB}{a b:Hu}
abbrev Zc (z q i1 i2:HD)(C:IJ->Prop):Prop:=∀h h',C h->(∀c o,c≠z->c≠q->c≠i1->c≠i2->h.get? c=ba o->h'.get? c=ba o)->C h'
def jS {U1 U2:HA (Hu->Prop)}{Q:Hu->Hw->Prop}(D:Zap z p q i1 i2)(Zz:Zit prog w i1 T1 C1 i U1)(Z2':∀V1,U1=ba V1->Zit prog w i2 T2 C2 i U2)(k1:Zc z q i1 i2 C1)(k2:Zc z q i1 i2 C2)(hh:B.handled=gV)
  (hz:Oe s.heap z p q .none) (hp:L6 s.heap p (.ref i1) (.ref i2)) (hq:L6 s.heap q a b) (t1:T1 i s.heap) (t2:T2 i s.heap) (c1:C1 s.heap) (c2:C2 s.heap)
  (hI:∀V1 V2,U1=ba V1->U2=ba V2->∀u v h' tk,V1 u->V2 v->Oe h' z p q (rawInt s.heap.objs.size)->L6 h' q u v->T1 (i+1) h'->T2 (i+1) h'->L6 h' s.heap.objs.size u v->
   (∀c o,c≠z->c≠q->c≠i1->c≠i2->s.heap.get? c=ba o->h'.get? c=ba o)->Q (.ref s.heap.objs.size) { s with heap:=h',toks:=tk })
  (hE:U1=gV\/U2=gV->∀h' tk e,(∀c o,c≠z->c≠q->c≠i1->c≠i2->s.heap.get? c=ba o->h'.get? c=ba o)->(∃o,h'.get? e=ba o/\o.cls=.type "StopIteration")->E (.ref e) { s with heap:=h',toks:=tk }) :
  wpAny (model prog w) B (KI.«zip.__next__» #[[.ref z],[]]) (λfin s'=>∃v,fin=.done (.ret v)/\Q v s') E s:=by
 show wpAny _ _ (field (.ref z) 2 >>= _) _ _ s;refine Hs (JK hz rfl (x:=.bool false) rfl ?_);show wpAny _ _ (field (.ref z) 3 >>= _) _ _ s;refine Hs (JK hz rfl (x:=.ref p) rfl (Hs (JD hp rfl ?_)));show wpAny _ _ (JV (.ref z) >>= _) _ _ s;unfold JV;refine Hs (Hs (JK hz rfl (x:=.none) rfl (Hx ?_)));simp only[JP];refine Hs (Mv (Hs (JK hz rfl (x:=.ref q) rfl ?_)));refine Hs (Ku hz (by simp) λg1 zz1 s1=>?_)
 replace zz1:Oe g1 z p q .ellipsis:=zz1;refine Hs ?_;simp only[List.zipIdx_cons,List.zipIdx_nil,Mf,NT];refine Hs (Hs (Qi ?_));show wpAny _ _ (nextOf (.ref i1) >>= _) _ _ _;have up1:∀c o,c≠z->s.heap.get? c=ba o->g1.get? c=ba o:=λc o hc e=>s1.extBut c o hc e
 have t1':T1 i g1:=Zz.keep _ _ _ t1 λo e=>up1 _ _ D.iz e
 have c1':C1 g1:=k1 _ _ c1 λc o hc _ _ _ e=>up1 c o hc e
 have fin:∀(g:IJ) (tk:HB) (it e:HD),(it=i1\/it=i2)->U1=gV\/U2=gV->Oe g z p q .ellipsis->(∀c o,c≠z->c≠q->c≠i1->c≠i2->s.heap.get? c=ba o->g.get? c=ba o)->(∃o,g.get? e=ba o/\o.cls=.type "StopIteration")->
   wpAny (model prog w) B (setField (.ref z) 0 .none) (λ_ s''=>E (.ref e) s'') E { s with heap:=g,toks:=tk }:=λg tk it e _ hu gz kg #[oe,he,hc]=>by
  have ne:e≠z:=λx=>by subst x; rw[gz]at he; cases he; simp at hc
  exact Ku gz (by simp) λg' _ sb=>hE hu g' tk e (λc o a1 a2 a3 a4 x=>sb.extBut _ _ a1 (kg c o a1 a2 a3 a4 x)) #[oe,sb.extBut _ _ ne he,hc]
 cases hu1:U1 with
 | none=>
  refine Hs (Zz.stop hu1 _ _ _ _ hh t1' c1' λg2 e eb he=>?_)
  exact fin g2 s.toks i1 e (.inl rfl) (.inl hu1) (eb _ _ D.iz.symm zz1) (λc o a1 _ a3 _ x=>eb _ _ a3 (up1 c o a1 x)) he
 | some V1=>
  have Zq:=Z2' V1 hu1;refine Hs (Zz.next V1 hu1 _ _ _ _ t1' c1' λu g2 tk2 hu t12 s2=>Hx ?_)
  have q2:L6 g2 q a b:=s2.extBut _ _ D.qi (up1 _ _ D.qz hq);refine Hs (JD q2 rfl (Hs (NV q2 λg3 q3 s3=>?_)))
  replace q3:L6 g3 q u b:=q3;refine Hs (Ln (Hx ?_));refine Hs (Hs (Qi ?_));show wpAny _ _ (nextOf (.ref i2) >>= _) _ _ _;have up3:∀c o,c≠z->c≠q->c≠i1->s.heap.get? c=ba o->g3.get? c=ba o:=λc o a1 a2 a3 x=>s3.extBut _ _ a2 (s2.extBut _ _ a3 (up1 c o a1 x))
  have zz3:Oe g3 z p q .ellipsis:=s3.extBut _ _ D.qz.symm (s2.extBut _ _ D.iz.symm zz1);have t2':T2 i g3:=Zq.keep _ _ _ t2 λo e=>up3 _ _ D.jz D.qj.symm D.ij.symm e
  have c2':C2 g3:=k2 _ _ c2 λc o a1 a2 a3 _ e=>up3 c o a1 a2 a3 e
  cases hu2:U2 with
  | none=>
   refine Hs (Zq.stop hu2 _ _ _ _ hh t2' c2' λg4 e eb he=>?_)
   exact fin g4 tk2 i2 e (.inr rfl) (.inr hu2) (eb _ _ D.jz.symm zz3) (λc o a1 a2 a3 a4 x=>eb _ _ a4 (up3 c o a1 a2 a3 x)) he
  | some V2=>
   refine Hs (Zq.next V2 hu2 _ _ _ _ t2' c2' λv g4 tk4 hv t24 s4=>Hx ?_)
   have q4:L6 g4 q u b:=s4.extBut _ _ D.qj q3;refine Hs (JD q4 rfl (Hs (NV q4 λg5 q5 s5=>?_)))
   replace q5:L6 g5 q u v:=q5;refine Hs (Ln (Hx (Hx ?_)));refine Hs (JD q5 rfl (Hs (MD ?_)));have sz:g5.objs.size=s.heap.objs.size:=by rw[s5.1,s4.1,s3.1,s2.1,s1.1]
   have zz5:Oe g5 z p q .ellipsis:=s5.extBut _ _ D.qz.symm (s4.extBut _ _ D.jz.symm zz3);have t15:T1 (i+1) g5:=Zz.keep _ _ _ t12 λo e=>s5.extBut _ _ D.qi.symm (s4.extBut _ _ D.ij (s3.extBut _ _ D.qi.symm e))
   have t25:T2 (i+1) g5:=Zq.keep _ _ _ t24 λo e=>s5.extBut _ _ D.qj.symm e
   have zlt:z < g5.objs.size:=HP zz5;show wpAny _ _ (Km (.ref z) (.ref g5.objs.size) >>= _) _ _ _;refine Hs ?_;unfold Km;have zz6:Oe (g5.push { cls:=.type "tuple",data:=.seq [u,v].toArray }) z p q .ellipsis:=Ht _ zz5;refine Hs (Ku zz6 (by simp) λg7 zz7 s7=>?_)
   replace zz7:Oe g7 z p q (rawInt g5.objs.size):=zz7;refine Ku zz7 (by simp) λg8 zz8 s8=>?_
   replace zz8:Oe g8 z p q (rawInt g5.objs.size):=zz8;have up8:∀c o,c≠z->g5.get? c=ba o->g8.get? c=ba o:=λc o hc e=>s8.extBut _ _ hc (s7.extBut _ _ hc (Ht _ e))
   have n8:L6 g8 g5.objs.size u v:=s8.extBut _ _ (Jz zlt) (s7.extBut _ _ (Jz zlt) (HI _ rfl));rw[sz]at zz8 n8;refine Hx #[_,rfl,?_];show Q (.ref g5.objs.size) _;rw[sz];exact hI V1 V2 hu1 hu2 u v g8 tk4 hu hv zz8 (up8 _ _ D.qz q5) (Zz.keep _ _ _ t15 λo e=>up8 _ _ D.iz e) (Zq.keep _ _ _ t25 λo e=>up8 _ _ D.jz e) n8 λc o a1 a2 a3 a4 e=>up8 c o a1 (s5.extBut _ _ a2 (s4.extBut _ _ a4 (up3 c o a1 a2 a3 e)))
end
end Mi
namespace Mi
open PySem PySem.Spec PyProof.Rows L2
open PySem.Builtin.SmallTypes (nextOf)
abbrev dZ (prog:Iw)(w:IE)(v:Hu)(o:JJ)(C:IJ->Prop):Prop:=∀(B:IB) (s:Hw) (Q:Hu->Hw->Prop) (E:Hu->Hw->Prop),C s.heap->Q (.ref s.heap.objs.size) { s with heap:=s.heap.push o }->wpAny (model prog w) B (pyIter v) Q E s
abbrev Eh (h:IJ)(o1 o2:JJ):IJ:=(h.push o1).push o2
abbrev Ei (h:IJ)(o1 o2:JJ):IJ:=(Eh h o1 o2).push { cls:=.type "tuple",data:=.seq [.ref h.objs.size,.ref (h.push o1).objs.size].toArray }
abbrev Ej (h:IJ)(o1 o2:JJ):IJ:=(Ei h o1 o2).push { cls:=.type "tuple",data:=.seq [.none,.none].toArray }
abbrev AT (h:IJ)(o1 o2:JJ):IJ:=(Ej h o1 o2).push { cls:=.type "zip",data:=.fields [.none,.bool false,.bool false,.ref (Eh h o1 o2).objs.size,.ref (Ei h o1 o2).objs.size].toArray }
section
variable{prog:Iw}{w:IE}{B:IB}{E:Hu->Hw->Prop}{s:Hw}{v1 v2:Hu}{o1 o2:JJ}{C1 C2:IJ->Prop}
def qC (h1:dZ prog w v1 o1 C1)(h2:dZ prog w v2 o2 C2)(k2:∀h o,C2 h->C2 (h.push o)) :
  MeetsIn prog w (KI.«zip.__new__» #[[.type "zip",v1,v2],[]]) (λ_ R s=>C1 s.heap/\C2 s.heap/\R (.ok (.ret (.ref (Ej s.heap o1 o2).objs.size))) { s with heap:=AT s.heap o1 o2 }):=
 .of_wp λA R s h=>by
  obtain⟨hp,g,d,tk,os⟩:=s;obtain⟨c1,c2,h⟩:=h;have hsub:=sub_zip;have d1:∀(B:IB) (Q:Hu->Hw->Prop) (E:Hu->Hw->Prop),Q (.ref hp.objs.size) #[hp.push o1,g,d,tk,os]->wpAny (model prog w) B (pyIter v1) Q E #[hp,g,d,tk,os]:=λB Q E q=>h1 B #[hp,g,d,tk,os] Q E c1 q
  have d2:∀(B:IB) (Q:Hu->Hw->Prop) (E:Hu->Hw->Prop),Q (.ref (hp.push o1).objs.size) #[(hp.push o1).push o2,g,d,tk,os]->wpAny (model prog w) B (pyIter v2) Q E #[hp.push o1,g,d,tk,os]:=λB Q E q=>h2 B #[hp.push o1,g,d,tk,os] Q E (k2 _ _ c2) q
  wp_walk using d1 _ _ _,d2 _ _ _
  exact#[_,rfl,h]
def wp {Q:Hu->Hw->Prop}(h1:dZ prog w v1 o1 C1)(h2:dZ prog w v2 o2 C2)(k2:∀h o,C2 h->C2 (h.push o))(c1:C1 s.heap)(c2:C2 s.heap)(n1:o1.isFreed=false)(n2:o2.isFreed=false)
  (h:∀h',Oe h' (s.heap.objs.size+4) (s.heap.objs.size+2) (s.heap.objs.size+3) .none->L6 h' (s.heap.objs.size+2) (.ref s.heap.objs.size) (.ref (s.heap.objs.size+1))->L6 h' (s.heap.objs.size+3) .none .none->
   h'.get? s.heap.objs.size=ba o1->h'.get? (s.heap.objs.size+1)=ba o2->h'.objs.size=s.heap.objs.size+5->(∀c o,s.heap.get? c=ba o->h'.get? c=ba o)->Q (.ref (s.heap.objs.size+4)) { s with heap:=h' }) :
  wpAny (model prog w) B (call (.type "zip") [v1,v2]) Q E s:=by
 refine PY F.called_zip #v[] (F.typeCall_zip_2 _ _) (F.newCall_zip_2 _ _) (λobj=>F.args_object_init_3 obj _ _) F.entry_zip_new (qC h1 h2 k2) #[c1,c2,?_]
 have e1:(s.heap.push o1).objs.size=s.heap.objs.size+1:=Ju ..;have e2:(Eh s.heap o1 o2).objs.size=s.heap.objs.size+2:=by unfold Eh; rw[Ju,e1]
 have e3:(Ei s.heap o1 o2).objs.size=s.heap.objs.size+3:=by unfold Ei; rw[Ju,e2]
 have e4:(Ej s.heap o1 o2).objs.size=s.heap.objs.size+4:=by unfold Ej; rw[Ju,e3]
 have e5:(AT s.heap o1 o2).objs.size=s.heap.objs.size+5:=by unfold AT; rw[Ju,e4]
 have g5:(AT s.heap o1 o2).get? (Ej s.heap o1 o2).objs.size=ba _:=HI _ rfl;have g4:(AT s.heap o1 o2).get? (Ei s.heap o1 o2).objs.size=ba _:=Ht _ (HI _ rfl);have g3:(AT s.heap o1 o2).get? (Eh s.heap o1 o2).objs.size=ba _:=Ht _ (Ht _ (HI _ rfl));have g2:(AT s.heap o1 o2).get? (s.heap.push o1).objs.size=ba o2:=Ht _ (Ht _ (Ht _ (HI _ n2)));have g1:(AT s.heap o1 o2).get? s.heap.objs.size=ba o1:=Ht _ (Ht _ (Ht _ (Ht _ (HI _ n1))));rw[e2,e3,e4]at g5;rw[e1,e2]at g3;rw[e3]at g4;rw[e1]at g2;show _/\_;rw[e4];exact#[#[_,g5,rfl],h _ g5 g3 g4 g1 g2 e5 λc o x=>Ht _ (Ht _ (Ht _ (Ht _ (Ht _ x))))]
end
end Mi
namespace Mi
open PySem PySem.Spec PyProof.Rows L2
open PySem.Builtin.SmallTypes (nextOf)
section
variable{prog:Iw}{w:IE}{A:IB}{E:Hu->Hw->Prop}{s:Hw}
def Ek {it t:HD}{i:HB}{items:Ik Hu}{x:Hu}{Q:Hu->Hw->Prop}(hit:s.heap.IsTupleIter it t i)(ht:s.heap.IsTuple t items)(hx:items[i]?=ba x)
  (hQ:∀h',h'.IsTupleIter it t (i+1)->JW it s.heap h'->Q x { s with heap:=h' }):wpAny (model prog w) A (nextOf (.ref it)) Q E s:=by
 obtain⟨o,ho,hc,hd⟩:=id hit;obtain⟨ot,hot,_,nt,hdt⟩:=ht;unfold MU;refine Hs (IV (name:=JX "__next__") hit.typeIs F.slot_tuple_iterator_next (Jb F.slot_tuple_iterator_next hit.typeIs F.entry_tuple_iterator_next ?_ (F.args_tuple_iterator_next_1 _)));show wpAny _ _ (field (.ref it) 0 >>= _) _ _ s;refine Hs (JK ho hd (x:=.ref t) rfl ?_);show wpAny _ _ (if (IA t==IP)=true then _ else _) _ _ s
 rw[Im (show ¬ ((IA t==IP)=true)from Ih)]
 show wpAny _ _ (field (.ref it) 1 >>= _) _ _ s;refine Hs (JK ho hd (x:=.int i 0) rfl (Hs (JD hot hdt ?_)));simp only[HU,hx];refine Hs (MJ ho hd (by simp) (Hx #[x,rfl,Hx (hQ _ #[_,JF _ ho (NI (LL hd _)),(OQ ..).trans hc,?_] (KQ ..))]))
 rw[LL hd]; simp[rawInt]
def El {it t:HD}{i:HB}{items:Ik Hu}{Q:Hu->Hw->Prop}(hh:A.handled=gV)(hit:s.heap.IsTupleIter it t i)(ht:s.heap.IsTuple t items)(hx:items[i]?=gV)
  (hE:∀h' e,NQ it s.heap h'->(∃o,h'.get? e=ba o/\o.cls=.type "StopIteration")->E (.ref e) { s with heap:=h' }):wpAny (model prog w) A (nextOf (.ref it)) Q E s:=by
 obtain⟨o,ho,hc,hd⟩:=id hit;obtain⟨ot,hot,_,nt,hdt⟩:=ht;unfold MU;refine Hs (IV (name:=JX "__next__") hit.typeIs F.slot_tuple_iterator_next (Jb F.slot_tuple_iterator_next hit.typeIs F.entry_tuple_iterator_next ?_ (F.args_tuple_iterator_next_1 _)));show wpAny _ _ (field (.ref it) 0 >>= _) _ _ s;refine Hs (JK ho hd (x:=.ref t) rfl ?_);show wpAny _ _ (if (IA t==IP)=true then _ else _) _ _ s
 rw[Im (show ¬ ((IA t==IP)=true)from Ih)]
 show wpAny _ _ (field (.ref it) 1 >>= _) _ _ s;refine Hs (JK ho hd (x:=.int i 0) rfl (Hs (JD hot hdt ?_)));simp only[HU,hx];refine Hs (Mv (Hs (MJ ho hd (by simp) ?_)))
 show wpAny _ _ (newExc (.type "StopIteration") [] >>= _) _ _ _;refine Hs ?_;simp only[newExc,newTuple];refine Hs (IH ?_ (by size_fits))
 refine Hs (m:=firstArgMember _ _) (LN (a:=IP) (by first|rfl|(simp only[firstArgMember]; rfl)) (IH ?_ (by size_fits)))
 simp only[raiseNew];refine Hs (Oc ?_)
 first|rw[show A.in1.handled=gV from hh]|rw[hh]
 exact Hs (Hx (Pi (hE _ _ (((KQ ..).extBut.push _).push _) #[_,HI _ rfl,rfl])))
end
inductive Zs where|tup (a:HD)|lst (a:HD)|txt (x:HY)
abbrev Zs.T (it:HD):Zs->HB->IJ->Prop
 | .tup a,i,h=>h.IsTupleIter it a i
 | .lst a,i,h=>h.IsListIter it a i
 | .txt x,i,h=>∃t,h.IsStrIter it "str_ascii_iterator" x t i\/h.IsStrIter it "str_iterator" x t i
abbrev Zs.at (K:HG)(H:Hp)(i:HB)(v:V):Zs->Prop
 | .tup a=>∃xs,SqT K H a xs/\xs[i]?=ba v
 | .lst a=>∃xs,SqL K H a xs/\xs[i]?=ba v
 | .txt x=>∃c,x.cps[i]?=ba c/\v=.str #[[c].toArray]
abbrev Zs.out (K:HG)(H:Hp)(i:HB):Zs->Prop
 | .tup a=>∃xs,SqT K H a xs/\xs.length<=i
 | .lst a=>∃xs,SqL K H a xs/\xs.length<=i
 | .txt x=>x.cps.size<=i
def Zs.keep {S:Zs}{it:HD}{j:HB}{h h':IJ}(t:S.T it j h)(k:∀o,h.get? it=ba o->h'.get? it=ba o):S.T it j h':=by
 cases S with
 | tup a=>exact t.at k
 | lst a=>exact t.at k
 | txt x=>
  obtain⟨tk,t⟩:=t;exact#[tk,t.imp (λ#[o,e,r]=>#[o,k _ e,r]) λ#[o,e,r]=>#[o,k _ e,r]]
section
variable{X:Cx}{J:Hr (HD×JJ)}{Y:L2.St}{H:Hp}{s:Hw}
def wq (I:Inv X J Y H s){a b:HD}{o:JJ}(h:X.K.lookup a=ba o)(f:gm X J H b):a≠b:=λz=>by
 subst z;have hb:=I.ok.mod.kin a o h;rcases f.2.2.2.1 with q|q
 ·exact I.ok.noex a o hb q
 ·exact absurd (Iu (HP (I.ok.bs a o hb).1) q) (Jw _)
end
end Mi
namespace Mi
open PySem PySem.Spec PyProof.Rows L2
open PySem.Builtin.SmallTypes (nextOf)
section
variable{X:Cx}{J:Hr (HD×JJ)}{Y:L2.St}{H:Hp}{s:Hw}{h':IJ}
def wt {a b:HD}{u:HO}(h:Rd H a u)(f:H b=gV):a≠b:=λz=>by
 subst z;rcases h with h|⟨o,h⟩ <;> (rw[f]at h; cases h)
def Inv.turnedL {t':HB}{ch:Hr HD}(I:Inv X J Y H s)(k:∀b o,b∉ch->s.heap.get? b=ba o->h'.get? b=ba o)(hf:∀b∈ch,gm X J H b):Inv X J Y H { s with heap:=h',toks:=t' }:=by
 have nit:∀b u,H b=ba u->b∉ch:=λb u e z=>by have:=(hf b z).1; rw[e]at this; cases this
 refine I.step (g':=s.gens) (d':=s.drawn) (ch:=ch) (λb hb=>?_) (λb o _ _ hc e _=>k b o hc e) (λb o _ _ hc e _=>#[o.slots,k b o hc e]) (λ_ _ _ _ n=>n) (λb o hc e=>#[o,k b o hc e]) (λ_ _ e=>e) (λ_ _ _ e=>e) (λb ps e=>#[#[],by rw[e]; simp]) (λm hm=>?_) (λb u e=>?_) I.bare
 ·obtain⟨_,f1,_,f3,f4,f5⟩:=hf b hb;exact#[f3,f1,f4,f5]
 ·obtain⟨o,es,ep,ho,r⟩:=hm;exact#[o,es,ep,k _ o (λz=>(hf _ z).2.1 rfl) ho,r]
 ·refine(I.hok b u e).stay (λc v hc q=>k c v ?_ q) (λ_ q=>q) λ_ _ q=>q
  rcases hc with z|z
  ·rw[z]; exact nit b u e
  ·exact nit c _ z
def Zs.zit {S:Zs}{it z q i1 i2:HD}{i:HB}{Uq:HA V}(I:Inv X J Y H s)(hf:∀b∈[z,q,i1,i2],gm X J H b)(g:match Uq with|some v=>S.at X.K H i v|none=>S.out X.K H i) :
  ∃C,Zit X.prog X.w it (S.T it) C i (Uq.map λv u=>RelV v u)/\C s.heap/\Zc z q i1 i2 C:=by
 have zc:∀(a:HD) (P:IJ->Prop),(∀h h',P h->(∀o,h.get? a=ba o->h'.get? a=ba o)->P h')->(∀b∈[z,q,i1,i2],a≠b)->Zc z q i1 i2 P:=λa P hP hn h h' p k=>
  hP h h' p λo e=>k a o (hn z (by simp)) (hn q (by simp)) (hn i1 (by simp)) (hn i2 (by simp)) e
 have sep:∀ {a:HD} {u:HO} {o:JJ} {b:HD},(Rd H a u\/X.K.lookup a=ba o)->b∈[z,q,i1,i2]->a≠b:=λh hb=>h.elim (λr=>wt r (hf _ hb).1) λr=>wq I r (hf _ hb)
 cases S with
 | tup a=>
  obtain⟨xs,hq,hx⟩ : ∃xs,SqT X.K H a xs/\(match Uq with|some v=>xs[i]?=ba v|none=>xs.length<=i):=by
   cases Uq <;> exact g
  obtain⟨its,rv,p,_⟩:=I.tuple hq;have hne:∀b∈[z,q,i1,i2],a≠b:=λb hb=>by
   rcases hq with r|⟨o,_,_,r,_⟩
   ·exact wt r (hf b hb).1
   ·exact wq I r (hf b hb)
  refine#[λh=>h.IsTuple a its.toArray,#[λj h h' t k=>Zs.keep (S:=.tup a) t k,λV hV B s2 Q E t c hQ=>?_,λhU B s2 Q E hh t c hE=>?_],p,zc a _ (λh h' #[o,e,r] k=>#[o,k _ e,r]) hne]
  ·cases Uq with
   | none=>cases hV
   | some v=>
    cases hV;obtain⟨u,hu,ru⟩:=rv.get hx;exact Ek t c (x:=u) (by simpa using hu) λh' t' sb=>hQ u h' s2.toks ru t' sb
  ·cases Uq with
   | some v=>cases hU
   | none=>
    have:=L2.Vals.length rv;have hx':xs.length<=i:=hx;exact El hh t c (by simp; omega) hE
 | lst a=>
  obtain⟨xs,hq,hx⟩ : ∃xs,SqL X.K H a xs/\(match Uq with|some v=>xs[i]?=ba v|none=>xs.length<=i):=by
   cases Uq <;> exact g
  obtain⟨its,rv,p,_⟩:=I.list hq;have hne:∀b∈[z,q,i1,i2],a≠b:=λb hb=>by
   rcases hq with r|⟨o,_,_,r,_⟩
   ·exact wt r (hf b hb).1
   ·exact wq I r (hf b hb)
  refine#[λh=>h.IsList a its.toArray,#[λj h h' t k=>Zs.keep (S:=.lst a) t k,λV hV B s2 Q E t c hQ=>?_,λhU B s2 Q E hh t c hE=>?_],p.isList,zc a _ (λh h' #[o,e,r] k=>#[o,k _ e,r]) hne]
  ·cases Uq with
   | none=>cases hV
   | some v=>
    cases hV;obtain⟨u,hu,ru⟩:=rv.get hx;exact wpAny_nextOf_list_item t c (x:=u) (by simpa using hu) λh' t' sb=>hQ u h' s2.toks ru t' sb
  ·cases Uq with
   | some v=>cases hU
   | none=>
    have:=L2.Vals.length rv;have hx':xs.length<=i:=hx;exact wpAny_nextOf_list_end hh t c (by simp; omega) hE
 | txt x=>
  refine#[λ_=>Oi,#[λj h h' t k=>Zs.keep (S:=.txt x) t k,λV hV B s2 Q E t _ hQ=>?_,λhU B s2 Q E hh t _ hE=>?_],trivial,λ_ _ _ _=>trivial]
  ·cases Uq with
   | none=>cases hV
   | some v=>
    cases hV;obtain⟨c,hc,rfl⟩ : ∃c,x.cps[i]?=ba c/\v=.str #[[c].toArray]:=g;obtain⟨tk,t|t⟩:=t
    ·exact wpAny_nextOf_ascii_item t hc λh' t' sb=>hQ _ h' _ #[_,rfl] #[tk,.inl t'] sb
    ·exact wpAny_nextOf_wide_item t hc λh' t' sb=>hQ _ h' _ #[_,rfl] #[tk,.inr t'] sb
  ·cases Uq with
   | some v=>cases hU
   | none=>
    have hx:x.cps[i]?=gV:=by simpa using(show x.cps.size<=i from g)
    obtain⟨tk,t|t⟩:=t
    ·exact wpAny_nextOf_ascii_end hh t hx hE
    ·exact wpAny_nextOf_wide_end hh t hx hE
end
abbrev Zs.is (K:HG)(H:Hp)(i:HB)(v:V):Zs->Prop
 | .tup a=>∀xs,SqT K H a xs->xs[i]?=ba v
 | .lst a=>∀xs,SqL K H a xs->xs[i]?=ba v
 | .txt x=>∃c,x.cps[i]?=ba c/\v=.str #[[c].toArray]
def Zs.at_is {S:Zs}{X:Cx}{J:Hr (HD×JJ)}{Y:L2.St}{H:Hp}{s:Hw}{i:HB}{v:V}(I:Inv X J Y H s)(h:S.at X.K H i v):S.is X.K H i v:=by
 cases S with
 | tup a=>obtain⟨xs,hq,hx⟩:=h; exact λys hy=>by rw[I.tuple_inj hy hq]; exact hx
 | lst a=>obtain⟨xs,hq,hx⟩:=h; exact λys hy=>by rw[I.list_inj hy hq]; exact hx
 | txt x=>exact h
abbrev Fq (K:HG)(S1 S2:Zs):It:=
 #[λi H=>∃x y,S1.at K H i x/\S2.at K H i y,λi H v H'=>∃p x y,S1.is K H i x/\S2.is K H i y/\v=.ref p/\H p=gV/\H'=bc H p (.tup [x,y]),λi H=>S1.out K H i\/(∃x,S1.at K H i x)/\S2.out K H i]
def wu {P:Iw}{w:IE}{K:HG}{els:Hr Ii}{k0:HB}{tp:Kr}{S1 S2:Zs}{z p q i1 i2:HD}(D:Zap z p q i1 i2) :
  Turn P w K (.Tuple els k0 tp) (Fq K S1 S2) [z,p,q,i1,i2] z (λi h=>Oe h z p q .none/\L6 h p (.ref i1) (.ref i2)/\(∃a b,L6 h q a b)/\S1.T i1 i h/\S2.T i2 i h) where
 mem:=by simp
 obj:=λi h #[a,b,#[u,v,c],d,e] b' hb=>by
  have it:∀ {S:Zs} {it:HD},S.T it i h->∃o,h.get? it=ba o/\∀v,o.data≠.cell v:=λ{S it} t=>by
   cases S with
   | tup a=>obtain⟨o,e,_,d⟩:=t; exact#[o,e,λv z=>by rw[d]at z; cases z]
   | lst a=>obtain⟨o,e,_,d⟩:=t; exact#[o,e,λv z=>by rw[d]at z; cases z]
   | txt x=>obtain⟨tk,⟨o,e,_,d⟩|⟨o,e,_,d⟩⟩:=t <;> exact#[o,e,λv z=>by rw[d]at z; cases z]
  simp only[HW,Iy,JH]at hb;rcases hb with rfl|rfl|rfl|rfl|rfl
  ·exact#[_,a,λv z=>by cases z]
  ·exact#[_,b,λv z=>by cases z]
  ·exact#[_,c,λv z=>by cases z]
  ·exact it d
  ·exact it e
 keep:=λi h h' #[a,b,#[u,v,c],d,e] k=>#[k z (by simp) _ a,k p (by simp) _ b,#[u,v,k q (by simp) _ c],Zs.keep d (k i1 (by simp)),Zs.keep e (k i2 (by simp))]
 item:=by
  intro X hP hw hK hc i J s Y H E I hf st hg;subst hP hw hK;obtain⟨x,y,g1,g2⟩:=hg;obtain⟨a,b,⟨u,v,c⟩,d,e⟩:=st;have hf4:∀b∈[z,q,i1,i2],gm X J H b:=λb hb=>hf b (by simp only[HW,Iy,JH]at hb ⊢; rcases hb with h|h|h|h <;> simp[h])
  obtain⟨C1,Zz,c1,k1⟩:=Zs.zit (it:=i1) (Uq:=ba x) I hf4 g1;obtain⟨C2,Zq,c2,k2⟩:=Zs.zit (it:=i2) (Uq:=ba y) I hf4 g2;have hT:s.TypeIs (.ref z) "zip":=#[_,a,rfl];unfold pyNext;refine Hs (La (IV (name:=JX "__next__") hT F.slot_zip_next (Jb F.slot_zip_next hT F.entry_zip_next ?_ (F.args_zip_next_1 _))));refine jS D Zz (λ_ _=>Zq) k1 k2 (I.ok.hd hc) a b c d e c1 c2 (λV1 V2 e1 e2 u1 u2 g tk r1 r2 zg qg t1 t2 ng kp=>?_) (λz=>by rcases z with z|z <;> cases z)
  cases e1;cases e2;refine Hx #[_,rfl,?_];refine wpAny_letOwnedTupleGo_zip (s:={ s with heap:=g,toks:=tk }) zg λg' zg' sb=>?_
  have N0:H s.heap.objs.size=gV:=I.hok.fresh (HE _);have lt:∀ {b:HD},b∈[z,p,q,i1,i2]->s.heap.objs.size≠b:=λ{b} hb=>by
   have:∃o,s.heap.get? b=ba o:=by
    have it:∀ {S:Zs} {it:HD},S.T it i s.heap->∃o,s.heap.get? it=ba o:=λ{S it} t=>by
     cases S with
     | tup a=>obtain⟨o,e,_⟩:=t; exact#[o,e]
     | lst a=>obtain⟨o,e,_⟩:=t; exact#[o,e]
     | txt x=>obtain⟨tk,⟨o,e,_⟩|⟨o,e,_⟩⟩:=t <;> exact#[o,e]
    simp only[HW,Iy,JH]at hb;rcases hb with rfl|rfl|rfl|rfl|rfl
    ·exact#[_,a]
    ·exact#[_,b]
    ·exact#[_,c]
    ·exact it d
    ·exact it e
   obtain⟨o,e⟩:=this;exact Jz (HP e)
  have up:∀b o,b∉[z,q,i1,i2]->s.heap.get? b=ba o->g'.get? b=ba o:=λb o hb e=>by
   simp only[HW,Iy,JH,NP]at hb;exact sb.extBut _ _ hb.1 (kp b o hb.1 hb.2.1 hb.2.2.1 hb.2.2.2 e)
  have I1:Inv X J Y H { s with heap:=g',toks:=tk }:=Mi.Inv.turnedL I up hf4
  have ng':L6 g' s.heap.objs.size u1 u2:=sb.extBut _ _ (lt (by simp)) ng
  have I2:Inv X J Y (bc H s.heap.objs.size (.tup [x,y])) { s with heap:=g',toks:=tk }:=by
   refine Mi.Inv.adopt I1 N0 (.inr I.sz) (Jz I.lt) (λw c e=>?_) (λp hp=>?_) #[by show 2<=sizeLine; decide,[u1,u2],.cons r1 #v[r2],#[_,ng',rfl,0,rfl]]
   ·obtain⟨v,q⟩:=I.cell w c e;exact HV q.lt
   ·exact HV (HP (I.pin p hp).1)
  refine#[.ref s.heap.objs.size,_,I2,rfl,#[s.heap.objs.size,x,y,Zs.at_is I g1,Zs.at_is I g2,rfl,N0,rfl],#[zg',up p _ ?_ b,#[u1,u2,sb.extBut _ _ D.qz qg],Zs.keep t1 λo e=>sb.extBut _ _ D.iz e,Zs.keep t2 λo e=>sb.extBut _ _ D.jz e],λb hb=>?_]
  ·simp only[HW,Iy,JH,NP];exact#[D.pz,D.pq,D.pi,D.pj]
  ·rw[ay (Ne.symm (lt hb))];exact(hf b hb).1
 done:=by
  intro X hP hw hK hc i J s Y H E I hf st hg;subst hP hw hK;obtain⟨a,b,⟨u,v,c⟩,d,e⟩:=st;have hf4:∀b∈[z,q,i1,i2],gm X J H b:=λb hb=>hf b (by simp only[HW,Iy,JH]at hb ⊢; rcases hb with h|h|h|h <;> simp[h])
  have hT:s.TypeIs (.ref z) "zip":=#[_,a,rfl];unfold pyNext;refine Hs (La (IV (name:=JX "__next__") hT F.slot_zip_next (Jb F.slot_zip_next hT F.entry_zip_next ?_ (F.args_zip_next_1 _))));have ends:∀h' tk e,(∀c o,c≠z->c≠q->c≠i1->c≠i2->s.heap.get? c=ba o->h'.get? c=ba o)->(∃o,h'.get? e=ba o/\o.cls=.type "StopIteration")->
    wpAny (model X.prog X.w) X.A (do if <- isInstance (.ref e) (.type "StopIteration")then pure (gV:HA Hu)else throw (.ref e)) (λr s1=>r=gV/\Inv X J Y H s1) E { s with heap:=h',toks:=tk }:=λh' tk e k #[o,ho,hc]=>
   Hs (KW (T:="StopIteration") (b:=true) #[o,ho,hc] MB (Hx #[rfl,Mi.Inv.turnedL I (λb o hb e=>by
    simp only[HW,Iy,JH,NP]at hb;exact k b o hb.1 hb.2.1 hb.2.2.1 hb.2.2.2 e) hf4]))
  rcases hg with g1|⟨⟨x,g1⟩,g2⟩
  ·obtain⟨C1,Zz,c1,k1⟩:=Zs.zit (it:=i1) (Uq:=gV) I hf4 g1;exact jS (U2:=gV) D Zz (λV1 e1=>by cases e1) k1 (C2:=λ_=>Oi) (λ_ _ _ _=>trivial) (I.ok.hd hc) a b c d e c1 trivial (λV1 V2 e1 _=>by cases e1) λ_ h' tk e k he=>ends h' tk e k he
  ·obtain⟨C1,Zz,c1,k1⟩:=Zs.zit (it:=i1) (Uq:=ba x) I hf4 g1;obtain⟨C2,Zq,c2,k2⟩:=Zs.zit (it:=i2) (Uq:=gV) I hf4 g2;exact jS D Zz (λ_ _=>Zq) k1 k2 (I.ok.hd hc) a b c d e c1 c2 (λV1 V2 _ e2=>by cases e2) λ_ h' tk e k he=>ends h' tk e k he
 self:=λ_ _ _ _ _ st h=>Pb st.1 h
end Mi
namespace Mi
open PySem PySem.Spec PyProof.Rows L2
abbrev Fs:W->HA (Hr W)
 | .tup xs=>ba xs
 | .str x=>ba (x.cps.toList.map λc=>.str #[[c].toArray])
 | _=>gV
abbrev Cz (f:FA):FI:=λZ S=>match f Z S with
 | some ([x,y],S1)=>match Fs x,Fs y with
  | some xs,ba ys=>ba (.its (ox xs ys),S1)
  | _,_=>match x,y with
   | .ref r,.ref q=>match eO S1 r,eO S1 q with
    | some _,ba _=>ba (.zl r q,S1)
    | _,_=>gV
   | _,_=>gV
 | _=>gV
section
variable{X:Cx}{J:Hr (HD×JJ)}{Y:L2.St}{H:Hp}{s:Hw}{A:Hr HD}
abbrev ZRel (K:HG)(A:Hr HD)(H:Hp)(xs:Hr W):Zs->Prop
 | .tup a=>∃vs,SqT K H a vs/\RelL K A H xs vs
 | .lst a=>Jt
 | .txt x=>xs=x.cps.toList.map λc=>.str #[[c].toArray]
def ZRel.mono {K:HG}{A A':Hr HD}{H H':Hp}{xs:Hr W}{S:Zs}(e:Ext K A H A' H')(h:ZRel K A H xs S):ZRel K A' H' xs S:=by
 cases S with
 | tup a=>obtain⟨vs,h1,h2⟩:=h; exact#[vs,e.tp _ _ h1,h2.mono e]
 | lst a=>exact h
 | txt x=>exact h
def ZRel.at {K:HG}{xs:Hr W}{S:Zs}{i:HB}{w:W}(h:ZRel K A H xs S)(hi:xs[i]?=ba w):∃v,S.at K H i v/\Rel K A H w v:=by
 cases S with
 | tup a=>obtain⟨vs,h1,h2⟩:=h; obtain⟨v,h3,h4⟩:=h2.get hi; exact#[v,#[vs,h1,h3],h4]
 | lst a=>exact h.elim
 | txt x=>
  have h:xs=x.cps.toList.map λc=>.str #[[c].toArray]:=h
  subst h;rw[HF,Hy]at hi;obtain⟨c,hc,rfl⟩:=hi;exact#[.str #[[c].toArray],#[c,by rw[<- Jd]; exact hc,rfl],.str]
def ZRel.is {K:HG}{xs:Hr W}{S:Zs}{i:HB}{w:W}{v:V}(h:ZRel K A H xs S)(hi:xs[i]?=ba w)(z:S.is K H i v):Rel K A H w v:=by
 obtain⟨v',h1,h2⟩:=h.at hi;cases S with
 | tup a=>
  obtain⟨vs,q,e⟩:=h1;have:=z vs q;rw[e]at this; cases this
  exact h2
 | lst a=>exact h.elim
 | txt x=>
  obtain⟨c,e,rfl⟩:=h1;obtain⟨c',e',rfl⟩:=z;rw[e]at e'; cases e'
  exact h2
def ZRel.out {K:HG}{xs:Hr W}{S:Zs}{i:HB}(h:ZRel K A H xs S)(hi:xs.length<=i):S.out K H i:=by
 cases S with
 | tup a=>obtain⟨vs,h1,h2⟩:=h; exact#[vs,h1,by rw[<- h2.length]; exact hi]
 | lst a=>exact h.elim
 | txt x=>
  have h:xs=x.cps.toList.map λc=>.str #[[c].toArray]:=h
  subst h;show x.cps.size<=i
  simpa using hi
def oB {xs ys:Hr W}{i:HB}{w:W}(h:(ox xs ys)[i]?=ba w):∃x y,xs[i]?=ba x/\ys[i]?=ba y/\w=.tup [x,y]:=by
 unfold ox at h;rw[NJ]at h;split at h
 ·rename_i x y e1 e2;cases h;exact#[x,y,e1,e2,rfl]
 ·cases h
def zU {S1 S2:Zs}{xs ys:Hr W}(z1:ZRel X.K A H xs S1)(z2:ZRel X.K A H ys S2):MIt X.w X.K (.its (ox xs ys)) (Fq X.K S1 S2) A H:=by
 refine#[λA' H' S i w e so hi=>?_,λA' H' S i e so hi=>?_]
 ·simp only[MI.at,Iv]at hi;obtain⟨x,y,e1,e2,rfl⟩:=oB hi;obtain⟨v,g1,r1⟩:=(z1.mono e).at e1;obtain⟨u,g2,r2⟩:=(z2.mono e).at e2;refine#[#[v,u,g1,g2],λp H2 #[a,v',u',q1,q2,hp,hn,hH]=>?_]
  subst hp hH;have ex:Ext X.K A' H' A' (bc H' a (.tup [v',u'])):=bN (.inl hn);exact#[ex,so.lay hn,.tup (.of aA) #v[((z1.mono e).is e1 q1).mono ex,((z2.mono e).is e2 q2).mono ex]]
 ·simp only[MI.at,Iv,IT,ox,JS]at hi
  by_cases h1:xs.length<=i
  ·exact .inl ((z1.mono e).out h1)
  ·have hx:i < xs.length:=∅
   obtain⟨v,g1,_⟩:=(z1.mono e).at (HC hx);exact .inr #[#[v,g1],(z2.mono e).out ∅]
def ww {r q:HB}{a b:HD}(ea:A[r]?=ba a)(eb:A[q]?=ba b):MIt X.w X.K (.zl r q) (Fq X.K (.lst a) (.lst b)) A H:=by
 refine#[λA' H' S i w e so hi=>?_,λA' H' S i e so hi=>?_]
 ·simp only[MI.at]at hi;split at hi
  ·rename_i xs ys hx hy;simp only[Iv]at hi;obtain⟨x,y,e1,e2,rfl⟩:=oB hi;obtain⟨vs,h1,r1⟩:=aR so hx (e.ad _ _ ea);obtain⟨us,h2,r2⟩:=aR so hy (e.ad _ _ eb);obtain⟨v,g1,q1⟩:=r1.get e1;obtain⟨u,g2,q2⟩:=r2.get e2;refine#[#[v,u,#[vs,h1,g1],#[us,h2,g2]],λp H2 #[c,v',u',z1,z2,hp,hn,hH]=>?_]
   subst hp hH;have t1:=z1 vs h1;rw[g1]at t1; cases t1
   have t2:=z2 us h2;rw[g2]at t2; cases t2
   have ex:Ext X.K A' H' A' (bc H' c (.tup [v,u])):=bN (.inl hn);exact#[ex,so.lay hn,.tup (.of aA) #v[q1.mono ex,q2.mono ex]]
  ·cases hi
 ·simp only[MI.at]at hi;split at hi
  ·rename_i xs ys hx hy;simp only[Iv,IT,ox,JS]at hi;obtain⟨vs,h1,r1⟩:=aR so hx (e.ad _ _ ea);obtain⟨us,h2,r2⟩:=aR so hy (e.ad _ _ eb)
   by_cases hl:xs.length<=i
   ·exact .inl #[vs,h1,by rw[<- r1.length]; exact hl]
   ·have hx':i < xs.length:=∅
    obtain⟨v,g1,_⟩:=r1.get (HC hx');exact .inr #[#[v,vs,h1,g1],us,h2,by rw[<- r2.length]; omega]
  ·cases hi
def mz {x:W}{v:V}{u:Hu}{xs:Hr W}(I:Inv X J Y H s)(r:Rel X.K A H x v)(ru:RelV v u)(e:Fs x=ba xs) :
  ∃(S:Zs) (o:JJ) (C:IJ->Prop),ZRel X.K A H xs S/\dZ X.prog X.w u o C/\C s.heap/\(∀h o,C h->C (h.push o))/\o.isFreed=false/\∀it h,h.get? it=ba o->S.T it 0 h:=by
 cases r with
 | @tup ws a vs hq rl=>
  cases e;obtain⟨its,rv,p,_⟩:=I.tuple hq;obtain rfl:u=IA a:=ru;exact#[.tup a,{ cls:=.type "tuple_iterator",data:=.fields [.ref a,.int 0 0].toArray },λh=>h.IsTuple a its.toArray,#[vs,hq,rl],λB s Q E c hQ=>MN c hQ,p,λh o #[ot,e,r]=>#[ot,Ht _ e,r],rfl,λit h e=>#[_,e,rfl,rfl]]
 | @str x=>
  cases e;obtain⟨t,rfl⟩:=ru;cases ha:x.cps.all (· < 128)with
  | false=>exact#[.txt x,{ cls:=.type "str_iterator",data:=.fields [.str x t,.int 0 0].toArray },λ_=>Oi,rfl,λB s Q E _ hQ=>wpAny_pyIter_wide ha hQ,trivial,λ_ _ _=>trivial,rfl,λit h e=>#[t,.inr #[_,e,rfl,rfl]]]
  | true=>exact#[.txt x,{ cls:=.type "str_ascii_iterator",data:=.fields [.str x t,.int 0 0].toArray },λ_=>Oi,rfl,λB s Q E _ hQ=>wpAny_pyIter_ascii ha hQ,trivial,λ_ _ _=>trivial,rfl,λit h e=>#[t,.inl #[_,e,rfl,rfl]]]
 | _=>cases e
def wx:bootBuiltins "zip" = ba (.type "zip"):=rfl
def rO {a:HD}{xs:Hr V}{u:Hu}(I:Inv X J Y H s)(ru:RelV (.ref a) u)(hq:SqL X.K H a xs) :
  ∃(o:JJ) (C:IJ->Prop),dZ X.prog X.w u o C/\C s.heap/\(∀h o,C h->C (h.push o))/\o.isFreed=false/\∀it h,h.get? it=ba o->(Zs.lst a).T it 0 h:=by
 obtain⟨its,rv,p,_⟩:=I.list hq;obtain rfl:u=IA a:=ru;exact#[{ cls:=.type "list_iterator",data:=.fields [.ref a,.int 0 0].toArray },λh=>h.IsList a its.toArray,λB s Q E c hQ=>KJ c hQ,p.isList,λh o #[ot,e,r]=>#[ot,Ht _ e,r],rfl,λit h e=>#[_,e,rfl,rfl]]
def CA {els:Hr Ii}{k0:HB}{tp:Kr}{a b:Ii}{f:FA}{p pos:Kr}(hg:Gl X "zip")(hm:X.mg "zip" = gV)(ha:GA X [a,b] f)(hs:starEach [a,b] X.env=[(false,eval a X.env),(false,eval b X.env)])(hs2:starEach [b] X.env=[(false,eval b X.env)]) :
  GI X (.Tuple els k0 tp) (.Call (.Name "zip" p) [a,b] [] pos) (Cz f):=by
 intro J s Y H R I ⟨A,Z,S,mi,S',er,so,e,hq⟩;have fin:∀ {s1:Hw} {H1:Hp} {u v:Hu} {Sa Sb:Zs} {oa ob:JJ} {Ca Cb:IJ->Prop},Inv X J Y H1 s1->dZ X.prog X.w u oa Ca->Ca s1.heap->oa.isFreed=false->(∀it h,h.get? it=ba oa->Sa.T it 0 h)->dZ X.prog X.w v ob Cb->Cb s1.heap->(∀h o,Cb h->Cb (h.push o))->ob.isFreed=false->(∀it h,h.get? it=ba ob->Sb.T it 0 h)->R (Fq X.K Sa Sb) H1->
   wpAny (model X.prog X.w) X.A (call (.type "zip") [u,v]) (λv s=>wpAny (model X.prog X.w) X.A (pyIter v) (DI X J Y (.Tuple els k0 tp) R) X.xe s) X.xe s1:=λ{s1 H1 u v Sa Sb oa ob Ca Cb} I1 ia ca na ta ib cb kb nb tb hR=>by
  refine wp ia ib kb ca cb na nb λh' hz hp hq' g1 g2 hsz kp=>?_
  have I2:Inv X J Y H1 { s1 with heap:=h' }:=I1.kept (t':=s1.toks) kp
  refine Pb (s:={ s1 with heap:=h' }) hz ?_
  have D:Zap (s1.heap.objs.size+4) (s1.heap.objs.size+2) (s1.heap.objs.size+3) s1.heap.objs.size (s1.heap.objs.size+1):=by constructor <;> (intro z; simp at z)
  refine#[s1.heap.objs.size+4,_,_,_,H1,rfl,I2,wu (S1:=Sa) (S2:=Sb) D,#[hz,hp,#[_,_,hq'],ta _ _ g1,tb _ _ g2],λb hb=>?_,hR]
  have hb':s1.heap.objs.size<=b:=by
   simp only[HW,Iy,JH]at hb;rcases hb with rfl|rfl|rfl|rfl|rfl
   ·exact Kc _ _
   ·exact Kc _ _
   ·exact Kc _ _
   ·exact HE _
   ·exact Kc _ _
  exact I1.fpOk hb' (I1.hok.fresh hb')
 unfold Cz at e;split at e
 ·rename_i x y S1 h1;refine Ru (gk I hg hm wx (J3 (bf (ha pos J s Y H _ I #[A,Z,S,_,_,er,so,h1,λ_ _ z=>z]) λus s1 #[vs,H1,I1,r1,A1,z1,z2,z3]=>?_) (by rw[hs,hs2]) (by rw[hs2]; rfl)))
  cases z3 with
  | cons ra t=>
   cases t with
   | cons rb t=>
    cases t;cases r1 with
    | cons ua t=>
     cases t with
     | cons ub t=>
      cases t;split at e
      ·rename_i xs ys e1 e2;cases e;obtain⟨Sa,oa,Ca,za,ia,ca,ka,na,ta⟩:=mz I1 ra ua e1;obtain⟨Sb,ob,Cb,zb,ib,cb,kb,nb,tb⟩:=mz I1 rb ub e2;exact fin I1 ia ca na ta ib cb kb nb tb (hq _ _ A1 z1 z2 (zU za zb))
      ·split at e
       ·rename_i r q;split at e
        ·rename_i xs ys hx hy;cases e;cases ra with
         | @ref _ a ea=>
          cases rb with
          | @ref _ b eb=>
           obtain⟨va,q1,_⟩:=aR z2 hx ea;obtain⟨vb,q2,_⟩:=aR z2 hy eb;obtain⟨oa,Ca,ia,ca,ka,na,ta⟩:=rO I1 ua q1;obtain⟨ob,Cb,ib,cb,kb,nb,tb⟩:=rO I1 ub q2;exact fin I1 ia ca na ta ib cb kb nb tb (hq _ _ A1 z1 z2 (ww ea eb))
        ·cases e
       ·cases e
 ·cases e
end
open PySem.Builtin.SmallTypes (nextOf)
section
variable{prog:Iw}{w:IE}{B:IB}{E:Hu->Hw->Prop}{s:Hw}{e it:HD}{T:HB->IJ->Prop}{C:IJ->Prop}{i:HB}{old:Hu}
structure EnAt (h0 h:IJ)(e it:HD)(fs:Ik Hu)(T:IJ->Prop):Prop where
 here:h.get? e=ba { cls:=.type "enumerate",dict:=gV,data:=.fields fs,slots:=#[] }
 turn:T h
 kept:∀b o,b≠e->b≠it->h0.get? b=ba o->h.get? b=ba o
def EnAt.put {h0:IJ}{fs:Ik Hu}{T:IJ->Prop}{k:HB}{v:Hu}{Q:Rt->Hw->Prop}(x:EnAt h0 s.heap e it fs T)(hne:e≠it)(kT:∀h h',T h->(∀o,h.get? it=ba o->h'.get? it=ba o)->T h')(hk:k < fs.size)
  (q:∀h',EnAt h0 h' e it (fs.setIfInBounds k v) T->JW e s.heap h'->Q () { s with heap:=h' }):wpAny (model prog w) B (setField (.ref e) k v) Q E s:=
 Ku x.here hk λh' y sb=>q h' #[y,kT _ _ x.turn λo z=>sb.extBut _ _ (Ne.symm hne) z,λb o h1 h2 z=>sb.extBut b o h1 (x.kept b o h1 h2 z)] sb
def lr {Uq:HA (Hu->Prop)}{Q:Hu->Hw->Prop}(Zx:Zit prog w it T C i Uq)(hh:B.handled=gV)(he:Ra s.heap e it (i:HM) old)(t:T i s.heap)(c:C s.heap)(hne:e≠it)
  (hI:∀V,Uq=ba V->∀u h' tk tk0,V u->IsEnumOut h' e it ((i:HM)+1) u s.heap.objs.size->T (i+1) h'->h'.get? s.heap.objs.size=ba { cls:=.type "tuple",data:=.seq [.int i tk0,u].toArray }->
   (∀b o,b≠e->b≠it->s.heap.get? b=ba o->h'.get? b=ba o)->Q (.ref s.heap.objs.size) { s with heap:=h',toks:=tk })
  (hE:Uq=gV->∀h' x,NQ it s.heap h'->(∃o,h'.get? x=ba o/\o.cls=.type "StopIteration")->E (.ref x) { s with heap:=h' }) :
  wpAny (model prog w) B (KI.«enumerate.__next__» #[[.ref e],[]]) (λfin s'=>∃v,fin=.done (.ret v)/\Q v s') E s:=by
 obtain⟨hp,g,d,tk,os⟩:=s;show wpAny _ _ (field (.ref e) 2 >>= _) _ _ _;refine Hs (JK he rfl (x:=.ref it) rfl (Hs ?_));cases Uq with
 | none=>exact Zx.stop rfl _ _ _ _ hh t c λh' x a b=>hE rfl h' x a b
 | some V=>
  refine Zx.next V rfl _ _ _ _ t c λu ha tka hu ta sba=>?_
  have kT:=Zx.keep (i+1);have xa:EnAt hp ha e it [.none,.bool false,.ref it,rawInt i,.none,old].toArray (T (i+1)):=#[(sba.2 e hne).trans he,ta,λb o _ h2 z=>sba.extBut b o h2 z]
  have za:ha.objs.size=hp.objs.size:=sba.1;clear sba ta;show wpAny _ _ (field (.ref e) 3 >>= _) _ _ #[ha,g,d,tka,os];refine Hs (JK xa.here rfl (x:=rawInt i) rfl ?_);show wpAny _ _ (field (.ref e) 4 >>= _) _ _ #[ha,g,d,tka,os];refine Hs (JK xa.here rfl (x:=.none) rfl ?_);show wpAny _ _ (mkInt i >>= _) _ _ #[ha,g,d,tka,os];refine Hs (Pk (Hs (xa.put (s:=#[ha,g,d,tka+1,os]) hne kT (by simp) λhb xb sb1=>Hs (xb.put (s:=#[hb,g,d,tka+1,os]) hne kT (by simp) λhc xc sb2=>Hs (MD ?_)))))
  have zc:hc.objs.size=hp.objs.size:=by rw[sb2.1,<- za]; exact sb1.1
  have hel:hp.objs.size≠e:=Jz (HP he);have new:=HI hc (o:={ cls:=.type "tuple",data:=.seq [.int i tka,u].toArray }) rfl;have xd:EnAt hp (hc.push { cls:=.type "tuple",data:=.seq [.int i tka,u].toArray }) e it [.none,.bool false,.ref it,rawInt ((i:HM)+1),.none,old].toArray (T (i+1)):=#[Ht _ xc.here,kT _ _ xc.turn λo z=>Ht _ z,λb o h1 h2 z=>Ht _ (xc.kept b o h1 h2 z)]
  rw[zc]at new;show wpAny _ _ (JV (.ref e) >>= _) _ _ #[hc.push _,g,d,tka+1,os];rw[zc];generalize hc.push { cls:=.type "tuple",data:=.seq [.int i tka,u].toArray }=hd at new xd ⊢;clear zc sb2 xc sb1 xb hb xa za;refine Hs ?_;unfold JV;refine Hs (JK xd.here rfl (x:=.none) rfl (Hx ?_));simp only[JP];refine Hs (Mv (Hs (JK xd.here rfl (x:=old) rfl (Hs (xd.put (s:=#[hd,g,d,tka+1,os]) hne kT (by simp) λh1 x1 s1=>Hs ?_)))))
  unfold Km;refine Hs (x1.put (s:=#[h1,g,d,tka+1,os]) hne kT (by simp) λh2 x2 s2=>x2.put (s:=#[h2,g,d,tka+1,os]) hne kT (by simp) λh3 x3 s3=>Hs (Ln (Hx #[_,rfl,hI V rfl u h3 (tka+1) tka hu x3.here x3.turn ?_ x3.kept])))
  exact s3.extBut _ _ hel (s2.extBut _ _ hel (s1.extBut _ _ hel new))
variable{v:Hu}{o:JJ}
def oE (h1:dZ prog w v o C) :
  MeetsIn prog w (KI.«enumerate.__new__» #[[.type "enumerate",v],[]]) (λ_ R s=>C s.heap/\R (.ok (.ret (.ref (s.heap.push o).objs.size))) { s with heap:=(s.heap.push o).push { cls:=.type "enumerate",data:=.fields [.none,.bool false,.ref s.heap.objs.size,rawInt 0,.none,.none].toArray } }):=
 .of_wp λA R s h=>by
  obtain⟨hp,g,d,tk,os⟩:=s;obtain⟨c,h⟩:=h;have hsub:=sub_enumerate;have d1:∀(B:IB) (Q:Hu->Hw->Prop) (E:Hu->Hw->Prop),Q (.ref hp.objs.size) #[hp.push o,g,d,tk,os]->wpAny (model prog w) B (pyIter v) Q E #[hp,g,d,tk,os]:=λB Q E q=>h1 B #[hp,g,d,tk,os] Q E c q
  wp_walk
  refine wpAny_stack_any λst=>Hx ?_
  split
  ·rename_i c _ _ _ _ _;cases(c==JE "enumerate")
   ·wp_walk using d1 _ _ _
    exact#[_,rfl,h]
   ·wp_walk using d1 _ _ _
    exact#[_,rfl,h]
  ·wp_walk using d1 _ _ _
   exact#[_,rfl,h]
def tW {Q:Hu->Hw->Prop}(h1:dZ prog w v o C)(c:C s.heap)(n1:o.isFreed=false)
  (h:∀h',Ra h' (s.heap.objs.size+1) s.heap.objs.size 0 .none->h'.get? s.heap.objs.size=ba o->(∀b o,s.heap.get? b=ba o->h'.get? b=ba o)->Q (.ref (s.heap.objs.size+1)) { s with heap:=h' }) :
  wpAny (model prog w) B (call (.type "enumerate") [v]) Q E s:=by
 refine PY F.called_enumerate #v[] (F.typeCall_enumerate_1 _) (F.newCall_enumerate_1 _) (λobj=>F.args_object_init_2 obj _) F.entry_enumerate_new (oE h1) #[c,?_]
 have hz:(s.heap.push o).objs.size=s.heap.objs.size+1:=Ju ..;show _/\_;rw[hz];have he:Ra ((s.heap.push o).push { cls:=.type "enumerate",data:=.fields [.none,.bool false,.ref s.heap.objs.size,rawInt 0,.none,.none].toArray }) (s.heap.objs.size+1) s.heap.objs.size 0 .none:=by
  have:=HI (s.heap.push o) (o:={ cls:=.type "enumerate",data:=.fields [.none,.bool false,.ref s.heap.objs.size,rawInt 0,.none,.none].toArray }) rfl;rw[hz]at this; exact this
 exact#[#[_,he,rfl],h _ he (Ht _ (HI _ n1)) λb o x=>Ht _ (Ht _ x)]
end
abbrev G5 (K:HG)(S1:Zs):It:=
 #[λi H=>∃x,S1.at K H i x,λi H v H'=>∃p x,S1.is K H i x/\v=.ref p/\H p=gV/\H'=bc H p (.tup [.int i,x]),λi H=>S1.out K H i]
def tX {P:Iw}{w:IE}{K:HG}{els:Hr Ii}{k0:HB}{tp:Kr}{S1:Zs}{z i1:HD}(D:z≠i1) :
  Turn P w K (.Tuple els k0 tp) (G5 K S1) [z,i1] z (λi h=>(∃old,Ra h z i1 i old)/\S1.T i1 i h) where
 mem:=by simp
 obj:=λi h #[#[old,a],d] b' hb=>by
  have it:∀ {S:Zs} {it:HD},S.T it i h->∃o,h.get? it=ba o/\∀v,o.data≠.cell v:=λ{S it} t=>by
   cases S with
   | tup a=>obtain⟨o,e,_,d⟩:=t; exact#[o,e,λv z=>by rw[d]at z; cases z]
   | lst a=>obtain⟨o,e,_,d⟩:=t; exact#[o,e,λv z=>by rw[d]at z; cases z]
   | txt x=>obtain⟨tk,⟨o,e,_,d⟩|⟨o,e,_,d⟩⟩:=t <;> exact#[o,e,λv z=>by rw[d]at z; cases z]
  simp only[HW,Iy,JH]at hb;rcases hb with rfl|rfl
  ·exact#[_,a,λv z=>by cases z]
  ·exact it d
 keep:=λi h h' #[#[old,a],d] k=>#[#[old,k z (by simp) _ a],Zs.keep d (k i1 (by simp))]
 item:=by
  intro X hP hw hK hc i J s Y H E I hf st hg;subst hP hw hK;obtain⟨x,g1⟩:=hg;obtain⟨⟨old,a⟩,d⟩:=st;have hf4:∀b∈[z,z,i1,i1],gm X J H b:=λb hb=>hf b (by simp only[HW,Iy,JH]at hb ⊢; rcases hb with h|h|h|h <;> simp[h])
  obtain⟨C1,Zz,c1,k1⟩:=Zs.zit (it:=i1) (Uq:=ba x) I hf4 g1;have hT:s.TypeIs (.ref z) "enumerate":=#[_,a,rfl];unfold pyNext;refine Hs (La (IV (name:=JX "__next__") hT F.slot_enumerate_next (Jb F.slot_enumerate_next hT F.entry_enumerate_next ?_ (F.args_enumerate_next_1 _))));refine lr Zz (I.ok.hd hc) a d c1 D (λV e1 u g tk tk0 r1 zg t1 ng kp=>?_) (λz=>by cases z)
  cases e1;refine Hx #[_,rfl,?_];refine wpAny_letOwnedTupleGo_enum (s:={ s with heap:=g,toks:=tk }) zg λg' zg' sb=>?_
  have N0:H s.heap.objs.size=gV:=I.hok.fresh (HE _);have lt:∀ {b:HD},b∈[z,i1]->s.heap.objs.size≠b:=λ{b} hb=>by
   have:∃o,s.heap.get? b=ba o:=by
    have it:∀ {S:Zs} {it:HD},S.T it i s.heap->∃o,s.heap.get? it=ba o:=λ{S it} t=>by
     cases S with
     | tup a=>obtain⟨o,e,_⟩:=t; exact#[o,e]
     | lst a=>obtain⟨o,e,_⟩:=t; exact#[o,e]
     | txt x=>obtain⟨tk,⟨o,e,_⟩|⟨o,e,_⟩⟩:=t <;> exact#[o,e]
    simp only[HW,Iy,JH]at hb;rcases hb with rfl|rfl
    ·exact#[_,a]
    ·exact it d
   obtain⟨o,e⟩:=this;exact Jz (HP e)
  have up:∀b o,b∉[z,i1]->s.heap.get? b=ba o->g'.get? b=ba o:=λb o hb e=>by
   simp only[HW,Iy,JH,NP]at hb;exact sb.extBut _ _ hb.1 (kp b o hb.1 hb.2 e)
  have I1:Inv X J Y H { s with heap:=g',toks:=tk }:=Mi.Inv.turnedL I up hf
  have ng':g'.get? s.heap.objs.size=ba { cls:=.type "tuple",data:=.seq [.int i tk0,u].toArray }:=sb.extBut _ _ (lt (by simp)) ng
  have I2:Inv X J Y (bc H s.heap.objs.size (.tup [.int i,x])) { s with heap:=g',toks:=tk }:=by
   refine Mi.Inv.adopt I1 N0 (.inr I.sz) (Jz I.lt) (λw c e=>?_) (λp hp=>?_) #[by show 2<=sizeLine; decide,[.int i tk0,u],.cons #[_,rfl] #v[r1],#[_,ng',rfl,0,rfl]]
   ·obtain⟨v,q⟩:=I.cell w c e;exact HV q.lt
   ·exact HV (HP (I.pin p hp).1)
  refine#[.ref s.heap.objs.size,_,I2,rfl,#[s.heap.objs.size,x,Zs.at_is I g1,rfl,N0,rfl],#[#[_,zg'],Zs.keep t1 λo e=>sb.extBut _ _ (Ne.symm D) e],λb hb=>?_]
  rw[ay (Ne.symm (lt hb))];exact(hf b hb).1
 done:=by
  intro X hP hw hK hc i J s Y H E I hf st hg;subst hP hw hK;obtain⟨⟨old,a⟩,d⟩:=st;have hf4:∀b∈[z,z,i1,i1],gm X J H b:=λb hb=>hf b (by simp only[HW,Iy,JH]at hb ⊢; rcases hb with h|h|h|h <;> simp[h])
  obtain⟨C1,Zz,c1,k1⟩:=Zs.zit (it:=i1) (Uq:=gV) I hf4 hg;have hT:s.TypeIs (.ref z) "enumerate":=#[_,a,rfl];unfold pyNext;refine Hs (La (IV (name:=JX "__next__") hT F.slot_enumerate_next (Jb F.slot_enumerate_next hT F.entry_enumerate_next ?_ (F.args_enumerate_next_1 _))));refine lr Zz (I.ok.hd hc) a d c1 D (λV e1=>by cases e1) λ_ h' e k #[o,ho,hc]=>?_
  exact Hs (KW (T:="StopIteration") (b:=true) #[o,ho,hc] MB (Hx #[rfl,Mi.Inv.turnedL (t':=s.toks) I (λb o hb e=>by
    simp only[HW,Iy,JH,NP]at hb;exact k b o hb.2 e) hf]))
 self:=λ_ _ _ _ _ st h=>by obtain⟨⟨old,a⟩,_⟩:=st; exact OU a h
abbrev wy (xs:Hr W):Hr W:=xs.zipIdx.map λp=>.tup [.int (p.2:HB),p.1]
def wz {xs:Hr W}{i:HB}{w:W}(h:(wy xs)[i]?=ba w):∃x,xs[i]?=ba x/\w=.tup [.int i,x]:=by
 unfold wy at h;rw[HF,List.getElem?_zipIdx,PQ,Hy]at h;obtain⟨x,h1,rfl⟩:=h;exact#[x,h1,by simp]
abbrev CB (f:FA):FI:=λZ S=>match f Z S with
 | some ([x],S1)=>match Fs x with
  | some xs=>ba (.its (wy xs),S1)
  | none=>gV
 | _=>gV
section
variable{X:Cx}{J:Hr (HD×JJ)}{Y:L2.St}{H:Hp}{s:Hw}{A:Hr HD}
def wD {S1:Zs}{xs:Hr W}(z1:ZRel X.K A H xs S1):MIt X.w X.K (.its (wy xs)) (G5 X.K S1) A H:=by
 refine#[λA' H' S i w e so hi=>?_,λA' H' S i e so hi=>?_]
 ·simp only[MI.at,Iv]at hi;obtain⟨x,e1,rfl⟩:=wz hi;obtain⟨v,g1,r1⟩:=(z1.mono e).at e1;refine#[#[v,g1],λp H2 #[a,v',q1,hp,hn,hH]=>?_]
  subst hp hH;have ex:Ext X.K A' H' A' (bc H' a (.tup [.int i,v'])):=bN (.inl hn);exact#[ex,so.lay hn,.tup (.of aA) #v[.int,((z1.mono e).is e1 q1).mono ex]]
 ·simp only[MI.at,Iv,IT,wy,Hv,List.length_zipIdx]at hi;exact(z1.mono e).out hi
def tY:bootBuiltins "enumerate" = ba (.type "enumerate"):=rfl
def zW {els:Hr Ii}{k0:HB}{tp:Kr}{a:Ii}{f:FA}{p pos:Kr}(hg:Gl X "enumerate")(hm:X.mg "enumerate" = gV)(ha:GA X [a] f)(hs:starEach [a] X.env=[(false,eval a X.env)]) :
  GI X (.Tuple els k0 tp) (.Call (.Name "enumerate" p) [a] [] pos) (CB f):=by
 intro J s Y H R I ⟨A,Z,S,mi,S',er,so,e,hq⟩;unfold CB at e;split at e
 ·rename_i x S1 h1;split at e
  ·rename_i xs e1;cases e;refine Ru (gk I hg hm tY (J3 (bf (ha pos J s Y H _ I #[A,Z,S,_,_,er,so,h1,λ_ _ z=>z]) λus s1 #[vs,H1,I1,r1,A1,z1,z2,z3]=>?_) (by rw[hs]; rfl) (by rfl)))
   cases z3 with
   | cons ra t=>
    cases t;cases r1 with
    | cons ua t=>
     cases t;obtain⟨Sa,oa,Ca,za,ia,ca,ka,na,ta⟩:=mz I1 ra ua e1;refine tW ia ca na λh' hz g1 kp=>?_
     have I2:Inv X J Y H1 { s1 with heap:=h' }:=I1.kept (t':=s1.toks) kp
     refine OU (s:={ s1 with heap:=h' }) hz ?_
     refine#[s1.heap.objs.size+1,_,_,_,H1,rfl,I2,tX (S1:=Sa) (i1:=s1.heap.objs.size) (by simp),#[#[_,hz],ta _ _ g1],λb hb=>?_,hq _ _ A1 z1 z2 (wD za)]
     have hb':s1.heap.objs.size<=b:=by
      simp only[HW,Iy,JH]at hb;rcases hb with rfl|rfl
      ·exact Kc _ _
      ·exact HE _
     exact I1.fpOk hb' (I1.hok.fresh hb')
  ·cases e
 ·cases e
end
end Mi
namespace Mi
open PySem PySem.Spec PyProof.Rows L2
abbrev oF (g1 g2:Hr W->aa->HA (W×aa))(xs:Hr W)(S:aa):HA (W×aa):=match g1 xs S with
 | some r=>ba r
 | none=>g2 xs S
def ff {X:Cx}{f:Hu}{g1 g2:Hr W->aa->HA (W×aa)}(h1:LCall X f g1)(h2:LCall X f g2):LCall X f (oF g1 g2):=by
 intro J s Y H A S xs vs us w S' I so rl rv e;unfold oF at e;split at e
 ·rename_i r hr;cases e;exact h1 J s Y H A S xs vs us w S' I so rl rv hr
 ·exact h2 J s Y H A S xs vs us w S' I so rl rv e
inductive Bi where|len|list|tuple|int|set|sorted|range|all|min|max
 deriving Lf
abbrev Bi.fn:Bi->Hr W->aa->HA (W×aa)
 | .len=>oF nU zQ|.list=>oF gP lc|.tuple=>jM|.int=>D2|.set=>oF (oF jO gA) jP|.sorted=>oF bZ eD|.range=>jA|.all=>B6|.min=>vI|.max=>zR
abbrev Bi.name:Bi->HY
 | .len=>"len"|.list=>"list"|.tuple=>"tuple"|.int=>"int"|.set=>"set"|.sorted=>"sorted"|.range=>"range"|.all=>"all"|.min=>"min"|.max=>"max"
inductive Me where|append|extend|join|pop|get
 deriving Lf
abbrev Me.fn:Me->W->Hr W->aa->HA (W×aa)
 | .append=>gM|.extend=>je|.join=>rc|.pop=>zd|.get=>rh
abbrev Me.name:Me->HY
 | .append=>"append"|.extend=>"extend"|.join=>"join"|.pop=>"pop"|.get=>"get"
abbrev Me.ty:Me->Jy
 | .append=>"list"|.extend=>"list"|.join=>"str"|.pop=>"list"|.get=>"dict"
inductive Tg where
 | nm (i:HB)|tp (is:Hr HB)
set_option genSizeOf false in
set_option genInjectivity false in
mutual
inductive E where
 | c (w:W)|v (i:HB)
 | op (o:BOp) (a b:E)
 | cmp (o:COp) (a b:E)
 | and (a b:E)|or (a b:E)|not (a:E)
 | own (f:HY) (n:HB) (es:Es)|bi (b:Bi) (es:Es)|me (m:Me) (o:E) (es:Es)
 | ix (a b:E)|sl (a:E) (lo hi:Ep)|tup (es:Es)|lst (es:Es)
 | isi (c:Jy) (a:E)
 | neg (a:E)|dnew|disp (es:Es)|ite (t a b:E)
 | comp (elt:E) (tg:Tg) (it:Ie) (cs:Es) (cap:Hr (HA HB))
inductive Es where
 | nil|cons (e:E) (es:Es)
inductive Ep where
 | no|yes (e:E)
inductive Ie where
 | seq (e:E)|rng (es:Es)|zip (es:Es)|rng2 (es:Es)|enu (es:Es)
end
set_option genSizeOf false in
set_option genInjectivity false in
mutual
inductive Sm where
 | set (i:HB) (e:E)|asg (is:Hr HB) (e:E)|par (i j:HB) (es:Es)|put (o k e:E)
 | ex (e:E)|ret (e:E)|pass
 | ite (t:E) (a b:Ss)|whl (t:E) (b:Ss)|loop (tg:Tg) (it:Ie) (b:Ss)
inductive Ss where
 | nil|cons (s:Sm) (ss:Ss)
end
abbrev im:Tg->FG
 | .nm i=>zD i
 | .tp is=>Ds is
section
variable (M:HY->FF)
mutual
noncomputable def au:E->FE
 | .c w=>fC w
 | .v i=>fV i
 | .op o a b=>zj (eS o) (au a) (au b)
 | .cmp o a b=>zm o (au a) (au b)
 | .and a b=>rH (au a) (au b)
 | .or a b=>zq (au a) (au b)
 | .not a=>rJ (au a)
 | .own f n es=>ou n (M f) (cm es)
 | .bi b es=>iY b.fn (cm es)
 | .me m o es=>Dr m.ty m.fn (au o) (cm es)
 | .ix a b=>Gf (au a) (au b)
 | .sl a lo hi=>Eb (au a) (rP lo) (rP hi)
 | .tup es=>vY (cm es)
 | .lst es=>vZ (cm es)
 | .isi c a=>wj c (au a)
 | .neg a=>vT (au a)
 | .dnew=>AR
 | .disp es=>oz (cm es)
 | .ite t a b=>zr (ci t) (au a) (au b)
 | .comp elt tg it cs cap=>jR (kB it) (im tg) (zX cs) (au elt) cap
noncomputable def ci:E->FT
 | .cmp o a b=>vV (zm o (au a) (au b))
 | .and a b=>vW (ci a) (ci b)
 | .or a b=>D8 (ci a) (ci b)
 | .not a=>zn (ci a)
 | .c w=>fP (fC w)
 | .v i=>fP (fV i)
 | .op o a b=>fP (zj (eS o) (au a) (au b))
 | .own f n es=>fP (ou n (M f) (cm es))
 | .bi b es=>fP (iY b.fn (cm es))
 | .me m o es=>fP (Dr m.ty m.fn (au o) (cm es))
 | .ix a b=>fP (Gf (au a) (au b))
 | .sl a lo hi=>fP (Eb (au a) (rP lo) (rP hi))
 | .tup es=>fP (vY (cm es))
 | .lst es=>fP (vZ (cm es))
 | .isi c a=>fP (wj c (au a))
 | .neg a=>fP (vT (au a))
 | .dnew=>λ_ _=>gV
 | .disp _=>λ_ _=>gV
 | .ite _ _ _=>λ_ _=>gV
 | .comp _ _ _ _ _=>λ_ _=>gV
noncomputable def cm:Es->FA
 | .nil=>i9
 | .cons e es=>dO (au e) (cm es)
noncomputable def zX:Es->FT
 | .nil=>AS
 | .cons e .nil=>ci e
 | .cons _ (.cons _ _)=>λ_ _=>gV
noncomputable def rP:Ep->FO
 | .no=>Cn
 | .yes e=>rK (au e)
noncomputable def kB:Ie->FI
 | .seq e=>eQ (au e)
 | .rng es=>qt (cm es)
 | .zip es=>Cz (cm es)
 | .rng2 es=>iRng2 (cm es)
 | .enu es=>CB (cm es)
end
variable (fuel:HB)
mutual
noncomputable def fR:Sm->FS
 | .set i e=>jN (au M e) (zD i)
 | .asg is e=>jN (au M e) (Ds is)
 | .par i j es=>zF i j (cm M es)
 | .put o k e=>jN (au M e) (zE (au M o) (au M k))
 | .ex e=>zz (au M e)
 | .ret e=>zB (au M e)
 | .pass=>wb
 | .ite t a b=>zC (ci M t) (fj a) (fj b)
 | .whl t b=>mw (ci M t) (fj b) fuel
 | .loop tg it b=>we (kB M it) (im tg) (fj b)
noncomputable def fj:Ss->FS
 | .nil=>λZ S=>ba (.nx Z,S)
 | .cons s ss=>zy (fR s) (fj ss)
end
end
structure Gam where
 sc:Hr (HY×J2)
 N:Hr HY
 fns:Hr (HY×HB)
 blt:Hr HY
 dfn:Il
abbrev CC:HA J2->Il
 | some .local=>true|some .cell=>true|some .free=>true|_=>false
abbrev zY:HA J2->Il
 | some .cell=>true|some .free=>true|_=>false
abbrev fm (names outer:Hr (HY×J2)):Hr (HY×J2):=names.map λ(n,k)=>if (k==.free&&outer.lookup n==ba .cell)then(n,.cell)else(n,k)
abbrev slot (Γ:Gam)(x:HY):HA HB:=if CC (Γ.sc.lookup x) && !(x==("__debug__" : HY)) && !(x==("__classdict__" : HY))then Γ.N.findIdx? (· == x)else gV
abbrev rQ:OD->HA BOp
 | .Add=>ba .add|.Sub=>ba .sub|.Mult=>ba .mul|.FloorDiv=>ba .fdiv|.Mod=>ba .mod|.Pow=>ba .pow|_=>gV
abbrev rR:Qp->HA COp
 | .Eq=>ba .eq|.NotEq=>ba .ne|.Lt=>ba .lt|.LtE=>ba .le|.Gt=>ba .gt|.GtE=>ba .ge|.In=>ba .isin|.NotIn=>ba .notin|.Is=>ba .is|.IsNot=>ba .isnot
abbrev zZ (x:HY):HA Bi:=[Bi.len,.list,.tuple,.int,.set,.sorted,.range,.all,.min,.max].find? λb=>b.name==x
abbrev z5 (x:HY):HA Me:=[Me.append,.extend,.join,.pop,.get].find? λb=>b.name==x
abbrev Em (Γ:Gam)(x:HY):Il:=Γ.sc.lookup x==ba .globalImplicit && !(x==("__debug__" : HY))
abbrev wF (x:HY):HA Jy:=if x==("bool" : HY)then ba "bool" else if x==("int" : HY)then ba "int" else if x==("str" : HY)then ba "str" else if x==("tuple" : HY)then ba "tuple" else if x==("list" : HY)then ba "list" else if x==("dict" : HY)then ba "dict" else gV
abbrev rS:Hr (HA Ii)->Hr Ii->Hr Ii
 | some k::ks,v::vs=>k::v::rS ks vs
 | _,_=>[]
abbrev z6 (Γ:Gam)(f:Ii->HA E):Hr Ii->HA E
 | [a,.Name c _]=>if Em Γ c&&Γ.blt.contains c then match wF c,f a with
  | some cs,ba a'=>ba (.isi cs a')
  | _,_=>gV
  else gV
 | _=>gV
abbrev fH:Ii->Il
 | .Name _ _=>true|.Constant _ _ _=>true|.Subscript _ _ _=>true|_=>false
abbrev jT (Γ:Gam)(x:HY):Il:=Γ.sc.lookup x==ba .globalImplicit && !(x==("__debug__" : HY))
abbrev cv (Γ:Gam)(x:HY):HA HB:=if (Γ.sc.lookup x==ba .local)||(Γ.dfn&&Γ.sc.lookup x==ba .cell)then Γ.N.findIdx? (· == x)else gV
abbrev cA (f:Ii->HA E)(es:Hr Ii):HA Es:=es.foldr (λe acc=>match f e,acc with|some e',ba es'=>ba (.cons e' es')|_,_=>gV) (ba .nil)
abbrev cB (f:Ii->HA E)(op:Q9):Hr Ii->HA E
 | []=>gV
 | [a]=>f a
 | a::b::be=>match f a,cB f op (b::be)with
  | some a',ba b'=>ba (match op with|.And=>.and a' b'|.Or=>.or a' b')
  | _,_=>gV
abbrev cP (f:Ii->HA E):HA Ii->HA Ep
 | none=>ba .no
 | some e=>(f e).map .yes
abbrev isTup:Ii->Il
 | .Tuple _ _ _=>true
 | _=>false
abbrev cI (Γ:Gam)(f:Ii->HA E)(tg:Ii):Ii->HA Ie
 | .Call (.Name x p) [a] [] q=>if x==("range" : HY)&&jT Γ x&&Γ.blt.contains x then(cA f [a]).map .rng else if x==("enumerate" : HY)&&jT Γ x&&Γ.blt.contains x&&isTup tg then(cA f [a]).map .enu else(f (.Call (.Name x p) [a] [] q)).map .seq
 | .Call (.Name x p) [a,b] [] q=>if x==("zip" : HY)&&jT Γ x&&Γ.blt.contains x&&isTup tg then(cA f [a,b]).map .zip else if x==("range" : HY)&&jT Γ x&&Γ.blt.contains x then(cA f [a,b]).map .rng2 else(f (.Call (.Name x p) [a,b] [] q)).map .seq
 | e=>(f e).map .seq
abbrev Dt (Γ:Gam):Hr Ii->HA (Hr HB)
 | []=>ba []
 | .Name x _::ts=>match cv Γ x,Dt Γ ts with
  | some i,ba is=>ba (i::is)
  | _,_=>gV
 | _::_=>gV
abbrev cT (Γ:Gam):Ii->HA Tg
 | .Name x _=>(cv Γ x).map .nm
 | .Tuple ts _ _=>(Dt Γ ts).map .tp
 | _=>gV
abbrev fY (names:Hr (HY×J2)):Hr HY:=(names.filter λp=>p.2==.local||p.2==.free).map (·.1)
abbrev fI (Γ:Gam)(names:Hr (HY×J2)):Hr (HA HB):=(fY names).map λx=>if names.lookup x==ba .local then gV else Γ.N.findIdx? (· == x)
abbrev wH (Γ:Gam)(scope:Ld):Il:=
 (scope.kind==.function)&&scope.names.all (λy=>!(y.2==.local)||scope.names.lookup y.1==ba .local)&&scope.names.all (λy=>!(y.2==.cell)) &&
 scope.names.all (λy=>!(y.2==.free)||(zY (Γ.sc.lookup y.1)&&scope.names.lookup y.1==ba .free&&(Γ.N.findIdx? (· == y.1)).isSome))&&decide (fY scope.names).Nodup
abbrev fZ (Γ:Gam)(scope:Ld):Gam:={ Γ with sc:=fm scope.names Γ.sc,N:=fY scope.names,dfn:=false }
abbrev wI (f:Ii->HA E)(keys:Hr (HA Ii))(values:Hr Ii):HA E:=
 if keys.isEmpty&&values.isEmpty then ba .dnew
 else if keys.all (·.isSome)&&decide (keys.length=values.length)&&decide (keys.length<=15)then(cA f (rS keys values)).map .disp else gV
abbrev cE:HB->Gam->Ii->HA E
 | 0,_,_=>gV
 | n+1,Γ,e=>match e with
  | .Constant (.int i) _ _=>ba (.c (.int i))
  | .Constant (.str x) _ _=>ba (.c (.str x))
  | .Constant (.bool b) _ _=>ba (.c (.bl b))
  | .Constant .none _ _=>ba (.c .non)
  | .Name x _=>match slot Γ x with
   | some i=>ba (.v i)
   | none=>gV
  | .BinOp a op b _=>match rQ op,cE n Γ a,cE n Γ b with
   | some o,ba a',ba b'=>ba (.op o a' b')
   | _,_,_=>gV
  | .UnaryOp .Not a _=>(cE n Γ a).map .not
  | .UnaryOp .USub a _=>(cE n Γ a).map .neg
  | .BoolOp op vs _=>cB (cE n Γ) op vs
  | .Compare a [op] [b] _=>match rR op,cE n Γ a,cE n Γ b with
   | some o,ba a',ba b'=>ba (.cmp o a' b')
   | _,_,_=>gV
  | .IfExp t a b _=>match cE n Γ t,cE n Γ a,cE n Γ b with
   | some t',ba a',ba b'=>ba (.ite t' a' b')
   | _,_,_=>gV
  | .Call (.Name f _) args [] _=>if jT Γ f then match Γ.fns.lookup f with
    | some k=>(cA (cE n Γ) args).map (.own f k)
    | none=>if f==("isinstance" : HY)then(if Γ.blt.contains f then z6 Γ (cE n Γ) args else gV)else match zZ f,args with
     | some b,a::as=>if Γ.blt.contains f then(cA (cE n Γ) (a::as)).map (.bi b)else gV
     | _,_=>gV
   else gV
  | .Call (.Attribute o m apos) (a::as) [] cpos=>match z5 m,cE n Γ o,cA (cE n Γ) (a::as)with
   | some m',ba o',ba es=>if fH o&&(apos.endLine==cpos.line)&&decide ((a::as).length < 29)then ba (.me m' o' es)else gV
   | _,_,_=>gV
  | .Subscript a (.Slice lo hi gV _) _=>match cE n Γ a,cP (cE n Γ) lo,cP (cE n Γ) hi with
   | some a',ba lo',ba hi'=>ba (.sl a' lo' hi')
   | _,_,_=>gV
  | .Subscript a b _=>match cE n Γ a,cE n Γ b with
   | some a',ba b'=>ba (.ix a' b')
   | _,_=>gV
  | .Tuple es _ _=>(cA (cE n Γ) es).map .tup
  | .List es _=>(cA (cE n Γ) es).map .lst
  | .Dict keys values _=>wI (cE n Γ) keys values
  | .ListComp elt [#[tg,iter,ifs,asy]] scope _=>if (asy==0)&&(wH Γ scope&&decide (ifs.length<=1))then
    match cI Γ (cE n Γ) tg iter,cT (fZ Γ scope) tg,cA (cE n (fZ Γ scope)) ifs,cE n (fZ Γ scope) elt with
    | some it,ba t,ba cs,ba el=>ba (.comp el t it cs (fI Γ scope.names))
    | _,_,_,_=>gV
   else gV
  | _=>gV
structure CtxOk (M:HY->FF)(X:Cx)(Γ:Gam):Prop where
 names:X.env.scope.names=Γ.sc
 kind:X.env.scope.kind=.function
 N:X.N=Γ.N
 nd:Γ.N.Nodup
 calm:X.calm=true
 xe:X.xe=λ_ _=>Jt
 un:X.A.units+gr < cLine
 dfn:Γ.dfn=true->∀x,X.fn x=true
 blt:∀x∈Γ.blt,X.mg x=gV
 fns:∀f n,Γ.fns.lookup f=ba n->∃k fa fd ps,FnOk X.prog X.w X.K X.mg X.base uD k fa fd ps (v8 X.w X.K n (M f))/\Room k X.A/\X.mg f=ba (.ref fa)/\JC X.K (.ref fa)=true/\Binds X.K fd ps []
def aG {α:Type}{x:α}{P:Prop}(h:(gV:HA α)=ba x):P:=nomatch h
abbrev gC:Ii->Il
 | .Starred _ _=>false
 | _=>true
def am {e:Ii}{es:Hr Ii}{env:OA}(h:gC e=true):starEach (e::es) env=(false,eval e env)::starEach es env:=by
 cases e <;> first|rfl|cases h
def aN {env:OA}{pos:Kr}:∀ {es:Hr Ii},es.all gC=true->(backTo pos (starEach es env)).any (·.1)=false
 | [],_=>rfl
 | e::es,h=>by
  rw[IY,Hz]at h;rw[am h.1];show(false||(backTo pos (starEach es env)).any (·.1))=false
  rw[aN h.2];rfl
def oG {env:OA}{pos:Kr}:∀ {es:Hr Ii},es.all gC=true->(backTo pos (starEach es env)).all (λx=>!x.1)=true
 | [],_=>rfl
 | e::es,h=>by
  rw[IY,Hz]at h;rw[am h.1];show(true&&(backTo pos (starEach es env)).all (λx=>!x.1))=true
  rw[oG h.2];rfl
def iG {n:HB}{Γ:Gam}{e:Ii}{e':E}(h:cE n Γ e=ba e'):gC e=true:=by
 cases n with
 | zero=>cases h
 | succ n=>cases e <;> first|rfl|(exact aG h)
def gZ {f:Ii->HA E}{e:Ii}{es:Hr Ii}{r:Es}(h:cA f (e::es)=ba r):∃e' es',f e=ba e'/\cA f es=ba es'/\r=.cons e' es':=by
 simp only[cA,Pu]at h;split at h
 ·rename_i e' es' h1 h2;cases h;exact#[e',es',h1,h2,rfl]
 ·cases h
def bD {n:HB}{Γ:Gam}:∀ {es:Hr Ii} {r:Es},cA (cE n Γ) es=ba r->es.all gC=true
 | [],_,_=>rfl
 | e::es,r,h=>by
  obtain⟨e',es',h1,h2,_⟩:=gZ h;rw[IY,iG h1,bD h2];rfl
def cO {N:Hr HY}{x:HY}{i:HB}(h:N.findIdx? (· == x)=ba i):N[i]?=ba x:=by
 obtain⟨hl,h1,_⟩:=List.findIdx?_eq_some_iff_getElem.mp h;rw[HC hl];exact congrArg ba (eq_of_beq h1)
section
variable{M:HY->FF}{X:Cx}{Γ:Gam}
def jj {e:Ii}:GT X e (λ_ _=>gV):=λJ s Y H Q I #[A,Z,S,k,S',er,so,e1,hq]=>by cases e1
def wJ {x:HY}(h:CC (X.env.scope.names.lookup x)=true):Fh X.env.scope x:=by
 unfold CC at h;split at h
 ·exact .inl (by assumption)
 ·exact .inr (.inl (by assumption))
 ·exact .inr (.inr (by assumption))
 ·cases h
def wK (K:CtxOk M X Γ){x:HY}{pos:Kr}{i:HB}(h:slot Γ x=ba i):GE X (.Name x pos) (fV i):=by
 unfold slot at h;split at h
 ·rename_i hc;rw[Hz,Hz]at hc;obtain⟨⟨h1,h2⟩,h3⟩:=hc;refine Ge (uH (by rw[K.N]; exact cO h) (wJ (by rw[K.names]; exact h1)) (by simpa using h2) (by simpa using h3))
 ·cases h
def i3 (K:CtxOk M X Γ){x:HY}(h:jT Γ x=true):Gl X x/\(x==("__debug__" : HY))=false:=by
 unfold jT at h;rw[Hz]at h;refine#[?_,by simpa using h.2]
 show X.env.scope.names.lookup x=_;rw[K.names];exact eq_of_beq h.1
def wL {o:Qp}{c:COp}(h:rR o=ba c):c.py=o:=by
 cases o <;> (simp only[rR,Iv]at h; subst h; rfl)
def wM {o:OD}{c:BOp}(h:rQ o=ba c):c.py=o:=by
 cases o <;> simp only[rQ,Iv]at h <;> first|(subst h; rfl)|cases h
def tZ {x:HY}{b:Bi}(h:zZ x=ba b):b.name=x:=by
 have:=Ny h;exact eq_of_beq this
def t4 {x:HY}{b:Me}(h:z5 x=ba b):b.name=x:=by
 have:=Ny h;exact eq_of_beq this
def cw {n:HB}(ih:∀ {e:Ii} {e':E},cE n Γ e=ba e'->GE X e (au M e')):∀ {es:Hr Ii} {r:Es},cA (cE n Γ) es=ba r->GA X es (cm M r)
 | [],r,h=>by cases h; exact Cm
 | e::es,r,h=>by
  obtain⟨e',es',h1,h2,rfl⟩:=gZ h;exact zt (ih h1) (cw ih h2) (am (iG h1))
def En (K:CtxOk M X Γ){n:HB}{f:HY}{p pos:Kr}{args:Hr Ii}{k:HB}{r:Es}(hg:jT Γ f=true)(hf:Γ.fns.lookup f=ba k)(ha:cA (cE n Γ) args=ba r)(h:GA X args (cm M r)):GE X (.Call (.Name f p) args [] pos) (ou k (M f) (cm M r)):=by
 obtain⟨d,fa,fd,ps,F,hr,hm,hk,hb⟩:=K.fns f k hf;obtain⟨g1,g2⟩:=i3 K hg;cases args with
 | nil=>cases ha; exact zw F hr g1 hm hk hb g2
 | cons a as=>
  have ns:=bD ha;rw[IY,Hz]at ns;exact Co F hr g1 hm hk hb h g2 (am ns.1) (aN ns.2)
def Gh (K:CtxOk M X Γ){n:HB}{f:HY}{p pos:Kr}{a:Ii}{as:Hr Ii}{b:Bi}{r:Es}(hg:jT Γ f=true)(hb:zZ f=ba b)(hc:Γ.blt.contains f=true)(ha:cA (cE n Γ) (a::as)=ba r)(h:GA X (a::as) (cm M r)):GE X (.Call (.Name f p) (a::as) [] pos) (iY b.fn (cm M r)):=by
 obtain⟨g1,g2⟩:=i3 K hg;have hm:X.mg f=gV:=K.blt f (by simpa using hc)
 have ns:=bD ha;rw[IY,Hz]at ns;have e:=tZ hb;subst e;have hu:X.A.units+12 < cLine:=by have:=K.un; have:gr=20:=rfl; omega
 have calm:∀ {f:Hu} {g:Hr W->aa->HA (W×aa)},(X.A.handled=gV->LCall X f g)->LCall X f g:=λh J s Y H A S xs vs us w S' I=>h (I.ok.hd K.calm) J s Y H A S xs vs us w S' I
 cases b with
 | len=>exact on (ff qv qx) g1 hm PySem.boot_len h #v[] g2 (am ns.1) (aN ns.2)
 | list=>exact oo (calm λhh=>ff (nJ hh) (nW hh)) g1 hm rfl h #v[] g2 (am ns.1) (aN ns.2)
 | tuple=>exact oo (calm mr) g1 hm rfl h #v[] g2 (am ns.1) (aN ns.2)
 | int=>exact oo sV g1 hm rfl h #v[] g2 (am ns.1) (aN ns.2)
 | set=>exact oo (calm λhh=>ff (ff (qw hh) (qo hh hu)) (qA hh)) g1 hm rfl h #v[] g2 (am ns.1) (aN ns.2)
 | sorted=>exact on (calm λhh=>ff (ol hh hu) (mj hh hu)) g1 hm rfl h #v[] g2 (am ns.1) (aN ns.2)
 | range=>exact oo nI g1 hm rfl h #v[] g2 (am ns.1) (aN ns.2)
 | all=>exact on (calm tP) g1 hm rfl h #v[] g2 (am ns.1) (aN ns.2)
 | min=>exact on (calm λhh=>tM hh hu) g1 hm rfl h #v[] g2 (am ns.1) (aN ns.2)
 | max=>exact on (calm tV) g1 hm rfl h #v[] g2 (am ns.1) (aN ns.2)
def wQ {x:HY}{c:Jy}(h:wF x=ba c):bootBuiltins x=ba (.type c)/\x≠"__name__":=by
 unfold wF at h;split at h
 ·rename_i e; cases h; rw[eq_of_beq e]; exact#[rfl,#v[]]
 ·split at h
  ·rename_i e; cases h; rw[eq_of_beq e]; exact#[rfl,#v[]]
  ·split at h
   ·rename_i e; cases h; rw[eq_of_beq e]; exact#[rfl,#v[]]
   ·split at h
    ·rename_i e; cases h; rw[eq_of_beq e]; exact#[rfl,#v[]]
    ·split at h
     ·rename_i e; cases h; rw[eq_of_beq e]; exact#[rfl,#v[]]
     ·split at h
      ·rename_i e; cases h; rw[eq_of_beq e]; exact#[rfl,#v[]]
      ·cases h
def Eo (K:CtxOk M X Γ){n:HB}{f:HY}{p pos:Kr}{args:Hr Ii}{r:E}(hg:jT Γ f=true)(hb:(f==("isinstance" : HY))=true)(hc:Γ.blt.contains f=true)(ih:∀ {e:Ii} {e':E},cE n Γ e=ba e'->GE X e (au M e'))(h:z6 Γ (cE n Γ) args=ba r) :
  GE X (.Call (.Name f p) args [] pos) (au M r)/\∃a c,r=.isi c a:=by
 obtain⟨g1,g2⟩:=i3 K hg;have hm:X.mg f=gV:=K.blt f (by simpa using hc)
 have e:=eq_of_beq hb;subst e;unfold z6 at h;split at h
 ·rename_i a c q;split at h
  ·rename_i hcc;rw[Hz]at hcc;obtain⟨g3,g4⟩:=i3 K (x:=c) hcc.1;have hm2:X.mg c=gV:=K.blt c (by simpa using hcc.2)
   split at h
   ·rename_i cs a' h1 h2;cases h;obtain⟨b1,b2⟩:=wQ h1;exact#[Cw g1 hm g3 hm2 b1 b2 g4 (ih h2) (am (iG h2)),a',cs,rfl]
   ·cases h
  ·cases h
 ·cases h
def en {o:Ii}{name:HY}{env:OA}(h:fH o=true):attributeBase o name env (eval o env)=eval o env:=by
 cases o <;> first|rfl|cases h
def rT {n:HB}{pos:Kr}(ih:∀ {e:Ii} {e':E},cE n Γ e=ba e'->GE X e (au M e')):∀(keys:Hr (HA Ii)) (values:Hr Ii) {r:Es},keys.all (·.isSome)=true->keys.length=values.length->cA (cE n Γ) (rS keys values)=ba r->Eg X pos keys values (cm M r)
 | [],[],r,_,_,h=>by cases h; exact zM
 | [],_::_,r,_,hl,_=>by cases hl
 | _::_,[],r,_,hl,_=>by cases hl
 | none::_,_::_,r,ha,_,_=>by cases ha
 | some k::ks,v::vs,r,ha,hl,h=>by
  dsimp only[rS]at h;obtain⟨e1,es1,h1,h2,rfl⟩:=gZ h;obtain⟨e2,es2,h3,h4,rfl⟩:=gZ h2;rw[IY,Hz]at ha;exact wl (ih h1) (ih h3) (rT ih ks vs ha.2 (by simpa using hl) h4)
def Gi (K:CtxOk M X Γ){n:HB}{m:HY}{apos cpos:Kr}{o a:Ii}{as:Hr Ii}{b:Me}{o':E}{r:Es}(hm:z5 m=ba b)(hr:fH o=true)(hl:(apos.endLine==cpos.line)=true)(hn:(a::as).length < 29)(ho:GE X o (au M o'))(ha:cA (cE n Γ) (a::as)=ba r)(h:GA X (a::as) (cm M r)) :
  GE X (.Call (.Attribute o m apos) (a::as) [] cpos) (Dr b.ty b.fn (au M o') (cm M r)):=by
 have ns:=bD ha;have ns':=ns;rw[IY,Hz]at ns;have jb:((backTo cpos (starEach (a::as) X.env)).all (λx=>!x.1)&&(backToKw cpos (keywordEach [] X.env)).all (λx=>x.1.isSome)&&decide ((a::as).length+([]:Hr Pw).length+(if ([]:Hr Pw).isEmpty then 0 else 1) < 30))=true:=by
  rw[oG ns',LF,Hz];exact#[rfl,JL (by simp only[J8,List.isEmpty_nil,JP]; omega)]
 have e:=t4 hm;subst e;cases b with
 | append=>exact oq LP PySem.F.slot_list_append PySem.F.type_list_append lX ho h (en hr) jb hl (am ns.1) (aN ns.2)
 | extend=>exact oq LP PySem.F.slot_list_extend PySem.F.type_list_extend lY ho h (en hr) jb hl (am ns.1) (aN ns.2)
 | join=>exact oq PySem.F.plainAttrs_str PySem.F.slot_str_join PySem.F.type_str_join pX ho h (en hr) jb hl (am ns.1) (aN ns.2)
 | pop=>exact oq LP PySem.F.slot_list_pop PySem.F.type_list_pop sW ho h (en hr) jb hl (am ns.1) (aN ns.2)
 | get=>exact oq PySem.F.plainAttrs_dict NF PySem.F.type_dict_get (p8 (by have:=K.un; have:gr=20:=rfl; omega)) ho h (en hr) jb hl (am ns.1) (aN ns.2)
def oH {n:HB}{Γ:Gam}{e:Ii}{e':E}{op:Qp}(h:cE n Γ e=ba e'):behindInMarks op e=false:=by
 cases n with
 | zero=>cases h
 | succ n=>cases e <;> first|rfl|(exact aG h)
def qD {n:HB}{Γ:Gam}{e:Ii}{e':E}(h:cE n Γ e=ba e'):lP e:=by
 cases n with
 | zero=>cases h
 | succ n=>cases e <;> first|(intro o i; rfl)|(exact aG h)
def mB {n:HB}{Γ:Gam}{f:Ii->HA E}{e:Ii}{i:Ie}{env:OA}{tg:Ii}(hf:∀el k p,f (.Set el k p)=gV)(h:cI Γ f tg e=ba i):∀x,foldedSetIterable e env x=pure x:=by
 intro x;cases e <;> first|rfl|(simp[cI,hf]at h)
def mC {n:HB}{op:Q9}{pos:Kr}(ih:∀ {e:Ii} {e':E},cE n Γ e=ba e'->GE X e (au M e')):∀ {vs:Hr Ii} {r:E},cB (cE n Γ) op vs=ba r->GE X (.BoolOp op vs pos) (au M r)
 | [],r,h=>by cases h
 | [a],r,h=>Ch (ih h)
 | a::b::be,r,h=>by
  simp only[cB]at h;split at h
  ·rename_i a' b' h1 h2;cases h;cases op with
   | And=>exact Ci (ih h1) (mC ih h2)
   | Or=>exact Ea (ih h1) (mC ih h2)
  ·cases h
def mD {n:HB}{op:Q9}{pos:Kr}(ih:∀ {e:Ii} {e':E},cE n Γ e=ba e'->GT X e (ci M e')):∀ {vs:Hr Ii} {r:E},cB (cE n Γ) op vs=ba r->GW X (.BoolOp op vs pos) (ci M r)
 | [],r,h=>by cases h
 | [a],r,h=>by
  cases op with
  | And=>exact zp (ih h)
  | Or=>exact Ce (ih h)
 | a::b::be,r,h=>by
  simp only[cB]at h;split at h
  ·rename_i a' b' h1 h2;cases h;cases op with
   | And=>exact Cf (ih h1) (mD ih h2)
   | Or=>exact D9 (ih h1) (mD ih h2)
  ·cases h
def wR {n:HB}(ih:∀ {e:Ii} {e':E},cE n Γ e=ba e'->GE X e (au M e')){o:HA Ii}{p:Ep}(h:cP (cE n Γ) o=ba p):GO X o (rP M p):=by
 cases o with
 | none=>cases h; exact zu
 | some e=>
  simp only[cP,Hy]at h;obtain⟨e',h1,rfl⟩:=h;exact zv (ih h1)
def qE (K:CtxOk M X Γ){n:HB}(ih:∀ {e:Ii} {e':E},cE n Γ e=ba e'->GE X e (au M e')){tg e:Ii}{i:Ie}(h:cI Γ (cE n Γ) tg e=ba i):GI X tg e (kB M i):=by
 have gen:(cE n Γ e).map Ie.seq=ba i->GI X tg e (kB M i):=λh=>by
  rw[Hy]at h;obtain⟨e',h1,rfl⟩:=h;exact zP (ih h1)
 unfold cI at h;split at h
 ·rename_i x p a pos;split at h
  ·rename_i hc;rw[Hz,Hz]at hc;obtain⟨⟨h1,h2⟩,h3⟩:=hc;have hx:=eq_of_beq h1;subst hx;rw[Hy]at h;obtain⟨r,hr,rfl⟩:=h;have ns:=bD hr;rw[IY,Hz]at ns;exact zJ (i3 K h2).1 (K.blt _ (by simpa using h3)) (cw ih hr) (am ns.1)
  ·split at h
   ·rename_i hc;rw[Hz,Hz,Hz]at hc;obtain⟨⟨⟨h1,h2⟩,h3⟩,h4⟩:=hc;have hx:=eq_of_beq h1;subst hx;rw[Hy]at h;obtain⟨r,hr,rfl⟩:=h;have ns:=bD hr;rw[IY,Hz]at ns;cases tg with
    | Tuple els k0 tp=>exact zW (i3 K h2).1 (K.blt _ (by simpa using h3)) (cw ih hr) (am ns.1)
    | _=>cases h4
   ·exact gen h
 ·rename_i x p a b pos;split at h
  ·rename_i hc;rw[Hz,Hz,Hz]at hc;obtain⟨⟨⟨h1,h2⟩,h3⟩,h4⟩:=hc;have hx:=eq_of_beq h1;subst hx;rw[Hy]at h;obtain⟨r,hr,rfl⟩:=h;have ns:=bD hr;rw[IY,IY,Hz,Hz]at ns;cases tg with
   | Tuple els k0 tp=>exact CA (i3 K h2).1 (K.blt _ (by simpa using h3)) (cw ih hr) (by rw[am ns.1,am ns.2.1]; rfl) (am ns.2.1)
   | _=>cases h4
  ·split at h
   ·rename_i hc;rw[Hz,Hz]at hc;obtain⟨⟨h1,h2⟩,h3⟩:=hc;have hx:=eq_of_beq h1;subst hx;rw[Hy]at h;obtain⟨r,hr,rfl⟩:=h;have ns:=bD hr;rw[IY,IY,Hz,Hz]at ns;exact zK (i3 K h2).1 (K.blt _ (by simpa using h3)) (cw ih hr) (by rw[am ns.1,am ns.2.1]; rfl) (am ns.2.1)
   ·exact gen h
 ·exact gen h
def mE (K:CtxOk M X Γ){x:HY}{i:HB}(h:cv Γ x=ba i):X.N[i]?=ba x/\yo X.env.scope x/\(X.fn x=true\/X.env.scope.names.lookup x=ba .local):=by
 unfold cv at h;split at h
 ·rename_i hc;refine#[by rw[K.N]; exact cO h,?_]
  unfold L2.yo;rw[K.names];rw[JY,Hz]at hc;rcases hc with hc|⟨hd,hc⟩
  ·have:=eq_of_beq hc;exact#[.inl this,.inr this]
  ·exact#[.inr (eq_of_beq hc),.inl (K.dfn hd x)]
 ·cases h
def oJ (K:CtxOk M X Γ):∀ {ts:Hr Ii} {is:Hr HB},Dt Γ ts=ba is->(∀x∈ts,∃y p,x=N2 y p)/\Nf (λ(t:Ii) (i:HB)=>∃x p,t=N2 x p/\X.N[i]?=ba x/\yo X.env.scope x/\(X.fn x=true\/X.env.scope.names.lookup x=ba .local)) ts is
 | [],is,h=>by cases h; exact#[λx hx=>by simp at hx,.nil]
 | t::ts,is,h=>by
  cases t with
  | Name x p=>
   dsimp only[Dt]at h;split at h
   ·rename_i i is' h1 h2;cases h;obtain⟨a,b⟩:=oJ K h2;exact#[λy hy=>(HW.mp hy).elim (λe=>#[x,p,e]) (a y),.cons #[x,p,rfl,mE K h1] b]
   ·cases h
  | _=>cases h
def gD {env:OA}:∀ {ts:Hr Ii},(∀x∈ts,∃y p,x=N2 y p)->(assignEach ts env).length=ts.length/\(assignEach ts env).findIdx? (·.1)=gV
 | [],_=>#[rfl,rfl]
 | t::ts,h=>by
  obtain⟨y,p,rfl⟩:=h t Jm;obtain⟨a,b⟩:=gD (env:=env) λx hx=>h x (Ji _ hx)
  refine#[by show(assignEach ts env).length+1=ts.length+1; rw[a],?_]
  show List.findIdx? (·.1) ((false,assign (.Name y p) env)::assignEach ts env)=gV
  rw[List.findIdx?_cons,b];rfl
def rV (K:CtxOk M X Γ){tg:Ii}{t:Tg}(h:cT Γ tg=ba t):GG X tg (im t):=by
 have hN:X.N.Nodup:=by rw[K.N]; exact K.nd
 cases tg with
 | Name x p=>
  dsimp only[cT]at h; simp only[Hy]at h
  obtain⟨i,h1,rfl⟩:=h;obtain⟨a,b,c⟩:=mE K h1;exact rL hN a b c
 | Tuple ts k p=>
  dsimp only[cT]at h; simp only[Hy]at h
  obtain⟨is,h1,rfl⟩:=h;obtain⟨a,b⟩:=oJ K h1;exact Cr K.calm a b hN (gD a).1 (gD a).2
 | _=>cases h
end
abbrev d0 (env:OA):Hr (HY×J2)->Hr (HY×HD)->Hr (HY×HD)
 | [],cs=>cs
 | (n,k)::r,cs=>d0 env r (if k==.free then(n,(env.cells.lookup n).getD 0)::cs else cs)
def iH {env:OA}:∀(names:Hr (HY×J2)) (cs:Hr (HY×HD)),(∀y∈names,y.2=.free->(env.cells.lookup y.1).isSome=true)->
  (forIn names cs λx r=>match x with|(name,kind)=>if (kind==LG)=true then do let a <- cellOf env name; pure (JZ ((name,a)::r))else pure (JZ r):QP (Hr (HY×HD)))=pure (d0 env names cs)
 | [],cs,_=>by rw[NT]; rfl
 | (n,k)::r,cs,h=>by
  rw[Mf];have hr:=λy hy=>h y (Ji _ hy)
  by_cases hk:(k==LG)=true
  ·obtain⟨c,hc⟩:=Jh.mp (h (n,k) Jm (eq_of_beq hk));have e1:cellOf env n=pure c:=by unfold cellOf; rw[hc]
   simp only[hk,JP,e1,pure_bind];rw[iH r _ hr];simp only[d0,hk,JP,hc,Pc]
  ·have hk':(k==LG)=false:=by simpa using hk
   simp only[hk',Ij,Jn,pure_bind];rw[iH r _ hr];simp only[d0,hk',Ij,Jn]
def ja {scope:Ld}{env:OA}(h:∀y∈scope.names,y.2=.free->(env.cells.lookup y.1).isSome=true):closureFor scope env=pure (d0 env scope.names []):=by
 have:=iH scope.names [] h;unfold closureFor;simp only[this,pure_bind]
def jU {env:OA}:∀(names:Hr (HY×J2)) (cs:Hr (HY×HD)),(∀y∈names,y.2=.free->(env.cells.lookup y.1).isSome=true)->(∀x c,cs.lookup x=ba c->env.cells.lookup x=ba c)->
  ∀x c,(d0 env names cs).lookup x=ba c->env.cells.lookup x=ba c
 | [],cs,_,h,x,c,e=>h x c e
 | (n,k)::r,cs,hn,h,x,c,e=>by
  refine jU r _ (λy hy=>hn y (Ji _ hy)) (λx c e=>?_) x c e
  split at e
  ·rename_i hk;rw[JQ]at e;split at e
   ·rename_i hx;cases e;have:=eq_of_beq hx;subst this;obtain⟨c,hc⟩:=Jh.mp (hn (x,k) Jm (eq_of_beq hk));rw[hc]; rfl
   ·exact h x c e
  ·exact h x c e
def i4 {env:OA}{x:HY}:∀(names:Hr (HY×J2)) (cs:Hr (HY×HD)),(∃c,cs.lookup x=ba c)->∃c,(d0 env names cs).lookup x=ba c
 | [],cs,h=>h
 | (n,k)::r,cs,h=>by
  refine i4 r _ ?_;split
  ·rw[JQ];split
   ·exact#[_,rfl]
   ·exact h
  ·exact h
def jV {env:OA}{x:HY}:∀(names:Hr (HY×J2)) (cs:Hr (HY×HD)),(x,LG)∈names->∃c,(d0 env names cs).lookup x=ba c
 | [],cs,h=>by simp at h
 | (n,k)::r,cs,h=>by
  rcases HW.mp h with e|h
  ·cases e;refine i4 r _ ?_;simp[JQ]
  ·exact jV r _ h
def jW {x:HY}{k:J2}:∀ {l:Hr (HY×J2)},l.lookup x=ba k->(x,k)∈l
 | [],h=>by simp at h
 | (n,j)::r,h=>by
  rw[JQ]at h;split at h
  ·rename_i hx;cases h;have:=eq_of_beq hx;subst this;exact Jm
  ·exact Ji _ (jW h)
def d4 {X:Cx}{M:HY->FF}{Γ:Gam}(K:CtxOk M X Γ)(scope:Ld):(relabel scope X.env).names=fm scope.names Γ.sc:=by
 unfold relabel fm Nn;rw[K.kind,K.names];refine J7 λ#[n,k] _=>?_
 have e:(Ow==Ow)=true:=rfl;simp only[e,LD]
def dy {outer:Hr (HY×J2)}{x:HY}:∀ {names:Hr (HY×J2)},(fm names outer).lookup x=(names.lookup x).map λk=>if (k==.free&&outer.lookup x==ba .cell)then .cell else k
 | []=>rfl
 | (n,k)::r=>by
  have ih:=dy (outer:=outer) (x:=x) (names:=r);show List.lookup x ((if (k==LG&&outer.lookup n==ba .cell)=true then(n,RA)else(n,k))::fm r outer)=_
  cases hx:x==n with
  | true=>
   have:=eq_of_beq hx;subst this;simp only[JQ,IS,IK];split <;> simp[JQ]
  | false=>
   simp only[JQ,hx];split <;> (simp only[JQ,hx]; exact ih)
section
variable{M:HY->FF}{X:Cx}{Γ:Gam}
structure ScOk (Γ:Gam)(scope:Ld):Prop where
 kind:scope.kind=.function
 names:∀y∈scope.names,y.2=.local->scope.names.lookup y.1=ba .local
 nocell:∀y∈scope.names,y.2≠.cell
 free:∀y∈scope.names,y.2=.free->zY (Γ.sc.lookup y.1)=true/\scope.names.lookup y.1=ba .free/\(Γ.N.findIdx? (· == y.1)).isSome=true
 nd:(fY scope.names).Nodup
def rW {scope:Ld}(h:wH Γ scope=true):ScOk Γ scope:=by
 unfold wH at h;rw[Hz,Hz,Hz,Hz]at h;obtain⟨⟨⟨⟨h1,h2⟩,h3⟩,h4⟩,h5⟩:=h;refine#[eq_of_beq h1,λy hy e=>?_,λy hy e=>?_,λy hy e=>?_,IQ h5]
 ·have:=Ig.mp h2 y hy;rw[e]at this
  simpa using this
 ·have:=Ig.mp h3 y hy;rw[e]at this;simp at this
 ·have:=Ig.mp h4 y hy;rw[e]at this;simp only[IS,KM,M5,Hz]at this;exact#[this.1.1,eq_of_beq this.1.2,this.2]
def rX {o:HA J2}(h:zY o=true):o=ba .cell\/o=ba .free:=by
 unfold zY at h;split at h
 ·exact .inl rfl
 ·exact .inr rfl
 ·cases h
def lu (K:CtxOk M X Γ)(ok:X.Ok){scope:Ld}(sc:ScOk Γ scope):CompOk X scope (d0 X.env scope.names []) (fY scope.names) (fI Γ scope.names):=by
 have cells:∀y∈scope.names,y.2=.free->(X.env.cells.lookup y.1).isSome=true:=λy hy e=>by
  have hk:=rX (sc.free y hy e).1;obtain⟨c,hc⟩:=ok.has y.1 (by unfold Nn; rw[K.names]; exact hk)
  rw[hc]; rfl
 have relab:∀x,((relabel scope X.env).names.lookup x=ba .cell\/(relabel scope X.env).names.lookup x=ba .free)->(x,LG)∈scope.names:=λx h=>by
  rw[d4 K,dy]at h;cases q:scope.names.lookup x with
  | none=>rw[q]at h; rcases h with h|h <;> cases h
  | some k=>
   rw[q]at h;have hm:=jW q;cases k with
   | free=>exact hm
   | cell=>exact absurd rfl (sc.nocell _ hm)
   | _=>rcases h with h|h <;> simp at h
 refine#[ja cells,sc.kind,sc.names,sc.nocell,jU _ _ cells (λx c e=>by cases e),λx h=>jV _ _ (relab x h),by simp[fI],λi j x hi hx=>?_]
 unfold fI at hi;rw[HF,hx]at hi;simp only[IK,Iv]at hi;split at hi
 ·cases hi
 ·rename_i hl;have hx2:x∈fY scope.names:=HZ hx;unfold fY at hx2;obtain⟨⟨x',k⟩,hf,e⟩:=HX.mp hx2;obtain⟨hm,hk⟩:=JB.mp hf;have e':x'=x:=e;subst e';have hkf:k=.free:=by
   simp only[JY]at hk;rcases hk with hk|hk
   ·have:k=.local:=eq_of_beq hk;subst this;have:=sc.names (x',.local) hm rfl;rw[this]at hl;simp at hl
   ·exact eq_of_beq hk
  subst hkf;obtain⟨f1,f2,f3⟩:=sc.free _ hm rfl;refine#[by rw[K.N]; exact cO hi,by unfold Nn; rw[K.names]; exact rX f1,?_]
  rw[d4 K,dy,f2];simp only[IK,Iv,IS,LF];split
  ·exact .inl rfl
  ·exact .inr rfl
def eu (K:CtxOk M X Γ){scope:Ld}(sc:ScOk Γ scope)(C:HD)(s0:Hw)(H0:Hp)(ex:Hr HD):CtxOk M (kA X scope (d0 X.env scope.names []) C (fY scope.names) s0 H0 ex) (fZ Γ scope) where
 names:=d4 K scope
 kind:=sc.kind
 N:=rfl
 nd:=sc.nd
 calm:=K.calm
 xe:=rfl
 un:=K.un
 dfn:=λh=>by cases h
 blt:=K.blt
 fns:=K.fns
def oK {cs:Es}{n:HB}{ifs:Hr Ii}{Γ:Gam}(hl:ifs.length<=1)(hc:cA (cE n Γ) ifs=ba cs){Yq:Cx}(ih:∀ {e:Ii} {e':E},cE n Γ e=ba e'->GT Yq e (ci M e'))(hx:Yq.xe=λ_ _=>Jt) :
  ∀J s Y H Q,Inv Yq J Y H s->tT Yq (zX M cs) Y H Q->
  wpAny (model Yq.prog Yq.w) Yq.A (forIn ifs true λc r=>if r=true then do let ok <- isTrue c Yq.env (eval c Yq.env); pure (JZ ok)else pure (JZ r)) (TP Yq J Y Q) (λ_ _=>Jt) s:=by
 intro J s Y H Q I h
 match ifs,hl,hc with
 | [],_,hc=>
  cases hc;obtain⟨A,Z,S,k,S',er,so,e,hq⟩:=h;cases e;exact wpAny_tests_nil #[H,I,hq _ _ #[rfl,A,.refl,so]]
 | [c],_,hc=>
  obtain⟨e',es',h1,h2,rfl⟩:=gZ hc;cases h2;have:=ih h1 J s Y H Q I h;rw[hx]at this;exact wpAny_tests_one this
def bq:∀(n:HB) {Γ:Gam} {X:Cx} {e:Ii} {e':E},CtxOk M X Γ->cE n Γ e=ba e'->GE X e (au M e')/\GT X e (ci M e'):=by
 intro n
 induction n with
 | zero=>intro Γ X e e' K h; cases h
 | succ n ih=>
  intro Γ X e e' K h;have ihE:∀ {e:Ii} {e':E},cE n Γ e=ba e'->GE X e (au M e'):=λq=>(ih K q).1
  have ihT:∀ {e:Ii} {e':E},cE n Γ e=ba e'->GT X e (ci M e'):=λq=>(ih K q).2
  have hu10:X.A.units+10 < cLine:=by have:=K.un; have:gr=20:=rfl; omega
  cases e with
  | Constant c k p=>
   cases c <;> cases h
   all_goals first
    | exact#[om uJ (λ_ _=>.non),bS (om uJ (λ_ _=>.non)) λ_=>rfl]
    | exact#[om AK (λ_ _=>.bl),bS (om AK (λ_ _=>.bl)) λ_=>rfl]
    | exact#[om uI (λ_ _=>.int),bS (om uI (λ_ _=>.int)) λ_=>rfl]
    | exact#[om uK (λ_ _=>.str),bS (om uK (λ_ _=>.str)) λ_=>rfl]
  | Name x p=>
   replace h:(match slot Γ x with|some i=>ba (E.v i)|none=>gV)=ba e':=h
   split at h
   ·rename_i i h1;cases h;exact#[wK K h1,bS (wK K h1) λ_=>rfl]
   ·cases h
  | BinOp a op b p=>
   replace h:(match rQ op,cE n Γ a,cE n Γ b with|some o,ba a',ba b'=>ba (E.op o a' b')|_,_,_=>gV)=ba e':=h
   split at h
   ·rename_i o a' b' h1 h2 h3;cases h;have e:=wM h1;subst e;exact#[AQ (qX o) (ihE h2) (ihE h3),bS (AQ (qX o) (ihE h2) (ihE h3)) λ_=>rfl]
   ·cases h
  | UnaryOp op a p=>
   cases op with
   | Not=>
    replace h:(cE n Γ a).map E.not=ba e':=h;rw[Hy]at h;obtain⟨a',h1,rfl⟩:=h;exact#[Cj (ihE h1),Cg (ihT h1)]
   | USub=>
    replace h:(cE n Γ a).map E.neg=ba e':=h;rw[Hy]at h;obtain⟨a',h1,rfl⟩:=h;exact#[vU (ihE h1),bS (vU (ihE h1)) λ_=>rfl]
   | _=>exact aG h
  | BoolOp op vs p=>
   replace h:cB (cE n Γ) op vs=ba e':=h;exact#[mC ihE h,(mD ihT h).pt]
  | Compare a ops cs p=>
   match ops,cs,h with
   | [op],[b],h=>
    replace h:(match rR op,cE n Γ a,cE n Γ b with|some o,ba a',ba b'=>ba (E.cmp o a' b')|_,_,_=>gV)=ba e':=h
    split at h
    ·rename_i o a' b' h1 h2 h3;cases h;have e:=wL h1;subst e;exact#[Cc K.un (ihE h2) (ihE h3) (oH h3),Cd K.un (ihE h2) (ihE h3) (oH h3)]
    ·cases h
   | [],_,h=>exact aG h
   | [_],[],h=>exact aG h
   | [_],_::_::_,h=>exact aG h
   | _::_::_,_,h=>exact aG h
  | IfExp t a b p=>
   replace h:(match cE n Γ t,cE n Γ a,cE n Γ b with|some t',ba a',ba b'=>ba (E.ite t' a' b')|_,_,_=>gV)=ba e':=h
   split at h
   ·rename_i t' a' b' h1 h2 h3;cases h;exact#[Ck (ihT h1) (ihE h2) (ihE h3),jj]
   ·cases h
  | Call f args kws p=>
   cases kws with
   | cons _ _=>cases f <;> first|(exact aG h)|(cases args <;> (exact aG h))
   | nil=>
    cases f with
    | Name x q=>
     replace h:(if jT Γ x then match Γ.fns.lookup x with|some k=>(cA (cE n Γ) args).map (E.own x k)|none=>if x==("isinstance" : HY)then(if Γ.blt.contains x then z6 Γ (cE n Γ) args else gV)else match (generalizing:=false) zZ x,args with|some b,a::as=>if Γ.blt.contains x then(cA (cE n Γ) (a::as)).map (E.bi b)else gV|_,_=>gV else gV)=ba e':=h
     split at h
     ·rename_i hg;split at h
      ·rename_i k hk;rw[Hy]at h;obtain⟨r,hr,rfl⟩:=h;have g:=En (pos:=p) (p:=q) K hg hk hr (cw ihE hr);exact#[g,bS g λ_=>rfl]
      ·split at h
       ·rename_i his;split at h
        ·rename_i hc;obtain⟨g,a',c',rfl⟩:=Eo (pos:=p) (p:=q) K hg his hc ihE h;exact#[g,bS g λ_=>rfl]
        ·cases h
       ·split at h
        ·rename_i bb a as hb;split at h
         ·rename_i hc;rw[Hy]at h;obtain⟨r,hr,rfl⟩:=h;have g:=Gh (pos:=p) (p:=q) K hg hb hc hr (cw ihE hr);exact#[g,bS g λ_=>rfl]
         ·cases h
        ·cases h
     ·cases h
    | Attribute o m q=>
     cases args with
     | nil=>exact aG h
     | cons a as=>
      replace h:(match z5 m,cE n Γ o,cA (cE n Γ) (a::as)with|some m',ba o',ba es=>if fH o&&(q.endLine==p.line)&&decide ((a::as).length < 29)then ba (E.me m' o' es)else gV|_,_,_=>gV)=ba e':=h
      split at h
      ·rename_i m' o' es h1 h2 h3;split at h
       ·rename_i hc;rw[Hz,Hz,HQ]at hc;cases h;have g:=Gi K (cpos:=p) (apos:=q) h1 hc.1.1 hc.1.2 hc.2 (ihE h2) h3 (cw ihE h3);exact#[g,bS g λ_=>rfl]
       ·cases h
      ·cases h
    | _=>exact aG h
  | Subscript a b p=>
   have plain:(match cE n Γ a,cE n Γ b with|some a',ba b'=>ba (E.ix a' b')|_,_=>gV)=ba e'->GE X (.Subscript a b p) (au M e')/\GT X (.Subscript a b p) (ci M e'):=λh=>by
    split at h
    ·rename_i a' b' h1 h2;cases h;have g:=Ec (pos:=p) hu10 (ihE h1) (ihE h2) (qD h2);exact#[g,bS g λ_=>rfl]
    ·cases h
   cases b with
   | Slice lo hi st q=>
    cases st with
    | none=>
     replace h:(match cE n Γ a,cP (cE n Γ) lo,cP (cE n Γ) hi with|some a',ba lo',ba hi'=>ba (E.sl a' lo' hi')|_,_,_=>gV)=ba e':=h
     split at h
     ·rename_i a' lo' hi' h1 h2 h3;cases h;have g:=Ed (pos:=p) (p2:=q) (ihE h1) (wR ihE h2) (wR ihE h3);exact#[g,bS g λ_=>rfl]
     ·cases h
    | some z=>exact plain h
   | _=>exact plain h
  | Tuple es k p=>
   replace h:(cA (cE n Γ) es).map E.tup=ba e':=h;rw[Hy]at h;obtain⟨r,h1,rfl⟩:=h;exact#[v4 (cw ihE h1),bS (v4 (cw ihE h1)) λ_=>rfl]
  | List es p=>
   replace h:(cA (cE n Γ) es).map E.lst=ba e':=h;rw[Hy]at h;obtain⟨r,h1,rfl⟩:=h;exact#[v6 (cw ihE h1),bS (v6 (cw ihE h1)) λ_=>rfl]
  | Dict keys values p=>
   replace h:wI (cE n Γ) keys values=ba e':=h;unfold wI at h;split at h
   ·rename_i hc;cases h;rw[Hz]at hc;have k0:keys=[]:=Pd.mp hc.1;have v0:values=[]:=Pd.mp hc.2;subst k0 v0;exact#[zN,jj]
   ·rename_i hc0;split at h
    ·rename_i hc;rw[Hz,Hz,HQ,HQ]at hc;rw[Hy]at h;obtain⟨r,hr,rfl⟩:=h;have h0:keys≠[]:=λz=>by
      subst z;have v0:values=[]:=Jo.mp hc.1.2.symm;subst v0;exact hc0 rfl
     exact#[zO (pos:=p) hu10 (rT ihE keys values hc.1.1 hc.1.2 hr) hc.1.1 hc.1.2 h0 hc.2,jj]
    ·cases h
  | ListComp elt gens scope p=>
   match gens,h with
   | [#[tg,iter,ifs,asy]],h=>
    replace h:(if (asy==0)&&(wH Γ scope&&decide (ifs.length<=1))then match cI Γ (cE n Γ) tg iter,cT (fZ Γ scope) tg,cA (cE n (fZ Γ scope)) ifs,cE n (fZ Γ scope) elt with|some it,ba t,ba cs,ba el=>ba (E.comp el t it cs (fI Γ scope.names))|_,_,_,_=>gV else gV)=ba e':=h
    split at h
    ·rename_i hc;rw[Hz,Hz,HQ]at hc;have e0:asy=0:=eq_of_beq hc.1;subst e0;replace hc:=hc.2;split at h
     ·rename_i it t cs el h1 h2 h3 h4;cases h;have sc:=rW hc.1;refine#[zS K.calm (qE K ihE h1) (λok=>#[_,lu K ok sc,?_]) (mB (n:=n) (λel k p=>by cases n <;> rfl) h1),jj]
      refine#[λC s0 H0 ex=>rV (eu K sc C s0 H0 ex) h2,λC s0 H0 ex J s Y H Q I q=>?_,λC s0 H0 ex=>(ih (eu K sc C s0 H0 ex) h4).1]
      exact oK hc.2 h3 (λz=>(ih (eu K sc C s0 H0 ex) z).2) rfl J s Y H Q I q
     ·cases h
    ·cases h
   | [],h=>exact aG h
   | #[_,_,_,_]::_::_,h=>exact aG h
  | _=>exact aG h
end
noncomputable abbrev br:HB:=30
abbrev AU:Ii->Il
 | .Constant (.str _) _ _=>true
 | _=>false
abbrev iI:Ii->Il
 | .ListComp _ _ _ _=>true
 | _=>false
abbrev rY:Ii->Il
 | .Slice _ _ _ _=>true
 | _=>false
abbrev rZ (f:KO->HA Sm)(ss:Hr KO):HA Ss:=ss.foldr (λs acc=>match f s,acc with|some s',ba ss'=>ba (.cons s' ss')|_,_=>gV) (ba .nil)
abbrev CD (Γ:Gam):Hr Ii->Ii->HA Sm
 | [.Name x px,.Name y py],.Tuple [a,b] _ _=>match Γ.N.findIdx? (· == x),Γ.N.findIdx? (· == y),cA (cE br Γ) [a,b]with
  | some i,ba j,ba es=>if !(i==j)&&(Γ.sc.lookup x==ba .local)&&(Γ.sc.lookup y==ba .local)&&(py.line==px.line) && !([a,b].all (foldedForSure 8)) && !([a,b].all (constantsAlone 8))then ba (.par i j es)else gV
  | _,_,_=>gV
 | _,_=>gV
abbrev cS:HB->Gam->KO->HA Sm
 | 0,_,_=>gV
 | n+1,Γ,st=>match st with
  | .Assign [.Name x _] e _=>match cv Γ x,cE br Γ e with
   | some i,ba e'=>ba (.set i e')
   | _,_=>gV
  | .Assign [.Tuple ts _ _] e _=>if isTup e then CD Γ ts e else if iI e then gV else match Dt Γ ts,cE br Γ e with
   | some is,ba e'=>ba (.asg is e')
   | _,_=>gV
  | .Assign [.Subscript o k _] e _=>if rY k then gV else match cE br Γ o,cE br Γ k,cE br Γ e with
   | some o',ba k',ba e'=>ba (.put o' k' e')
   | _,_,_=>gV
  | .Expr e _=>if AU e then ba .pass else if iI e then gV else(cE br Γ e).map .ex
  | .Return (ba e) _=>(cE br Γ e).map .ret
  | .Pass _=>ba .pass
  | .If t a b _=>match cE br Γ t,rZ (cS n Γ) a,rZ (cS n Γ) b with
   | some t',ba a',ba b'=>ba (.ite t' a' b')
   | _,_,_=>gV
  | .While t b [] _=>match cE br Γ t,rZ (cS n Γ) b with
   | some t',ba b'=>ba (.whl t' b')
   | _,_=>gV
  | .For tg it b [] _=>match cT Γ tg,cI Γ (cE br Γ) tg it,rZ (cS n Γ) b with
   | some t,ba i,ba b'=>ba (.loop t i b')
   | _,_,_=>gV
  | _=>gV
section
variable{M:HY->FF}{X:Cx}{Γ:Gam}{fuel:HB}
def wW {f:KO->HA Sm}{s:KO}{ss:Hr KO}{r:Ss}(h:rZ f (s::ss)=ba r):∃s' ss',f s=ba s'/\rZ f ss=ba ss'/\r=.cons s' ss':=by
 simp only[rZ,Pu]at h;split at h
 ·rename_i e' es' h1 h2;cases h;exact#[e',es',h1,h2,rfl]
 ·cases h
def fJ {n:HB}(ih:∀ {st:KO} {s':Sm},cS n Γ st=ba s'->GS X st (fR M fuel s')):∀ {ss:Hr KO} {r:Ss},rZ (cS n Γ) ss=ba r->GSs X ss (fj M fuel r)
 | [],r,h=>by cases h; exact zx
 | s::ss,r,h=>by
  obtain⟨s',ss',h1,h2,rfl⟩:=wW h;exact wa (ih h1) (fJ ih h2)
def jX {e:Ii}{t:HA Ii}{l:HB}{env:OA}(h:iI e=false)(n:HB){Γ:Gam}{e':E}(hc:cE n Γ e=ba e'):swapsWith e t l env=pure false:=by
 cases n with
 | zero=>cases hc
 | succ n=>cases e <;> first|(exfalso; exact aG hc)|rfl|cases h
def qF (K:CtxOk M X Γ){n:HB}{elt:Ii}{gens:Hr Comprehension}{scope:Ld}{p:Kr}{e':E}(h:cE (n+1) Γ (.ListComp elt gens scope p)=ba e') :
  ∃tg iter ifs fi g c f cap,gens=[#[tg,iter,ifs,0]]/\au M e'=jR fi g c f cap/\GI X tg iter fi/\(X.Ok->∃cl,CompOk X scope cl (fY scope.names) cap/\BlockOk X scope cl (fY scope.names) tg elt ifs g c f)/\∀x,foldedSetIterable iter X.env x=pure x:=by
 match gens,h with
 | [#[tg,iter,ifs,asy]],h=>
  replace h:(if (asy==0)&&(wH Γ scope&&decide (ifs.length<=1))then match cI Γ (cE n Γ) tg iter,cT (fZ Γ scope) tg,cA (cE n (fZ Γ scope)) ifs,cE n (fZ Γ scope) elt with|some it,ba t,ba cs,ba el=>ba (E.comp el t it cs (fI Γ scope.names))|_,_,_,_=>gV else gV)=ba e':=h
  split at h
  ·rename_i hc;rw[Hz,Hz,HQ]at hc;have e0:asy=0:=eq_of_beq hc.1;subst e0;replace hc:=hc.2;split at h
   ·rename_i it t cs el h1 h2 h3 h4;cases h;have sc:=rW hc.1;refine#[tg,iter,ifs,_,_,_,_,_,rfl,rfl,qE K (λz=>(bq n K z).1) h1,λok=>#[_,lu K ok sc,?_],mB (n:=n) (λel k p=>by cases n <;> rfl) h1]
    refine#[λC s0 H0 ex=>rV (eu K sc C s0 H0 ex) h2,λC s0 H0 ex J s Y H Q I q=>?_,λC s0 H0 ex=>(bq n (eu K sc C s0 H0 ex) h4).1]
    exact oK hc.2 h3 (λz=>(bq n (eu K sc C s0 H0 ex) z).2) rfl J s Y H Q I q
   ·cases h
  ·cases h
 | [],h=>exact aG h
 | #[_,_,_,_]::_::_,h=>exact aG h
def Er (K:CtxOk M X Γ){x:HY}{px pos:Kr}{e:Ii}{i:HB}{e':E}(hi:cv Γ x=ba i)(he:cE br Γ e=ba e'):GS X (.Assign [.Name x px] e pos) (jN (au M e') (zD i)):=by
 obtain⟨a,b,c⟩:=mE K hi;have hN:X.N.Nodup:=by rw[K.N]; exact K.nd
 have plain:swapsWith e (ba (.Name x px)) pos.line X.env=pure false->GS X (.Assign [.Name x px] e pos) (jN (au M e') (zD i)):=λhs=>qr (bq _ K he).1 (rL hN a b c) hs (by cases e <;> rfl) rfl
 cases hc:iI e with
 | false=>exact plain (jX hc _ he)
 | true=>
  cases e with
  | ListComp elt gens scope p=>
   cases hsw:(X.env.blockKind==.function&&X.env.kindOf x==ba .local&&px.line==p.line && !(scope.names.any λ(n,k)=>n==x&&(k==.local||k==.cell)))with
   | false=>
    refine plain ?_;show(pure (X.env.blockKind==.function&&X.env.kindOf x==ba .local&&px.line==p.line && !(scope.names.any λ(n,k)=>n==x&&(k==.local||k==.cell))):QP Il)=pure false
    rw[hsw]
   | true=>
    have hsw':swapsWith (.ListComp elt gens scope p) (ba (.Name x px)) pos.line X.env=pure true:=by
     show(pure (X.env.blockKind==.function&&X.env.kindOf x==ba .local&&px.line==p.line && !(scope.names.any λ(n,k)=>n==x&&(k==.local||k==.cell))):QP Il)=pure true
     rw[hsw]
    rw[Hz,Hz,Hz]at hsw;have hl:X.env.scope.names.lookup x=ba .local:=eq_of_beq hsw.1.1.2;obtain⟨tg,iter,ifs,fi,g,c',f,cap,rfl,e2,gi,hck,hs⟩:=qF K he;rw[e2];exact qB K.calm gi hck hs hsw' hN a hl
  | _=>cases hc
def oM (K:CtxOk M X Γ){x y:HY}{px py pt pt2:Kr}{kt k2:HB}{a b:Ii}(hxy:x≠y)(hx:Γ.sc.lookup x=ba .local)(hy:Γ.sc.lookup y=ba .local)(hl:(py.line==px.line)=true)(h1:[a,b].all (foldedForSure 8)=false)(h2:[a,b].all (constantsAlone 8)=false)(hs:gC a=true)(hs2:gC b=true) :
  swappedStores [.Tuple [.Name x px,.Name y py] kt pt] (.Tuple [a,b] k2 pt2) X.env=pure (ba [x,y]):=by
 have kx:(X.env.kindOf x==ba .local)=true:=by unfold Nn; rw[K.names,hx]; rfl
 have ky:(X.env.kindOf y==ba .local)=true:=by unfold Nn; rw[K.names,hy]; rfl
 have bk:(X.env.blockKind != .function)=false:=by
  unfold Env.blockKind;rw[K.kind];rfl
 have hp:(px.line==px.line)=true:=by simp
 have ed:([x,y].eraseDups.length != [x,y].length)=false:=by
  have:(y==x)=false:=by simpa using Ne.symm hxy
  simp[N6,this]
 have kx':X.env.kindOf x=ba .local:=eq_of_beq kx;have ky':X.env.kindOf y=ba .local:=eq_of_beq ky;have hl':py.line=px.line:=eq_of_beq hl;have bk':X.env.blockKind=.function:=by simpa using bk
 have yx:(y==x)=false:=by simpa using Ne.symm hxy
 have h1':(foldedForSure 8 a&&foldedForSure 8 b)=false:=by simpa using h1
 have h2':(constantsAlone 8 a&&constantsAlone 8 b)=false:=by simpa using h2
 unfold swappedStores;simp only[Ko,List.any_nil,Ob,Lz,List.filterMap_nil,kx',ky',bk',List.head?_cons,IK,Pc,IW,J8,IY,List.all_nil,LD,h1',h2'];refine Eq.trans (Im ?_) (Eq.trans (Im ?_) ?_)
 ·decide
 ·rw[JY];rintro(hh|hh)
  ·clear h1 h2 h1' h2';cases a <;> first|(cases hh; done)|(cases hs; done)
  ·clear h1 h2 h1' h2';cases b <;> first|(cases hh; done)|(cases hs2; done)
 ·dsimp only[Expr.pos]; simp[hl',yx,N6]
def z7 (fuel:HB)(K:CtxOk M X Γ):∀(n:HB) {st:KO} {s':Sm},cS n Γ st=ba s'->GS X st (fR M fuel s'):=by
 have hN:X.N.Nodup:=by rw[K.N]; exact K.nd
 have own:N1 (model X.prog X.w) X.A X.env X.xe:=by rw[K.xe]; exact Rq
 intro n
 induction n with
 | zero=>intro st s' h; cases h
 | succ n ih=>
  intro st s' h;cases st with
  | Expr e p=>
   replace h:(if AU e then ba Sm.pass else if iI e then gV else(cE br Γ e).map Sm.ex)=ba s':=h
   split at h
   ·rename_i hd;cases h;cases e with
    | Constant c k q=>
     cases c with
     | str x=>exact Cp
     | _=>cases hd
    | _=>cases hd
   ·split at h
    ·cases h
    ·rename_i hd hc;rw[Hy]at h;obtain⟨e',h1,rfl⟩:=h;exact Ee (bq _ K h1).1 (jX (by simpa using hc) _ h1)
  | Return o p=>
   cases o with
   | none=>cases h
   | some e=>
    replace h:(cE br Γ e).map Sm.ret=ba s':=h;rw[Hy]at h;obtain⟨e',h1,rfl⟩:=h;exact Cq (bq _ K h1).1
  | Pass p=>cases h; exact zA
  | If t a b p=>
   replace h:(match cE br Γ t,rZ (cS n Γ) a,rZ (cS n Γ) b with|some t',ba a',ba b'=>ba (Sm.ite t' a' b')|_,_,_=>gV)=ba s':=h
   split at h
   ·rename_i t' a' b' h1 h2 h3;cases h;exact Ef (bq _ K h1).2 (fJ ih h2) (fJ ih h3)
   ·cases h
  | While t b o p=>
   cases o with
   | cons _ _=>exact aG h
   | nil=>
    replace h:(match cE br Γ t,rZ (cS n Γ) b with|some t',ba b'=>ba (Sm.whl t' b')|_,_=>gV)=ba s':=h
    split at h
    ·rename_i t' b' h1 h2;cases h;exact wc fuel own (bq _ K h1).2 (fJ ih h2)
    ·cases h
  | For tg it b o p=>
   cases o with
   | cons _ _=>exact aG h
   | nil=>
    replace h:(match cT Γ tg,cI Γ (cE br Γ) tg it,rZ (cS n Γ) b with|some t,ba i,ba b'=>ba (Sm.loop t i b')|_,_,_=>gV)=ba s':=h
    split at h
    ·rename_i t i b' h1 h2 h3;cases h;exact Cv own K.calm (qE K (λz=>(bq _ K z).1) h2) (rV K h1) (fJ ih h3) (mB (n:=br) (λel k p=>rfl) h2)
    ·cases h
  | Assign ts e p=>
   match ts,h with
   | [],h=>exact aG h
   | a::_::_,h=>cases a <;> exact aG h
   | [t],h=>
    cases t with
    | Name x px=>
     replace h:(match cv Γ x,cE br Γ e with|some i,ba e'=>ba (Sm.set i e')|_,_=>gV)=ba s':=h
     split at h
     ·rename_i i e' h1 h2;cases h;exact Er K h1 h2
     ·cases h
    | Subscript o k q=>
     replace h:(if rY k then gV else match cE br Γ o,cE br Γ k,cE br Γ e with|some o',ba k',ba e'=>ba (Sm.put o' k' e')|_,_,_=>gV)=ba s':=h
     split at h
     ·cases h
     ·rename_i hc;split at h
      ·rename_i o' k' e' h1 h2 h3;cases h;refine qr (bq _ K h3).1 (Cs (by have:=K.un; have:gr=20:=rfl; omega) (bq _ K h1).1 (bq _ K h2).1 ?_) (by cases e <;> rfl) (by cases e <;> rfl) rfl
       intro v;cases k <;> first|rfl|exact absurd rfl hc
      ·cases h
    | Tuple ts' k q=>
     have par:∀ {x y:HY} {px py:Kr} {a b:PySem.Expr} {k2:HB} {q2:Kr},(match Γ.N.findIdx? (· == x),Γ.N.findIdx? (· == y),cA (cE br Γ) [a,b]with
       | some i,ba j,ba es=>if !(i==j)&&(Γ.sc.lookup x==ba .local)&&(Γ.sc.lookup y==ba .local)&&(py.line==px.line) && !([a,b].all (foldedForSure 8)) && !([a,b].all (constantsAlone 8))then ba (Sm.par i j es)else gV
       | _,_,_=>gV)=ba s'->GS X (.Assign [.Tuple [.Name x px,.Name y py] k q] (.Tuple [a,b] k2 q2) p) (fR M fuel s'):=λ{x y px py a b k2 q2} h=>by
      split at h
      ·rename_i i j es h1 h2 h3;split at h
       ·rename_i hc;cases h;rw[Hz,Hz,Hz,Hz,Hz]at hc;obtain⟨⟨⟨⟨⟨c1,c2⟩,c3⟩,c4⟩,c5⟩,c6⟩:=hc;have hij:i≠j:=by simpa using c1
        have ns:=bD h3;rw[IY,IY,Hz,Hz]at ns;have hi:X.N[i]?=ba x:=by rw[K.N]; exact cO h1
        have hj:X.N[j]?=ba y:=by rw[K.N]; exact cO h2
        refine Ct K.calm hN hi hj hij (by rw[K.names]; exact eq_of_beq c2) (by rw[K.names]; exact eq_of_beq c3) (cw (λz=>(bq _ K z).1) h3) (oM K ?_ (eq_of_beq c2) (eq_of_beq c3) c4 (by rw[<- M0]; exact c5) (by rw[<- M0]; exact c6) ns.1 ns.2.1) rfl
        rintro rfl;rw[h1]at h2;cases h2;exact hij rfl
       ·cases h
      ·cases h
     replace h:(if isTup e then CD Γ ts' e else if iI e then gV else match Dt Γ ts',cE br Γ e with|some is,ba e'=>ba (Sm.asg is e')|_,_=>gV)=ba s':=h
     split at h
     ·unfold CD at h;split at h
      ·exact par h
      ·cases h
     ·split at h
      ·cases h
      ·rename_i hc1 hc2;split at h
       ·rename_i is e' h1 h2;cases h;refine qr (bq _ K h2).1 (rV (tg:=.Tuple ts' k q) (t:=.tp is) K (by simp[cT,h1])) (jX (t:=ba (.Tuple ts' k q)) (l:=p.line) (env:=X.env) (by simpa using hc2) _ h2) ?_ rfl
        cases e <;> first|rfl|exact absurd rfl hc1
       ·cases h
    | _=>exact aG h
  | _=>exact aG h
end
structure Df where
 ps:Hr HY
 N:Hr HY
 body:Ss
abbrev eF (N:Hr HY)(ws:Hr W):Fm:=ws.map ba++II (N.length - ws.length) gV
abbrev ah (defs:Hr (HY×Df))(fuel:HB):HB->HY->FF
 | 0,_,_,_=>gV
 | d+1,f,ws,S=>match defs.lookup f with
  | some df=>if ws.length=df.ps.length then match fj (ah defs fuel d) fuel df.body (eF df.N ws) S with
    | some (.rt w,S')=>ba (w,S')
    | some (.nx _,S')=>ba (.non,S')
    | _=>gV
   else gV
  | none=>gV
structure Md where
 fns:Hr (HY×HB)
 blt:Hr HY
abbrev wX (tx:Md)(st:KO)(N:Hr HY):Gam:={ sc:=(aM st).names,N:=N,fns:=tx.fns,blt:=tx.blt,dfn:=true }
abbrev Et (tx:Md)(st:KO)(df:Df):Prop:=rZ (cS 20 (wX tx st df.N)) (bM st)=ba df.body
def lv {K:HG}{A:Hr HD}{H:Hp}{ws:Hr W}{vs:Hr V}{N:Hr HY}(r:RelL K A H ws vs):EnvRel K A H (eF N ws) (eW N vs):=by
 refine#[by simp[eF,L2.eW,r.length],λi w h=>?_]
 unfold eF at h;unfold L2.eW
 by_cases hi:i < ws.length
 ·rw[IN (by simpa using hi),HF]at h
  rw[IN (by rw[Hv,<- r.length]; exact hi),HF]
  cases q:ws[i]? with
  | none=>rw[q]at h; cases h
  | some w'=>
   rw[q]at h;simp only[IK,Iv]at h;subst h;obtain⟨v,h1,h2⟩:=r.get q;exact#[v,by rw[h1]; rfl,h2]
 ·rw[Kt (by simpa using hi)]at h
  have:=HZ h;simp at this
section
variable{P:Iw}{w:IE}{K:HG}{mg:HY->HA Hu}{base:IJ}
abbrev AV (P:Iw)(w:IE)(K:HG)(mg:HY->HA Hu)(base:IJ)(tx:Md)(defs:Hr (HY×Df))(fuel d:HB):Prop:=
 ∀f n,tx.fns.lookup f=ba n->∃fa fd ps,FnOk P w K mg base uD d fa fd ps (v8 w K n (ah defs fuel d f))/\mg f=ba (.ref fa)/\JC K (.ref fa)=true/\Binds K fd ps []
structure MdOk (w:IE)(K:HG)(mg:HY->HA Hu)(tx:Md):Prop where
 blt:∀y∈tx.blt,mg y=gV
def AW {tx:Md}{defs:Hr (HY×Df)}{fuel d:HB}{x qual:HY}{st:KO}{f:HD}{fd:Ks}{df:Df}(F:Fun K x qual st f fd)(S:FnScope df.N df.ps (aM st))(hd:defs.lookup x=ba df)(hc:Et tx st df)
  (hb:MdOk w K mg tx) (prev:AV P w K mg base tx defs fuel d):FnOk P w K mg base uD (d+1) f fd df.ps (v8 w K df.ps.length (ah defs fuel (d+1) x)):=by
 refine F.ok S (λvs H Q E h=>?_) (λcdv A outer s H vs Q E hr h=>?_)
 ·obtain⟨A,S,ws,w',S',_,rl,hl,_⟩:=h;rw[<- rl.length]; exact hl
 ·obtain⟨A',St,ws,w',S',so,rl,hl,e,hq⟩:=h;have K':CtxOk (ah defs fuel d) (pQ uD P w K mg base df.N qual (aM st) f cdv A outer s H E).nox (wX tx st df.N):=by
   refine#[rfl,S.kind,rfl,S.nd,rfl,rfl,?_,λ_ _=>rfl,hb.blt,λg n hg=>?_]
   ·have:=hr.un;show(A.deeper _).units+20 < cLine;omega
   ·obtain⟨fa,fd',ps',h1,h2,h3,h4⟩:=prev g n hg;exact#[d,fa,fd',ps',h1,hr,h2,h3,h4]
  refine#[tS _ (fj (ah defs fuel d) fuel df.body),fJ (λz=>z7 fuel K' 20 z) hc,?_]
  simp only[ah,hd]at e;rw[Ic hl]at e;split at e
  ·rename_i w1 S1 h1;cases e;refine#[A',eF df.N ws,St,_,_,lv rl,so,h1,#[λY' H' #[_,_,z,_]=>(by cases z),λv H' #[w2,A2,z0,z1,z2,z3]=>?_,λY' H' #[_,_,z,_]=>(by cases z),λY' H' #[_,_,z,_]=>(by cases z)]]
   cases z0;exact hq v H' #[A2,z1,z2,z3]
  ·rename_i Z1 S1 h1;cases e;refine#[A',eF df.N ws,St,_,_,lv rl,so,h1,#[λY' H' #[w2,A2,z0,z1,z2,z3]=>?_,λY' H' #[_,_,z,_]=>(by cases z),λY' H' #[_,_,z,_]=>(by cases z),λY' H' #[_,_,z,_]=>(by cases z)]]
   exact hq _ H' #[A2,z1,z2,.non]
  ·cases e
def t8 {H:Hp}{a:HD}{ns:Hr HM}(hO:u6 H)(hS:SqL K H a (ns.map V.int)):StoreOk w K [a] H [.fro (ns.map W.int)]/\RelL K [a] H [.ref 0] [.ref a]:=by
 have rl:∀ns:Hr HM,RelL K [a] H (ns.map W.int) (ns.map V.int):=by
  intro ns
  induction ns with
  | nil=>exact .nil
  | cons n ns ih=>exact .cons .int ih
 have fr:FroL K H a (ns.map V.int):=by
  rcases hS with(h|⟨o,h⟩)|h
  ·rcases hO a with z|⟨o,xs,z⟩ <;> (rw[z]at h; cases h)
  ·exact .inl #[o,h]
  ·exact .inr h
 refine#[#[rfl,λi j b o u e1 m1 e2 m2 _ _=>?_,λi o b e1 e2=>?_],.cons (.ref rfl) .nil]
 ·cases i with
  | zero=>simp at e1; subst e1; cases m1
  | succ i=>simp at e1
 ·cases i with
  | zero=>
   simp at e1 e2;subst e1 e2;exact#[_,fr,rl ns]
  | succ i=>simp at e1
def CF {g:FF}{H:Hp}{a:HD}{ns:Hr HM}(h:∃S',g [.ref 0] [.fro (ns.map W.int)]=ba (.bl true,S'))(hO:u6 H)(hS:SqL K H a (ns.map V.int)):v8 w K 1 g [.ref a] H (λv _=>v=.bl true) λ_ _ _=>Jt:=by
 obtain⟨S',e⟩:=h;obtain⟨so,rl⟩:=t8 hO hS;exact#[[a],_,_,_,S',so,rl,rfl,e,λv H' #[A',z1,z2,z3]=>by cases z3; rfl]
end
abbrev Wp {α:Type}(o:HA α)(Q:α->Prop):Prop:=∃a,o=ba a/\Q a
def ab {α:Type}{a:α}{Q:α->Prop}:Wp (ba a) Q↔Q a:=#[λ#[b,e,h]=>(by cases e; exact h),λh=>#[a,rfl,h]]
def ac {α:Type}{Q:α->Prop}:Wp (gV:HA α) Q↔Jt:=#[λ#[b,e,h]=>(by cases e),λh=>h.elim]
def Wp.mono {α:Type}{o:HA α}{Q Q':α->Prop}(h:Wp o Q)(k:∀a,Q a->Q' a):Wp o Q':=let ⟨a,e,q⟩:=h; #[a,e,k a q]
section
variable{M:HY->FF}{fuel:HB}{Z:Fm}{S:aa}
noncomputable abbrev QW:=W×aa->Prop
def Hf {w:W}{Q:QW}:Wp (au M (.c w) Z S) Q↔Q (w,S):=by(dsimp only[au]; simp[fC,ab,ac])
def G6 {i:HB}{Q:QW}:Wp (au M (.v i) Z S) Q↔∃w,Z[i]?=ba (ba w)/\Q (w,S):=by
 (dsimp only[au]; simp only[fV])
 rcases h:Z[i]? with _|_|w <;> simp[ab,ac]
def wY {g:W->W->aa->HA (W×aa)}{a b:FE}{Q:QW}:Wp (zj g a b Z S) Q↔Wp (a Z S) λp=>Wp (b Z p.2) λq=>Wp (g p.1 q.1 q.2) Q:=by
 unfold zj;rcases h:a Z S with _|⟨x,S1⟩
 ·simp[ab,ac]
 ·rcases h2:b Z S1 with _|⟨y,S2⟩ <;> simp[ab,ac,h2]
def Gj {o:BOp}{a b:E}{Q:QW}:Wp (au M (.op o a b) Z S) Q↔Wp (au M a Z S) λp=>Wp (au M b Z p.2) λq=>Wp (eS o p.1 q.1 q.2) Q:=by dsimp only[au]; exact wY
def AX {o:COp}{a b:E}{Q:QW}:Wp (au M (.cmp o a b) Z S) Q↔Wp (au M a Z S) λp=>Wp (au M b Z p.2) λq=>Wp (cM o p.1 q.1 q.2) Q:=by dsimp only[au]; exact wY
def Gk {a b:E}{Q:QW}:Wp (au M (.ix a b) Z S) Q↔Wp (au M a Z S) λp=>Wp (au M b Z p.2) λq=>Wp (mX p.1 q.1 q.2) Q:=by dsimp only[au]; exact wY
def Eu {a b:E}{Q:QW}:Wp (au M (.and a b) Z S) Q↔Wp (au M a Z S) λp=>∃k,p.1=.bl k/\(k=true->Wp (au M b Z p.2) Q)/\(k=false->Q (.bl false,p.2)):=by
 (dsimp only[au]; simp only[rH])
 rcases h:au M a Z S with _|⟨x,S1⟩
 ·simp[ab,ac]
 ·cases x <;> simp[ab,ac]
  rename_i b; cases b <;> simp[ab,ac]
def Gm {a b:E}{Q:QW}:Wp (au M (.or a b) Z S) Q↔Wp (au M a Z S) λp=>∃k,p.1=.bl k/\(k=true->Q (.bl true,p.2))/\(k=false->Wp (au M b Z p.2) Q):=by
 (dsimp only[au]; simp only[zq])
 rcases h:au M a Z S with _|⟨x,S1⟩
 ·simp[ab,ac]
 ·cases x <;> simp[ab,ac]
  rename_i b; cases b <;> simp[ab,ac]
def Ev {a:E}{Q:QW}:Wp (au M (.not a) Z S) Q↔Wp (au M a Z S) λp=>∃k,p.1=.bl k/\Q (.bl (!k),p.2):=by
 (dsimp only[au]; simp only[rJ])
 rcases h:au M a Z S with _|⟨x,S1⟩
 ·simp[ab,ac]
 ·cases x <;> simp[ab,ac]
  rename_i k; cases k <;> simp
def Ew {t a b:E}{Q:QW}:Wp (au M (.ite t a b) Z S) Q↔Wp (ci M t Z S) λp=>(p.1=true->Wp (au M a Z p.2) Q)/\(p.1=false->Wp (au M b Z p.2) Q):=by
 (dsimp only[au]; simp only[zr])
 rcases h:ci M t Z S with _|⟨x,S1⟩
 ·simp[ab,ac]
 ·cases x <;> simp[ab,ac]
def AY {f:HY}{n:HB}{es:Es}{Q:QW}:Wp (au M (.own f n es) Z S) Q↔Wp (cm M es Z S) λp=>p.1.length=n/\Wp (M f p.1 p.2) Q:=by
 (dsimp only[au]; simp only[ou])
 rcases h:cm M es Z S with _|⟨x,S1⟩
 ·simp[ab,ac]
 ·by_cases hl:x.length=n <;> simp[ab,ac,hl]
def Ex {b:Bi}{es:Es}{Q:QW}:Wp (au M (.bi b es) Z S) Q↔Wp (cm M es Z S) λp=>Wp (b.fn p.1 p.2) Q:=by
 (dsimp only[au]; simp only[iY])
 rcases h:cm M es Z S with _|⟨x,S1⟩ <;> simp[ab,ac]
def Gn {m:Me}{o:E}{es:Es}{Q:QW}:Wp (au M (.me m o es) Z S) Q↔Wp (au M o Z S) λp=>tyOk m.ty p.2 p.1=true/\Wp (cm M es Z p.2) λq=>Wp (m.fn p.1 q.1 q.2) Q:=by
 (dsimp only[au]; simp only[Dr])
 rcases h:au M o Z S with _|⟨x,S1⟩
 ·simp[ab,ac]
 ·by_cases ht:tyOk m.ty S1 x=true
  ·rcases h2:cm M es Z S1 with _|⟨y,S2⟩ <;> simp[ab,ac,ht,h2]
  ·simp[ab,ac,ht]
def Go {a:E}{lo hi:Ep}{Q:QW}:Wp (au M (.sl a lo hi) Z S) Q↔Wp (au M a Z S) λp=>Wp (rP M lo Z p.2) λq=>Wp (rP M hi Z q.2) λr=>Wp (uE p.1 q.1 r.1 r.2) Q:=by
 (dsimp only[au]; simp only[Eb])
 rcases h:au M a Z S with _|⟨x,S1⟩
 ·simp[ab,ac]
 ·rcases h2:rP M lo Z S1 with _|⟨y,S2⟩
  ·simp[ab,ac,h2]
  ·rcases h3:rP M hi Z S2 with _|⟨z,S3⟩ <;> simp[ab,ac,h2,h3]
def Gp {Q:HA HM×aa->Prop}:Wp (rP M .no Z S) Q↔Q (gV,S):=by(dsimp only[rP]; simp[Cn,ab,ac])
def Ey {a:E}{Q:HA HM×aa->Prop}:Wp (rP M (.yes a) Z S) Q↔Wp (au M a Z S) λp=>∃i,p.1=.int i/\Q (ba i,p.2):=by
 (dsimp only[rP]; simp only[rK])
 rcases h:au M a Z S with _|⟨x,S1⟩
 ·simp[ab,ac]
 ·cases x <;> simp[ab,ac]
def Ez {es:Es}{Q:QW}:Wp (au M (.tup es) Z S) Q↔Wp (cm M es Z S) λp=>p.1.length<=sizeLine/\Q (.tup p.1,p.2):=by
 (dsimp only[au]; simp only[vY,pV])
 rcases h:cm M es Z S with _|⟨x,S1⟩
 ·simp[ab,ac]
 ·by_cases hl:x.length<=sizeLine <;> simp[ab,ac,hl]
def EA {es:Es}{Q:QW}:Wp (au M (.lst es) Z S) Q↔Wp (cm M es Z S) λp=>p.1.length<=sizeLine/\Q (.ref p.2.length,p.2++[.lst p.1]):=by
 (dsimp only[au]; simp only[vZ,kD])
 rcases h:cm M es Z S with _|⟨x,S1⟩
 ·simp[ab,ac]
 ·by_cases hl:x.length<=sizeLine <;> simp[ab,ac,hl]
def AZ {c:Jy}{a:E}{Q:QW}:Wp (au M (.isi c a) Z S) Q↔Wp (au M a Z S) λp=>∃k,wf p.2 p.1 c=ba k/\Q (.bl k,p.2):=by
 (dsimp only[au]; simp only[wj])
 rcases h:au M a Z S with _|⟨x,S1⟩
 ·simp[ab,ac]
 ·cases h2:wf S1 x c <;> simp[ab,ac,h2]
  rename_i k; cases k <;> simp
def EB {a:E}{Q:QW}:Wp (au M (.neg a) Z S) Q↔Wp (au M a Z S) λp=>∃i,p.1=.int i/\Q (.int (-i),p.2):=by
 (dsimp only[au]; simp only[vT])
 rcases h:au M a Z S with _|⟨x,S1⟩
 ·simp[ab,ac]
 ·cases x <;> simp[ab,ac]
def CG {es:Es}{Q:QW}:Wp (au M (.disp es) Z S) Q↔Wp (cm M es Z (S++[.dic []])) λp=>p.2[S.length]?=ba (.dic [])/\∃U,cV [] p.1=ba U/\Q (.ref S.length,p.2.set S.length (.dic U)):=by
 have e:au M (.disp es) Z S=oz (cm M es) Z S:=by dsimp only[au]
 rw[e];unfold oz;cases cm M es Z (S++[.dic []])with
 | none=>simp[ac]
 | some p=>
  obtain⟨x,S1⟩:=p;simp only[ab];cases h2:S1[S.length]? with
  | none=>simp[ac]
  | some o=>
   cases o with
   | lst _=>simp[ac]
   | fro _=>simp[ac]
   | frd _=>simp[ac]
   | stt _=>simp[ac]
   | sti _=>simp[ac]
   | rng _ _=>simp[ac]
   | dic U=>
    cases U with
    | nil=>cases h3:cV [] x <;> simp[ab,ac]
    | cons a b=>simp[ac]
def EC {Q:Hr W×aa->Prop}:Wp (cm M .nil Z S) Q↔Q ([],S):=by(dsimp only[cm]; simp[i9,ab,ac])
def CH {e:E}{es:Es}{Q:Hr W×aa->Prop}:Wp (cm M (.cons e es) Z S) Q↔Wp (au M e Z S) λp=>Wp (cm M es Z p.2) λq=>Q (p.1::q.1,q.2):=by
 (dsimp only[cm]; simp only[dO])
 rcases h:au M e Z S with _|⟨x,S1⟩
 ·simp[ab,ac]
 ·rcases h2:cm M es Z S1 with _|⟨y,S2⟩ <;> simp[ab,ac,h2]
noncomputable abbrev QB:=Il×aa->Prop
def ED {f:FE}{Q:QB}:Wp (vV f Z S) Q↔Wp (f Z S) λp=>∃k,p.1=.bl k/\Q (k,p.2):=by
 unfold vV;rcases h:f Z S with _|⟨x,S1⟩
 ·simp[ab,ac]
 ·cases x <;> simp[ab,ac]
  rename_i k; cases k <;> simp
def r0 {f:FE}{Q:QB}:Wp (fP f Z S) Q↔Wp (f Z S) λp=>∃k,ee p.2 p.1=ba k/\Q (k,p.2):=by
 unfold fP;rcases h:f Z S with _|⟨x,S1⟩
 ·simp[ab,ac]
 ·cases h2:ee S1 x <;> simp[ab,ac,h2]
  rename_i k; cases k <;> simp
def EE {o:COp}{a b:E}{Q:QB}:Wp (ci M (.cmp o a b) Z S) Q↔Wp (au M (.cmp o a b) Z S) λp=>∃k,p.1=.bl k/\Q (k,p.2):=by dsimp only[ci,au]; exact ED
def EF {a b:E}{Q:QB}:Wp (ci M (.and a b) Z S) Q↔Wp (ci M a Z S) λp=>(p.1=true->Wp (ci M b Z p.2) Q)/\(p.1=false->Q (false,p.2)):=by
 (dsimp only[ci]; simp only[vW])
 rcases h:ci M a Z S with _|⟨x,S1⟩
 ·simp[ab,ac]
 ·cases x <;> simp[ab,ac]
def Gq {a b:E}{Q:QB}:Wp (ci M (.or a b) Z S) Q↔Wp (ci M a Z S) λp=>(p.1=true->Q (true,p.2))/\(p.1=false->Wp (ci M b Z p.2) Q):=by
 (dsimp only[ci]; simp only[D8])
 rcases h:ci M a Z S with _|⟨x,S1⟩
 ·simp[ab,ac]
 ·cases x <;> simp[ab,ac]
def EG {a:E}{Q:QB}:Wp (ci M (.not a) Z S) Q↔Wp (ci M a Z S) λp=>Q (!p.1,p.2):=by
 (dsimp only[ci]; simp only[zn])
 rcases h:ci M a Z S with _|⟨x,S1⟩ <;> simp[ab,ac]
def Hg {i:HB}{Q:QB}:Wp (ci M (.v i) Z S) Q↔Wp (au M (.v i) Z S) λp=>∃k,ee p.2 p.1=ba k/\Q (k,p.2):=by dsimp only[ci,au]; exact r0
def EH {f:HY}{n:HB}{es:Es}{Q:QB}:Wp (ci M (.own f n es) Z S) Q↔Wp (au M (.own f n es) Z S) λp=>∃k,ee p.2 p.1=ba k/\Q (k,p.2):=by dsimp only[ci,au]; exact r0
def Gr {b:Bi}{es:Es}{Q:QB}:Wp (ci M (.bi b es) Z S) Q↔Wp (au M (.bi b es) Z S) λp=>∃k,ee p.2 p.1=ba k/\Q (k,p.2):=by dsimp only[ci,au]; exact r0
def EI {c:Jy}{a:E}{Q:QB}:Wp (ci M (.isi c a) Z S) Q↔Wp (au M (.isi c a) Z S) λp=>∃k,ee p.2 p.1=ba k/\Q (k,p.2):=by dsimp only[ci,au]; exact r0
noncomputable abbrev QO:=Out×aa->Prop
def EJ {Q:QO}:Wp (fj M fuel .nil Z S) Q↔Q (.nx Z,S):=by(dsimp only[fj]; simp[ab,ac])
def CI {s:Sm}{ss:Ss}{Q:QO}:Wp (fj M fuel (.cons s ss) Z S) Q↔Wp (fR M fuel s Z S) λp=>(∀Z',p.1=.nx Z'->Wp (fj M fuel ss Z' p.2) Q)/\((∀Z',p.1≠.nx Z')->Q p):=by
 (dsimp only[fj]; simp only[zy])
 rcases h:fR M fuel s Z S with _|⟨o,S1⟩
 ·simp[ab,ac]
 ·cases o <;> simp[ab,ac]
def w6 {f:FE}{g:FG}{Q:QO}:Wp (jN f g Z S) Q↔Wp (f Z S) λp=>Wp (g p.1 Z p.2) λq=>Q (.nx q.1,q.2):=by
 unfold jN;rcases h:f Z S with _|⟨x,S1⟩
 ·simp[ab,ac]
 ·rcases h2:g x Z S1 with _|⟨y,S2⟩ <;> simp[ab,ac,h2]
def CJ {i:HB}{e:E}{Q:QO}:Wp (fR M fuel (.set i e) Z S) Q↔Wp (au M e Z S) λp=>Q (.nx (Z.set i (ba p.1)),p.2):=by
 dsimp only[fR]; rw[w6]; simp[zD,ab,ac]
def CK {is:Hr HB}{e:E}{Q:QO}:Wp (fR M fuel (.asg is e) Z S) Q↔Wp (au M e Z S) λp=>∃ws Z',p.1=.tup ws/\dv is ws Z=ba Z'/\Q (.nx Z',p.2):=by
 dsimp only[fR]; rw[w6]
 constructor
 ·refine λh=>h.mono λp hp=>?_
  obtain⟨w,S1⟩:=p;obtain⟨q,h1,h2⟩:=hp;cases w with
  | tup ws=>
   simp only[Ds,Hy]at h1;obtain⟨Z',h3,rfl⟩:=h1;exact#[ws,Z',rfl,h3,h2]
  | _=>cases h1
 ·refine λh=>h.mono λp hp=>?_
  obtain⟨w,S1⟩:=p;obtain⟨ws,Z',h0,h1,h2⟩:=hp;subst h0;exact#[(Z',S1),by simp[Ds,h1],h2]
def CL {i j:HB}{es:Es}{Q:QO}:Wp (fR M fuel (.par i j es) Z S) Q↔Wp (cm M es Z S) λp=>∃x y,p.1=[x,y]/\Q (.nx ((Z.set i (ba x)).set j (ba y)),p.2):=by
 (dsimp only[fR]; simp only[zF])
 rcases h:cm M es Z S with _|⟨x,S1⟩
 ·simp[ac]
 ·match x with
  | []=>simp[ab,ac]
  | [_]=>simp[ab,ac]
  | [a,b]=>
   simp only[ab];exact#[λh=>#[a,b,rfl,h],λ#[x,y,e,h]=>by cases e; exact h]
  | _::_::_::_=>simp[ab,ac]
def CM {o k e:E}{Q:QO}:Wp (fR M fuel (.put o k e) Z S) Q↔Wp (au M e Z S) λp=>Wp (au M o Z p.2) λq=>Wp (au M k Z q.2) λr=>∃S',gT q.1 r.1 p.1 r.2=ba S'/\Q (.nx Z,S'):=by
 dsimp only[fR]; rw[w6]
 rcases h:au M e Z S with _|⟨x,S1⟩
 ·simp[ab,ac]
 ·simp only[ab];unfold zE;rcases h2:au M o Z S1 with _|⟨y,S2⟩
  ·simp[ab,ac]
  ·rcases h3:au M k Z S2 with _|⟨z,S3⟩
   ·simp[ab,ac,h3]
   ·cases h4:gT y z x S3 <;> simp[ab,ac,h3,h4]
def EK {e:E}{Q:QO}:Wp (fR M fuel (.ex e) Z S) Q↔Wp (au M e Z S) λp=>Q (.nx Z,p.2):=by
 (dsimp only[fR]; simp only[zz])
 rcases h:au M e Z S with _|⟨x,S1⟩ <;> simp[ab,ac]
def CN {e:E}{Q:QO}:Wp (fR M fuel (.ret e) Z S) Q↔Wp (au M e Z S) λp=>Q (.rt p.1,p.2):=by
 (dsimp only[fR]; simp only[zB])
 rcases h:au M e Z S with _|⟨x,S1⟩ <;> simp[ab,ac]
def CO {t:E}{a b:Ss}{Q:QO}:Wp (fR M fuel (.ite t a b) Z S) Q↔Wp (ci M t Z S) λp=>(p.1=true->Wp (fj M fuel a Z p.2) Q)/\(p.1=false->Wp (fj M fuel b Z p.2) Q):=by
 (dsimp only[fR]; simp only[zC])
 rcases h:ci M t Z S with _|⟨x,S1⟩
 ·simp[ab,ac]
 ·cases x <;> simp[ab,ac]
end
section
variable{M:HY->FF}{fuel:HB}{Z:Fm}{S:aa}
abbrev w8 (I:Fm->aa->Prop)(Q:QO)(o:Out×aa):Prop:=match o.1 with
 | .nx Z'=>I Z' o.2
 | .ct Z'=>I Z' o.2
 | .bk Z'=>Q (.nx Z',o.2)
 | .rt w=>Q (.rt w,o.2)
def iJ {mi:MI}{g:FG}{b:FS}{xs:Hr W}{Q:QO}(I:HB->Fm->aa->Prop)(hat:∀i Z S,I i Z S->mi.at S i=ba xs[i]?)
  (hstep:∀i w Z S,xs[i]?=ba w->I i Z S->Wp (g w Z S) λq=>Wp (b q.1 q.2) (w8 (I (i+1)) Q)) (hend:∀Z S,I xs.length Z S->Q (.nx Z,S)):∀(n i:HB) (Z:Fm) (S:aa),i+n=xs.length->I i Z S->Wp (fe mi g b n i Z S) Q
 | 0,i,Z,S,hl,hI=>by
  have e:mi.at S i=ba gV:=by rw[hat i Z S hI,Lb ∅]
  simp only[fe,e];have hi:i=xs.length:=∅
  exact ab.mpr (hend Z S (hi ▸ hI))
 | n+1,i,Z,S,hl,hI=>by
  have hi:i < xs.length:=∅
  have e:mi.at S i=ba (ba xs[i]):=by rw[hat i Z S hI,HC hi]
  obtain⟨⟨Z1,S1⟩,h1,⟨o,S2⟩,h2,h3⟩:=hstep i xs[i] Z S (HC hi) hI;simp only[fe,e,h1,h2];cases o with
  | nx Z2=>exact iJ I hat hstep hend n (i+1) Z2 S2 ∅ h3
  | ct Z2=>exact iJ I hat hstep hend n (i+1) Z2 S2 ∅ h3
  | bk Z2=>exact ab.mpr h3
  | rt w=>exact ab.mpr h3
def EM {fi:FI}{g:FG}{b:FS}{Q:QO}:Wp (we fi g b Z S) Q↔Wp (fi Z S) λp=>∃n,p.1.len p.2=ba n/\Wp (fe p.1 g b n 0 Z p.2) Q:=by
 unfold we;rcases h:fi Z S with _|⟨mi,S1⟩
 ·simp[ac]
 ·cases h2:mi.len S1 <;> simp[ab,ac,h2]
def c9 {mi:MI}{g:FG}{c:FT}{f:FE}{xs:Hr W}{Q:Hr W×aa->Prop}(I:HB->Hr W->Fm->aa->Prop)(hat:∀i ys Z S,I i ys Z S->mi.at S i=ba xs[i]?)
  (hstep:∀i w ys Z S,xs[i]?=ba w->I i ys Z S->Wp (g w Z S) λq=>Wp (c q.1 q.2) λk=>(k.1=true->Wp (f q.1 k.2) λy=>I (i+1) (ys++[y.1]) q.1 y.2)/\(k.1=false->I (i+1) ys q.1 k.2))
  (hend:∀ys Z S,I xs.length ys Z S->Q (ys,S)):∀(n i:HB) (ys:Hr W) (Z:Fm) (S:aa),i+n=xs.length->I i ys Z S->Wp (bg mi g c f n i Z S) λp=>Q (ys++p.1,p.2)
 | 0,i,ys,Z,S,hl,hI=>by
  have e:mi.at S i=ba gV:=by rw[hat i ys Z S hI,Lb ∅]
  simp only[bg,e];refine ab.mpr ?_;have:i=xs.length:=∅
  simpa using hend ys Z S (this ▸ hI)
 | n+1,i,ys,Z,S,hl,hI=>by
  have hi:i < xs.length:=∅
  have e:mi.at S i=ba (ba xs[i]):=by rw[hat i ys Z S hI,HC hi]
  obtain⟨⟨Z1,S1⟩,h1,⟨k,S2⟩,h2,h3,h4⟩:=hstep i xs[i] ys Z S (HC hi) hI;simp only[bg,e,h1,h2];cases k with
  | true=>
   obtain⟨⟨y,S3⟩,h5,h6⟩:=h3 rfl;simp only[h5];obtain⟨⟨zs,S4⟩,h7,h8⟩:=c9 I hat hstep hend n (i+1) (ys++[y]) Z1 S3 ∅ h6
   simp only[h7];exact ab.mpr (by simpa using h8)
  | false=>exact c9 I hat hstep hend n (i+1) ys Z1 S2 ∅ (h4 rfl)
def w9 {elt:E}{tg:Tg}{it:Ie}{cs:Es}{cap:Hr (HA HB)}{Q:QW}:Wp (au M (.comp elt tg it cs cap) Z S) Q↔Wp (kB M it Z S) λp=>∃n,p.1.len p.2=ba n/\Wp (bg p.1 (im tg) (zX M cs) (au M elt) n 0 (eE cap Z) p.2) λq=>q.1.length<=sizeLine/\Q (.ref q.2.length,q.2++[.lst q.1]):=by
 (dsimp only[au]; simp only[jR,kD])
 rcases h:kB M it Z S with _|⟨mi,S1⟩
 ·simp[ac]
 ·rcases h2:mi.len S1 with _|n
  ·simp[ab,ac,h2]
  ·rcases h3:bg mi (im tg) (zX M cs) (au M elt) n 0 (eE cap Z) S1 with _|⟨ys,S2⟩
   ·simp[ab,ac,h2,h3]
   ·by_cases hl:ys.length<=sizeLine <;> simp[ab,ac,h2,h3,hl]
def EN {Q:QB}:Wp (zX M .nil Z S) Q↔Q (true,S):=by(dsimp only[zX]; simp[AS,ab])
def EO {e:E}{Q:QB}:Wp (zX M #v[e] Z S) Q↔Wp (ci M e Z S) Q:=by dsimp only[zX]; exact Iff.rfl
def Gs {i:HB}{w:W}{Q:Fm×aa->Prop}:Wp (im (.nm i) w Z S) Q↔Q (Z.set i (ba w),S):=by(dsimp only[im]; simp[zD,ab])
def jY {c:FT}{b:FS}{Q:QO}(I:HB->Fm->aa->Prop)(hstep:∀m Z S,I m Z S->Wp (c Z S) λk=>(k.1=true->∃m',m=m'+1/\Wp (b Z k.2) (w8 (I m') Q))/\(k.1=false->Q (.nx Z,k.2))) :
  ∀(n m:HB) (Z:Fm) (S:aa),m < n->I m Z S->Wp (mw c b n Z S) Q
 | 0,m,Z,S,h,_=>∅
 | n+1,m,Z,S,h,hI=>by
  obtain⟨⟨k,S1⟩,h1,h2,h3⟩:=hstep m Z S hI;simp only[mw,h1];cases k with
  | false=>exact ab.mpr (h3 rfl)
  | true=>
   obtain⟨m',rfl,⟨o,S2⟩,h5,h6⟩:=h2 rfl;simp only[h5];cases o with
   | nx Z2=>exact jY I hstep n m' Z2 S2 ∅ h6
   | ct Z2=>exact jY I hstep n m' Z2 S2 ∅ h6
   | bk Z2=>exact ab.mpr h6
   | rt w=>exact ab.mpr h6
def t9 {defs:Hr (HY×Df)}{d:HB}{f:HY}{ws:Hr W}{df:Df}{Q:QW}(h:defs.lookup f=ba df)(hl:ws.length=df.ps.length)
  (hb:Wp (fj (ah defs fuel d) fuel df.body (eF df.N ws) S) λp=>match p.1 with|.rt w=>Q (w,p.2)|.nx _=>Q (.non,p.2)|_=>Jt):Wp (ah defs fuel (d+1) f ws S) Q:=by
 obtain⟨⟨o,S1⟩,h1,h2⟩:=hb;simp only[ah,h,Ic hl,h1];cases o with
 | rt w=>exact ab.mpr h2
 | nx Z=>exact ab.mpr h2
 | bk _=>exact h2.elim
 | ct _=>exact h2.elim
end
section
variable{S:aa}{Q:QW}
def cp {a b:HM}:eS .add (.int a) (.int b) S=ba (.int (a+b),S):=rfl
def xf {a b:HM}:eS .sub (.int a) (.int b) S=ba (.int (a - b),S):=rfl
def mF {c:HM->HM->Il}{f:HM->HM->HM}{i j:HM}(h:c i j=true):yh c f (.int i) (.int j) S=ba (.int (f i j),S):=by
 unfold yh;dsimp only;rw[Ic h]
def oN {a b:HM}(h : -(2 ^ 64) < b)(h2:b < 2 ^ 64):eS .mul (.int a) (.int b) S=ba (.int (a*b),S):=mF (c:=sQ) (f:=(· * ·)) (by
 unfold sQ;simp only[JY,Hz,HQ];exact .inr #[h,h2])
def g9 {a b:HM}(h:0 < b):eS .mod (.int a) (.int b) S=ba (.int (a % b),S):=mF (c:=λ_ j=>decide (0 < j)) (f:=(· % ·)) (JL h)
def gE {a b:HM}(h:0 < b)(h2:b < 1073741824):eS .fdiv (.int a) (.int b) S=ba (.int (a / b),S):=mF (c:=λ_ j=>yP j) (f:=(· / ·)) (by
 unfold yP;simp only[Hz,HQ];exact#[h,h2])
def CP:eS .pow (.int 10) (.int 18) S=ba (.int 1000000000000000000,S):=rfl
def CQ {x y:HY}(h:x.length+y.length<=sizeLine):eS .add (.str x) (.str y) S=ba (.str (x++y),S):=by simp only[eS,sR]; rw[Ic h]
def jZ {xs ys:Hr W}(h:(xs++ys).length<=sizeLine):eS .add (.tup xs) (.tup ys) S=ba (.tup (xs++ys),S):=by simp only[eS,sR,pV]; rw[Ic h]
def qG {i j:HB}{xs ys:Hr W}(h1:S[i]?=ba (.lst xs))(h2:S[j]?=ba (.lst ys))(h:(xs++ys).length<=sizeLine):eS .add (.ref i) (.ref j) S=ba (.ref S.length,S++[.lst (xs++ys)]):=by
 simp only[eS,sR,mW,h1,h2,kD]; rw[Ic h]
def gF {a b:HM}:cM .eq (.int a) (.int b) S=ba (.bl (a==b),S):=rfl
def Gu {a b:HM}:cM .ne (.int a) (.int b) S=ba (.bl (!(a==b)),S):=rfl
def z8 {a b:HM}:cM .lt (.int a) (.int b) S=ba (.bl (decide (a < b)),S):=rfl
def uc {a b:HM}:cM .gt (.int a) (.int b) S=ba (.bl (decide (a > b)),S):=rfl
def Gv {a b:HM}:cM .ge (.int a) (.int b) S=ba (.bl (decide (a>=b)),S):=rfl
def A6 {a b:HY}:cM .eq (.str a) (.str b) S=ba (.bl (a==b),S):=rfl
def EQ {a b:HY}:cM .ne (.str a) (.str b) S=ba (.bl (!(a==b)),S):=rfl
def ar {r:HB}{xs:Hr W}(h:S[r]?=ba (.lst xs)):eO S r=ba xs:=by simp[eO,h]
def z9 {r:HB}{xs:Hr W}(h:S[r]?=ba (.fro xs)):eO S r=ba xs:=by simp[eO,h]
def cy {r:HB}{xs:Hr W}(h:S[r]?=ba (.lst xs)):mW S r=ba xs:=by simp[mW,h]
def jk {r:HB}{xs:Hr W}(h:S[r]?=ba (.lst xs)):iA S r=gV:=by simp[iA,h]
def cz {r:HB}{U:Hr (T×W)}(h:S[r]?=ba (.dic U)):iA S r=ba U:=by simp[iA,h]
def mG {r:HB}{U:Hr (T×W)}(h:S[r]?=ba (.dic U)):eO S r=gV:=by simp[eO,h]
def Aa {r:HB}{U:Hr (T×W)}(h:S[r]?=ba (.frd U)):iA S r=ba U:=by simp[iA,h]
def atI_nat {α:Type}{xs:Hr α}{j:HB}{w:α}(h:xs[j]?=ba w):nr xs (j:HM)=ba w:=by
 have hl:=(HH.mp h).1;unfold nr qT;rw[Ic (Ip j),Ic (by exact_mod_cast hl)]
 simpa using h
def mH {α:Type}{xs:Hr α}{i:HM}{w:α}(h0:0<=i)(h:xs[i.toNat]?=ba w):nr xs i=ba w:=by
 have:=atI_nat h
 rwa [N4 h0]at this
def xg {r:HB}{xs:Hr W}{i:HM}{w:W}(h:S[r]?=ba (.lst xs))(h0:0<=i)(hw:xs[i.toNat]?=ba w):mX (.ref r) (.int i) S=ba (w,S):=by
 show sS (.ref r) (.int i) S=_;simp[sS,ar h,mH h0 hw]
def ER {xs:Hr W}{i:HM}{w:W}(h0:0<=i)(hw:xs[i.toNat]?=ba w):mX (.tup xs) (.int i) S=ba (w,S):=by
 show sS (.tup xs) (.int i) S=_;simp[sS,mH h0 hw]
def A7 {x:HY}{i:HM}{c:HB}(hz:x.length<=sizeLine)(h0:0<=i)(hw:x.cps.toList[i.toNat]?=ba c):mX (.str x) (.int i) S=ba (.str #[[c].toArray],S):=by
 show sS (.str x) (.int i) S=_;simp[sS,hz,mH h0 hw]
def Ba {r:HB}{xs:Hr W}{i:HM}{w:W}(h:S[r]?=ba (.lst xs))(h0:0<=i)(hi:i.toNat < xs.length):gT (.ref r) (.int i) w S=ba (S.set r (.lst (xs.set i.toNat w))):=by
 show sT (.ref r) (.int i) w S=_;have:qT xs.length i=ba i.toNat:=by
  unfold qT;rw[Ic h0,Ic ∅]
 simp[sT,cy h,this]
def Bb {r:HB}{xs:Hr W}(h:S[r]?=ba (.lst xs)):Bi.len.fn [.ref r] S=ba (.int xs.length,S):=by
 simp[Bi.fn,oF,nU,jk h,ny,ar h]
def xh {r:HB}{xs:Hr W}{y:W}(h:S[r]?=ba (.lst xs))(hl:xs.length < sizeLine):gM (.ref r) [y] S=ba (.non,S.set r (.lst (xs++[y]))):=by
 simp[gM,cy h,hl]
def ES {r:HB}{xs:Hr W}(h:S[r]?=ba (.lst xs)):jM [.ref r] S=ba (.tup xs,S):=by
 simp[jM,uF,h,jv,ar h]
def cW {r:HB}{xs:Hr W}(h:S[r]?=ba (.lst xs)):tyOk "list" S (.ref r)=true:=by simp[tyOk,ar h]
def bm {r:HB}{o o':O}(h:S[r]?=ba o):(S.set r o')[r]?=ba o':=by
 rw[J5,Ic rfl,Ic (HH.mp h).1]
def bu {r j:HB}{o':O}(h:r≠j):(S.set r o')[j]?=S[j]?:=by rw[J5,Im h]
def af {o:O}:(S++[o])[S.length]?=ba o:=by simp
def ak {j:HB}{o u:O}(h:S[j]?=ba o):(S++[u])[j]?=ba o:=by rw[IN (HH.mp h).1]; exact h
def cq {j:HB}{o:O}(h:S[j]?=ba o):j < S.length:=(HH.mp h).1
structure Kp (r:HB)(S S':aa):Prop where
 get:∀j o,j≠r->S[j]?=ba o->S'[j]?=ba o
 len:S.length<=S'.length
def Kp.refl {r:HB}{S:aa}:Kp r S S:=#[λ_ _ _ h=>h,HE _]
def Kp.trans {r:HB}{S S' S'':aa}(a:Kp r S S')(b:Kp r S' S''):Kp r S S'':=#[λj o n h=>b.get j o n (a.get j o n h),ID a.len b.len]
def Kp.set {r:HB}{S:aa}{o:O}:Kp r S (S.set r o):=#[λj u n h=>by rw[bu (Ne.symm n)]; exact h,by simp]
def Kp.push {r:HB}{S:aa}{o:O}:Kp r S (S++[o]):=#[λj u n h=>ak h,by simp]
def Kp.late {r t:HB}{S0 S:aa}{o:O}(a:Kp r S0 S)(h:S0.length<=t):Kp r S0 (S.set t o):=
 #[λj u n e=>by
  have:=cq e;rw[bu ∅]; exact a.get j u n e,by simpa using a.len]
end
abbrev wO {α:Type}(o:HA α)(Q:α->Prop):Prop:=match o with
 | some a=>Q a
 | none=>Jt
def bL {α:Type}{o:HA α}{Q:α->Prop}(h:wO o Q):Wp o Q:=by
 cases o with
 | none=>exact h.elim
 | some a=>exact#[a,rfl,h]
def ET {α:Type}{o:HA α}{Q:α->Prop}(h:Wp o Q):wO o Q:=by
 obtain⟨a,rfl,q⟩:=h;exact q
def ae {α:Type}{o:HA α}{a:α}{Q:α->Prop}(e:o=ba a)(h:Q a):wO o Q:=by subst e; exact h
abbrev wB:W->(Il->Prop)->Prop
 | .bl k,Q=>Q k
 | _,_=>Jt
abbrev wN:W->(HM->Prop)->Prop
 | .int k,Q=>Q k
 | _,_=>Jt
abbrev wU:W->(Hr W->Prop)->Prop
 | .tup k,Q=>Q k
 | _,_=>Jt
def r4 {w:W}{Q:Il->Prop}(h:wB w Q):∃k,w=.bl k/\Q k:=by cases w <;> first|exact h.elim|exact#[_,rfl,h]
def Bc {w:W}{Q:HM->Prop}(h:wN w Q):∃k,w=.int k/\Q k:=by cases w <;> first|exact h.elim|exact#[_,rfl,h]
def EU {w:W}{Q:Hr W->Prop}(h:wU w Q):∃k,w=.tup k/\Q k:=by cases w <;> first|exact h.elim|exact#[_,rfl,h]
abbrev w2:Hr W->(W->W->Prop)->Prop
 | [x,y],Q=>Q x y
 | _,_=>Jt
def EV {xs:Hr W}{Q:W->W->Prop}(h:w2 xs Q):∃x y,xs=[x,y]/\Q x y:=by
 match xs,h with
 | [x,y],h=>exact#[x,y,rfl,h]
abbrev wG:HA W->(W->Prop)->Prop
 | some w,Q=>Q w
 | none,_=>Jt
abbrev wV:Fm->HB->(W->Prop)->Prop
 | [],_,_=>Jt
 | o::_,0,Q=>wG o Q
 | _::Z,n+1,Q=>wV Z n Q
def xi {Q:W->Prop}:∀ {Z:Fm} {i:HB},wV Z i Q->∃w,Z[i]?=ba (ba w)/\Q w
 | [],i,h=>h.elim
 | some w::Z,0,h=>#[w,rfl,h]
 | none::Z,0,h=>h.elim
 | x::Z,n+1,h=>by
  obtain⟨w,e2,q⟩:=xi (Z:=Z) (i:=n) h;exact#[w,e2,q]
abbrev aL (M:HY->FF)(f:HY)(n:HB)(ws:Hr W)(S:aa):HA (W×aa):=if ws.length=n then M f ws S else gV
section
variable (M:HY->FF) (fuel:HB)
mutual
noncomputable def wE:E->Fm->aa->QW->Prop
 | .c w,_,S,Q=>Q (w,S)
 | .v i,Z,S,Q=>wV Z i λw=>Q (w,S)
 | .op o a b,Z,S,Q=>wE a Z S λp=>wE b Z p.2 λq=>wO (eS o p.1 q.1 q.2) Q
 | .cmp o a b,Z,S,Q=>wE a Z S λp=>wE b Z p.2 λq=>wO (cM o p.1 q.1 q.2) Q
 | .and a b,Z,S,Q=>wE a Z S λp=>wB p.1 λk=>(k=true->wE b Z p.2 Q)/\(k=false->Q (.bl false,p.2))
 | .or a b,Z,S,Q=>wE a Z S λp=>wB p.1 λk=>(k=true->Q (.bl true,p.2))/\(k=false->wE b Z p.2 Q)
 | .not a,Z,S,Q=>wE a Z S λp=>wB p.1 λk=>Q (.bl (!k),p.2)
 | .own f n es,Z,S,Q=>wA es Z S λp=>wO (aL M f n p.1 p.2) Q
 | .bi b es,Z,S,Q=>wA es Z S λp=>wO (b.fn p.1 p.2) Q
 | .me m o es,Z,S,Q=>wE o Z S λp=>tyOk m.ty p.2 p.1=true/\wA es Z p.2 λq=>wO (m.fn p.1 q.1 q.2) Q
 | .ix a b,Z,S,Q=>wE a Z S λp=>wE b Z p.2 λq=>wO (mX p.1 q.1 q.2) Q
 | .sl a lo hi,Z,S,Q=>wE a Z S λp=>wP lo Z p.2 λq=>wP hi Z q.2 λr=>wO (uE p.1 q.1 r.1 r.2) Q
 | .tup es,Z,S,Q=>wA es Z S λp=>Q (.tup p.1,p.2)
 | .lst es,Z,S,Q=>wA es Z S λp=>Q (.ref p.2.length,p.2++[.lst p.1])
 | .isi c a,Z,S,Q=>wE a Z S λp=>wO (wf p.2 p.1 c) λk=>Q (.bl k,p.2)
 | .neg a,Z,S,Q=>wE a Z S λp=>wN p.1 λi=>Q (.int (-i),p.2)
 | .dnew,_,S,Q=>Q (.ref S.length,S++[.dic []])
 | .disp es,Z,S,Q=>wA es Z (S++[.dic []]) λp=>p.2[S.length]?=ba (.dic [])/\wO (cV [] p.1) λU=>Q (.ref S.length,p.2.set S.length (.dic U))
 | .ite t a b,Z,S,Q=>wT t Z S λp=>(p.1=true->wE a Z p.2 Q)/\(p.1=false->wE b Z p.2 Q)
 | .comp elt tg it cs cap,Z,S,Q=>Wp (au M (.comp elt tg it cs cap) Z S) Q
noncomputable def wT:E->Fm->aa->QB->Prop
 | .cmp o a b,Z,S,Q=>wE a Z S λp=>wE b Z p.2 λq=>wO (cM o p.1 q.1 q.2) λr=>wB r.1 λk=>Q (k,r.2)
 | .and a b,Z,S,Q=>wT a Z S λp=>(p.1=true->wT b Z p.2 Q)/\(p.1=false->Q (false,p.2))
 | .or a b,Z,S,Q=>wT a Z S λp=>(p.1=true->Q (true,p.2))/\(p.1=false->wT b Z p.2 Q)
 | .not a,Z,S,Q=>wT a Z S λp=>Q (!p.1,p.2)
 | .isi c a,Z,S,Q=>wE a Z S λp=>wO (wf p.2 p.1 c) λk=>Q (k,p.2)
 | .c w,Z,S,Q=>Wp (ci M (.c w) Z S) Q
 | .v i,Z,S,Q=>wV Z i λw=>wO (ee S w) λk=>Q (k,S)
 | .op o a b,Z,S,Q=>Wp (ci M (.op o a b) Z S) Q
 | .own f n es,Z,S,Q=>wA es Z S λp=>wO (aL M f n p.1 p.2) λq=>wO (ee q.2 q.1) λk=>Q (k,q.2)
 | .bi b es,Z,S,Q=>wA es Z S λp=>wO (b.fn p.1 p.2) λq=>wO (ee q.2 q.1) λk=>Q (k,q.2)
 | .me m o es,Z,S,Q=>Wp (ci M (.me m o es) Z S) Q
 | .ix a b,Z,S,Q=>Wp (ci M (.ix a b) Z S) Q
 | .sl a lo hi,Z,S,Q=>Wp (ci M (.sl a lo hi) Z S) Q
 | .tup es,Z,S,Q=>Wp (ci M (.tup es) Z S) Q
 | .lst es,Z,S,Q=>Wp (ci M (.lst es) Z S) Q
 | .neg a,Z,S,Q=>Wp (ci M (.neg a) Z S) Q
 | .dnew,Z,S,Q=>Wp (ci M .dnew Z S) Q
 | .disp es,Z,S,Q=>Wp (ci M (.disp es) Z S) Q
 | .ite t a b,Z,S,Q=>Wp (ci M (.ite t a b) Z S) Q
 | .comp elt tg it cs cap,Z,S,Q=>Wp (ci M (.comp elt tg it cs cap) Z S) Q
noncomputable def wA:Es->Fm->aa->(Hr W×aa->Prop)->Prop
 | .nil,_,S,Q=>Q ([],S)
 | .cons e es,Z,S,Q=>wE e Z S λp=>wA es Z p.2 λq=>Q (p.1::q.1,q.2)
noncomputable def wP:Ep->Fm->aa->(HA HM×aa->Prop)->Prop
 | .no,_,S,Q=>Q (gV,S)
 | .yes a,Z,S,Q=>wE a Z S λp=>wN p.1 λi=>Q (ba i,p.2)
end
abbrev r6 (K:Fm->aa->Prop)(Q:QO)(p:Out×aa):Prop:=match p.1 with
 | .nx Z=>K Z p.2
 | o=>Q (o,p.2)
mutual
noncomputable def wS:Sm->Fm->aa->(Fm->aa->Prop)->QO->Prop
 | .set i e,Z,S,K,_=>wE M e Z S λp=>K (Z.set i (ba p.1)) p.2
 | .asg is e,Z,S,K,_=>wE M e Z S λp=>wU p.1 λws=>wO (dv is ws Z) λZ'=>K Z' p.2
 | .par i j es,Z,S,K,_=>wA M es Z S λp=>w2 p.1 λx y=>K ((Z.set i (ba x)).set j (ba y)) p.2
 | .put o k e,Z,S,K,_=>wE M e Z S λp=>wE M o Z p.2 λq=>wE M k Z q.2 λr=>wO (gT q.1 r.1 p.1 r.2) λS'=>K Z S'
 | .ex e,Z,S,K,_=>wE M e Z S λp=>K Z p.2
 | .ret e,Z,S,_,Q=>wE M e Z S λp=>Q (.rt p.1,p.2)
 | .pass,Z,S,K,_=>K Z S
 | .ite t a b,Z,S,K,Q=>wT M t Z S λp=>∀Q':QO,(∀Z' S',K Z' S'->Q' (.nx Z',S'))->(∀o S',(∀Z',o≠.nx Z')->Q (o,S')->Q' (o,S'))->(p.1=true->Ab a Z p.2 Q')/\(p.1=false->Ab b Z p.2 Q')
 | .whl t b,Z,S,K,Q=>Wp (fR M fuel (.whl t b) Z S) (r6 K Q)
 | .loop tg it b,Z,S,K,Q=>Wp (fR M fuel (.loop tg it b) Z S) (r6 K Q)
noncomputable def Ab:Ss->Fm->aa->QO->Prop
 | .nil,Z,S,Q=>Q (.nx Z,S)
 | .cons s ss,Z,S,Q=>wS s Z S (λZ' S'=>Ab ss Z' S' Q) Q
end
end
abbrev Ft:Es->HB
 | .nil=>0
 | .cons _ es=>Ft es+1
mutual
noncomputable def dG:E->Il
 | .c _|.v _|.comp _ _ _ _ _|.dnew=>true
 | .op _ a b|.cmp _ a b|.and a b|.or a b|.ix a b=>dG a&&dG b
 | .ite a b c=>dG a&&dG b&&dG c
 | .neg a|.not a|.isi _ a=>dG a
 | .own _ n es=>Ft es==n&&mY es
 | .bi _ es|.disp es=>mY es
 | .me _ o es=>dG o&&mY es
 | .sl a lo hi=>dG a&&Gw lo&&Gw hi
 | .tup es|.lst es=>decide (Ft es<=1000)&&mY es
noncomputable def mY:Es->Il
 | .nil=>true
 | .cons e es=>dG e&&mY es
noncomputable def Gw:Ep->Il
 | .no=>true
 | .yes e=>dG e
end
mutual
noncomputable def G7:Sm->Il
 | .set _ e|.asg _ e|.ex e|.ret e=>dG e
 | .put o k e=>dG o&&dG k&&dG e
 | .par _ _ es=>mY es
 | .ite t a b=>dG t&&hG a&&hG b
 | _=>true
noncomputable def hG:Ss->Il
 | .nil=>true
 | .cons s ss=>G7 s&&hG ss
end
section
variable{M:HY->FF}{fuel:HB}
def hW:∀ {es:Es} {Z:Fm} {S S':aa} {ws:Hr W},cm M es Z S=ba (ws,S')->ws.length=Ft es
 | .nil,Z,S,S',ws,h=>by dsimp only[cm]at h; cases h; rfl
 | .cons e es,Z,S,S',ws,h=>by
  dsimp only[cm]at h;unfold dO at h;split at h
  ·split at h
   ·rename_i h2; cases h; rw[IW,hW h2]; rfl
   ·cases h
  ·cases h
def xj {n:HB}(h:decide (n<=1000)=true):n<=sizeLine:=ID (IQ h) (by rw[IX]; decide)
def cj {a b:Il}(h:(a&&b)=true):a=true:=by cases a <;> first|rfl|cases h
def dz {a b:Il}(h:(a&&b)=true):b=true:=by cases a <;> first|exact h|cases h
mutual
theorem aT:∀(e:E) {Z:Fm} {S:aa} {Q:QW},dG e=true->wE M e Z S Q->Wp (au M e Z S) Q
 | .c w,Z,S,Q,k,h=>Hf.mpr h
 | .v i,Z,S,Q,k,h=>G6.mpr (xi h)
 | .op o a b,Z,S,Q,k,h=>Gj.mpr ((aT a (cj k) h).mono λp hp=>(aT b (dz k) hp).mono λq hq=>bL hq)
 | .cmp o a b,Z,S,Q,k,h=>AX.mpr ((aT a (cj k) h).mono λp hp=>(aT b (dz k) hp).mono λq hq=>bL hq)
 | .and a b,Z,S,Q,k,h=>Eu.mpr ((aT a (cj k) h).mono λp hp=>let ⟨c,e,h1,h2⟩:=r4 hp; #[c,e,λz=>aT b (dz k) (h1 z),h2])
 | .or a b,Z,S,Q,k,h=>Gm.mpr ((aT a (cj k) h).mono λp hp=>let ⟨c,e,h1,h2⟩:=r4 hp; #[c,e,h1,λz=>aT b (dz k) (h2 z)])
 | .not a,Z,S,Q,k,h=>Ev.mpr ((aT a k h).mono λp hp=>r4 hp)
 | .own f n es,Z,S,Q,k,h=>AY.mpr (by
   obtain⟨⟨ws,S1⟩,e,hq⟩:=ga es (dz k) h;have hl:ws.length=n:=(hW e).trans (eq_of_beq (cj k));simp only[aL,Ic hl]at hq;exact#[_,e,hl,bL hq])
 | .bi b es,Z,S,Q,k,h=>Ex.mpr ((ga es k h).mono λp hp=>bL hp)
 | .me m o es,Z,S,Q,k,h=>Gn.mpr ((aT o (cj k) h).mono λp hp=>#[hp.1,(ga es (dz k) hp.2).mono λq hq=>bL hq])
 | .ix a b,Z,S,Q,k,h=>Gk.mpr ((aT a (cj k) h).mono λp hp=>(aT b (dz k) hp).mono λq hq=>bL hq)
 | .sl a lo hi,Z,S,Q,k,h=>Go.mpr ((aT a (cj (cj k)) h).mono λp hp=>(Bd lo (dz (cj k)) hp).mono λq hq=>(Bd hi (dz k) hq).mono λr hr=>bL hr)
 | .tup es,Z,S,Q,k,h=>Ez.mpr (by
   obtain⟨⟨ws,S1⟩,e,hq⟩:=ga es (dz k) h;exact#[_,e,by rw[hW e]; exact xj (cj k),hq])
 | .lst es,Z,S,Q,k,h=>EA.mpr (by
   obtain⟨⟨ws,S1⟩,e,hq⟩:=ga es (dz k) h;exact#[_,e,by rw[hW e]; exact xj (cj k),hq])
 | .isi c a,Z,S,Q,k,h=>AZ.mpr ((aT a k h).mono λp hp=>bL hp)
 | .neg a,Z,S,Q,k,h=>EB.mpr ((aT a k h).mono λp hp=>Bc hp)
 | .dnew,Z,S,Q,k,h=>#[_,rfl,h]
 | .disp es,Z,S,Q,k,h=>CG.mpr ((ga es k h).mono λp hp=>#[hp.1,let ⟨U,e,q⟩:=bL hp.2; #[U,e,q]])
 | .ite t a b,Z,S,Q,k,h=>Ew.mpr ((hX t (cj (cj k)) h).mono λp hp=>#[λz=>aT a (dz (cj k)) (hp.1 z),λz=>aT b (dz k) (hp.2 z)])
 | .comp elt tg it cs cap,Z,S,Q,k,h=>h
theorem ga:∀(es:Es) {Z:Fm} {S:aa} {Q:Hr W×aa->Prop},mY es=true->wA M es Z S Q->Wp (cm M es Z S) Q
 | .nil,Z,S,Q,k,h=>EC.mpr h
 | .cons e es,Z,S,Q,k,h=>CH.mpr ((aT e (cj k) h).mono λp hp=>ga es (dz k) hp)
theorem Bd:∀(e:Ep) {Z:Fm} {S:aa} {Q:HA HM×aa->Prop},Gw e=true->wP M e Z S Q->Wp (rP M e Z S) Q
 | .no,Z,S,Q,k,h=>Gp.mpr h
 | .yes a,Z,S,Q,k,h=>Ey.mpr ((aT a k h).mono λp hp=>Bc hp)
theorem hX:∀(e:E) {Z:Fm} {S:aa} {Q:QB},dG e=true->wT M e Z S Q->Wp (ci M e Z S) Q
 | .cmp o a b,Z,S,Q,k,h=>EE.mpr (AX.mpr ((aT a (cj k) h).mono λp hp=>(aT b (dz k) hp).mono λq hq=>(bL hq).mono λr hr=>r4 hr))
 | .and a b,Z,S,Q,k,h=>EF.mpr ((hX a (cj k) h).mono λp hp=>#[λz=>hX b (dz k) (hp.1 z),hp.2])
 | .or a b,Z,S,Q,k,h=>Gq.mpr ((hX a (cj k) h).mono λp hp=>#[hp.1,λz=>hX b (dz k) (hp.2 z)])
 | .not a,Z,S,Q,k,h=>EG.mpr (hX a k h)
 | .isi c a,Z,S,Q,k,h=>EI.mpr (AZ.mpr ((aT a k h).mono λp hp=>let ⟨b,e,q⟩:=bL hp; #[b,e,b,rfl,q]))
 | .v i,Z,S,Q,k,h=>Hg.mpr (G6.mpr (let ⟨w,e,q⟩:=xi h; #[w,e,bL q]))
 | .own f n es,Z,S,Q,k,h=>EH.mpr (AY.mpr (by
   obtain⟨⟨ws,S1⟩,e,hq⟩:=ga es (dz k) h;have hl:ws.length=n:=(hW e).trans (eq_of_beq (cj k));simp only[aL,Ic hl]at hq;exact#[_,e,hl,(bL hq).mono λq hq=>bL hq]))
 | .c w,Z,S,Q,k,h=>h
 | .op o a b,Z,S,Q,k,h=>h
 | .bi b es,Z,S,Q,k,h=>Gr.mpr (Ex.mpr ((ga es k h).mono λp hp=>(bL hp).mono λq hq=>bL hq))
 | .me m o es,Z,S,Q,k,h=>h
 | .ix a b,Z,S,Q,k,h=>h
 | .sl a lo hi,Z,S,Q,k,h=>h
 | .tup es,Z,S,Q,k,h=>h
 | .lst es,Z,S,Q,k,h=>h
 | .neg a,Z,S,Q,k,h=>h
 | .dnew,Z,S,Q,k,h=>h
 | .disp es,Z,S,Q,k,h=>h
 | .ite t a b,Z,S,Q,k,h=>h
 | .comp elt tg it cs cap,Z,S,Q,k,h=>h
end
mutual
theorem EW:∀(s:Sm) {Z:Fm} {S:aa} {K:Fm->aa->Prop} {Q:QO},G7 s=true->wS M fuel s Z S K Q->Wp (fR M fuel s Z S) (r6 K Q)
 | .set i e,Z,S,K,Q,k,h=>CJ.mpr (aT e k h)
 | .asg is e,Z,S,K,Q,k,h=>CK.mpr ((aT e k h).mono λp hp=>let ⟨ws,e1,h1⟩:=EU hp; let ⟨Z',e2,h2⟩:=bL h1; #[ws,Z',e1,e2,h2])
 | .par i j es,Z,S,K,Q,k,h=>CL.mpr ((ga es k h).mono λp hp=>EV hp)
 | .put o i e,Z,S,K,Q,k,h=>CM.mpr ((aT e (dz k) h).mono λp hp=>(aT o (cj (cj k)) hp).mono λq hq=>(aT i (dz (cj k)) hq).mono λr hr=>bL hr)
 | .ex e,Z,S,K,Q,k,h=>EK.mpr (aT e k h)
 | .ret e,Z,S,K,Q,k,h=>CN.mpr (aT e k h)
 | .pass,Z,S,K,Q,k,h=>#[_,rfl,h]
 | .ite t a b,Z,S,K,Q,k,h=>CO.mpr ((hX t (cj (cj k)) h).mono λp hp=>by
   obtain⟨h1,h2⟩:=hp (r6 K Q) (λZ' S' z=>z) (λo S' hn z=>by cases o <;> first|exact z|exact absurd rfl (hn _))
   exact#[λz=>iK a (dz (cj k)) (h1 z),λz=>iK b (dz k) (h2 z)])
 | .whl t b,Z,S,K,Q,k,h=>h
 | .loop tg it b,Z,S,K,Q,k,h=>h
theorem iK:∀(ss:Ss) {Z:Fm} {S:aa} {Q:QO},hG ss=true->Ab M fuel ss Z S Q->Wp (fj M fuel ss Z S) Q
 | .nil,Z,S,Q,k,h=>EJ.mpr h
 | .cons s ss,Z,S,Q,k,h=>CI.mpr ((EW s (cj k) h).mono λp hp=>by
   obtain⟨o,S1⟩:=p;cases o with
   | nx Z'=>exact#[λZ2 e=>by cases e; exact iK ss (dz k) hp,λz=>absurd rfl (z Z')]
   | _=>exact#[λZ2 e=>(by cases e),λ_=>hp])
end
structure wZ (M:HY->FF)(fuel:HB)(ss:Ss)(Z:Fm)(S:aa)(Q:QO):Prop where
 out:Ab M fuel ss Z S Q
def EX {ss:Ss}{Z:Fm}{S:aa}{Q:QO}:Ab M fuel ss Z S Q=wZ M fuel ss Z S Q:=propext #[λh=>#[h],λh=>h.out]
def CS {defs:Hr (HY×Df)}{d:HB}{f:HY}{n:HB}{ws:Hr W}{df:Df}{S:aa}{Q:QW}(h:defs.lookup f=ba df)(hn:ws.length=n)(hl:ws.length=df.ps.length)(ok:hG df.body=true)
  (hb:∀Q':QO,(∀w S',Q (w,S')->Q' (.rt w,S'))->wZ (ah defs fuel d) fuel df.body (eF df.N ws) S Q'):wO (aL (ah defs fuel (d+1)) f n ws S) Q:=by
 unfold aL;rw[Ic hn];exact ET (t9 h hl ((iK _ ok (hb (λp=>match p.1 with|.rt w=>Q (w,p.2)|_=>Jt) λw S' q=>q).out).mono λp hp=>by
  obtain⟨o,S1⟩:=p;cases o <;> first|exact hp|exact hp.elim))
end
section
variable{M:HY->FF}{fuel:HB}{Z:Fm}{S:aa}{K:Fm->aa->Prop}{Q:QO}
abbrev yk (M:HY->FF)(fuel:HB)(b:Ss)(Z:Fm)(S:aa)(I:Fm->aa->Prop)(Q:QO):Prop:=∀Q':QO,(∀Z' S',I Z' S'->Q' (.nx Z',S'))->(∀w S',Q (.rt w,S')->Q' (.rt w,S'))->wZ M fuel b Z S Q'
def j3 {tg:Tg}{it:Ie}{b:Ss}{mi:MI}{S1:aa}{xs:Hr W}(I:HB->Fm->aa->Prop)(ok:hG b=true)(hi:kB M it Z S=ba (mi,S1))(hat:∀i Z S,I i Z S->mi.at S i=ba xs[i]?)(hl:mi.len S1=ba xs.length)(h0:I 0 Z S1)
  (hstep:∀(i:HB) (w:W) (Z:Fm) (S:aa),xs[i]?=ba w->I i Z S->wO (im tg w Z S) λq=>yk M fuel b q.1 q.2 (I (i+1)) Q) (hend:∀Z S,I xs.length Z S->K Z S):Wp (fR M fuel (.loop tg it b) Z S) (r6 K Q):=by
 rw[fR,EM];refine#[_,hi,xs.length,hl,?_];refine iJ (Q:=r6 K Q) I hat (λi w Z S h1 h2=>?_) (λZ S h=>hend Z S h) _ 0 Z S1 ∅ h0
 exact(bL (hstep i w Z S h1 h2)).mono λq hq=>iK b ok (wZ.out (hq _ (λ_ _ h=>h) λ_ _ h=>h))
def bT {e:E}{Q:QW}(ok:dG e=true)(h:wE M e Z S Q):∃w S',au M e Z S=ba (w,S')/\Q (w,S'):=let ⟨⟨w,S'⟩,a,b⟩:=aT e ok h; #[w,S',a,b]
def b6 {i0:HB}{e:E}{b:Ss}(j:HM)(I:HB->Fm->aa->Prop)(oe:dG e=true)(ok:hG b=true)(hj : -(2 ^ 62)<=j/\j < 2 ^ 62)(he:wE M e Z S λp=>p.1=.int j/\I 0 Z p.2)
  (hstep:∀(i:HB) (Z:Fm) (S:aa),(i:HM) < j->I i Z S->yk M fuel b (Z.set i0 (ba (.int i))) S (I (i+1)) Q) (hend:∀Z S,I j.toNat Z S->K Z S):Wp (fR M fuel (.loop (.nm i0) (.rng #v[e]) b) Z S) (r6 K Q):=by
 obtain⟨w,S1,e1,rfl,h0⟩:=bT oe he;have hl:(cg 0 j.toNat).length=j.toNat:=by simp[cg]
 refine j3 (mi:=.its (cg 0 j.toNat)) (S1:=S1) (xs:=cg 0 j.toNat) I ok ?_ (λ_ _ _ _=>rfl) rfl h0 (λi w Z S hw hI=>?_) λZ S hI=>hend Z S (hl ▸ hI)
 ·simp only[kB,cm,dO,i9,qt,e1];rw[Ic hj]
 ·rw[dw]at hw;split at hw
  ·rename_i hk;cases hw;rw[Ms];exact hstep i Z S ∅ hI
  ·cases hw
def Be {t:E}{b:Ss}(I:HB->Fm->aa->Prop)(m:HB)(ot:dG t=true)(ok:hG b=true)(hm:m < fuel)(h0:I m Z S)
  (hstep:∀m Z S,I m Z S->wT M t Z S λk=>(k.1=true->∃m',m=m'+1/\yk M fuel b Z k.2 (I m') Q)/\(k.1=false->K Z k.2)):Wp (fR M fuel (.whl t b) Z S) (r6 K Q):=by
 rw[fR];refine jY (Q:=r6 K Q) I (λm Z S hI=>(hX t ot (hstep m Z S hI)).mono λk hk=>#[λz=>?_,λz=>hk.2 z]) fuel m Z S hm h0
 obtain⟨m',e,h⟩:=hk.1 z;exact#[m',e,iK b ok (wZ.out (h _ (λ_ _ h=>h) λ_ _ h=>h))]
abbrev wC (M:HY->FF):Es->Fm->aa->QB->Prop
 | .nil,_,S,Q=>Q (true,S)
 | .cons e .nil,Z,S,Q=>wT M e Z S Q
 | .cons _ (.cons _ _),_,_,_=>Jt
def Bf {cs:Es}{Q:QB}(ok:mY cs=true)(h:wC M cs Z S Q):Wp (zX M cs Z S) Q:=by
 match cs,h,ok with
 | .nil,h,_=>exact EN.mpr h
 | .cons e .nil,h,ok=>exact EO.mpr (hX e (cj ok) h)
abbrev fK (M:HY->FF)(elt:E)(cs:Es)(Z:Fm)(S:aa)(G:W->Fm->aa->Prop)(N:Fm->aa->Prop):Prop:=wC M cs Z S λk=>(k.1=true->wE M elt Z k.2 λy=>G y.1 Z y.2)/\(k.1=false->N Z k.2)
def j4 {elt:E}{tg:Tg}{it:Ie}{cs:Es}{cap:Hr (HA HB)}{mi:MI}{S1:aa}{xs:Hr W}{Q:QW}(I:HB->Hr W->Fm->aa->Prop)(oe:dG elt=true)(oc:mY cs=true)(hi:kB M it Z S=ba (mi,S1))(hat:∀i ys Z S,I i ys Z S->mi.at S i=ba xs[i]?)(hl:mi.len S1=ba xs.length)(h0:I 0 [] (eE cap Z) S1)
  (hstep:∀(i:HB) (w:W) (ys:Hr W) (Z:Fm) (S:aa),xs[i]?=ba w->I i ys Z S->wO (im tg w Z S) λq=>fK M elt cs q.1 q.2 (λy=>I (i+1) (ys++[y])) (I (i+1) ys))
  (hend:∀ys Z S,I xs.length ys Z S->ys.length<=sizeLine/\Q (.ref S.length,S++[.lst ys])):Wp (au M (.comp elt tg it cs cap) Z S) Q:=by
 rw[w9];refine#[_,hi,xs.length,hl,?_];refine(c9 (xs:=xs) (Q:=λq=>q.1.length<=sizeLine/\Q (.ref q.2.length,q.2++[.lst q.1])) I hat (λi w ys Z S h1 h2=>?_) hend xs.length 0 [] _ S1 ∅ h0).mono λq hq=>by simpa using hq
 exact(bL (hstep i w ys Z S h1 h2)).mono λq hq=>(Bf oc hq).mono λk hk=>#[λz=>aT elt oe (hk.1 z),hk.2]
def da {elt e:E}{i0:HB}{cs:Es}{cap:Hr (HA HB)}{Q:QW}(j:HM)(I:HB->Hr W->Fm->aa->Prop)(oi:dG e=true)(oe:dG elt=true)(oc:mY cs=true)(hj : -(2 ^ 62)<=j/\j < 2 ^ 62)(he:wE M e Z S λp=>p.1=.int j/\I 0 [] (eE cap Z) p.2)
  (hstep:∀(i:HB) (ys:Hr W) (Z:Fm) (S:aa),(i:HM) < j->I i ys Z S->fK M elt cs (Z.set i0 (ba (.int i))) S (λy=>I (i+1) (ys++[y])) (I (i+1) ys))
  (hend:∀ys Z S,I j.toNat ys Z S->ys.length<=sizeLine/\Q (.ref S.length,S++[.lst ys])):Wp (au M (.comp elt (.nm i0) (.rng #v[e]) cs cap) Z S) Q:=by
 obtain⟨w,S1,e1,rfl,h0⟩:=bT oi he;have hl:(cg 0 j.toNat).length=j.toNat:=by simp[cg]
 refine j4 (mi:=.its (cg 0 j.toNat)) (S1:=S1) (xs:=cg 0 j.toNat) I oe oc ?_ (λ_ _ _ _ _=>rfl) rfl h0 (λi w ys Z S hw hI=>?_) λys Z S hI=>hend ys Z S (hl ▸ hI)
 ·simp only[kB,cm,dO,i9,qt,e1];rw[Ic hj]
 ·rw[dw]at hw;split at hw
  ·rename_i hk;cases hw;rw[Ms];exact hstep i ys Z S ∅ hI
  ·cases hw
def r8 {elt e:E}{tg:Tg}{cs:Es}{cap:Hr (HA HB)}{Q:QW}(xs:Hr W)(I:HB->Hr W->Fm->aa->Prop)(oi:dG e=true)(oe:dG elt=true)(oc:mY cs=true)(he:wE M e Z S λp=>p.1=.tup xs/\I 0 [] (eE cap Z) p.2)
  (hstep:∀(i:HB) (w:W) (ys:Hr W) (Z:Fm) (S:aa),xs[i]?=ba w->I i ys Z S->wO (im tg w Z S) λq=>fK M elt cs q.1 q.2 (λy=>I (i+1) (ys++[y])) (I (i+1) ys))
  (hend:∀ys Z S,I xs.length ys Z S->ys.length<=sizeLine/\Q (.ref S.length,S++[.lst ys])):Wp (au M (.comp elt tg (.seq e) cs cap) Z S) Q:=by
 obtain⟨w,S1,e1,rfl,h0⟩:=bT oi he;exact j4 (mi:=.its xs) (S1:=S1) I oe oc (by simp only[kB,eQ,e1]) (λ_ _ _ _ _=>rfl) rfl h0 hstep hend
def r9 {elt e:E}{tg:Tg}{cs:Es}{cap:Hr (HA HB)}{Q:QW}(t:HB)(xs:Hr W)(I:HB->Hr W->Fm->aa->Prop)(oi:dG e=true)(oe:dG elt=true)(oc:mY cs=true)(he:wE M e Z S λp=>p.1=.ref t/\I 0 [] (eE cap Z) p.2)(hat:∀i ys Z S,I i ys Z S->S[t]?=ba (.lst xs))
  (hstep:∀(i:HB) (w:W) (ys:Hr W) (Z:Fm) (S:aa),xs[i]?=ba w->I i ys Z S->wO (im tg w Z S) λq=>fK M elt cs q.1 q.2 (λy=>I (i+1) (ys++[y])) (I (i+1) ys))
  (hend:∀ys Z S,I xs.length ys Z S->ys.length<=sizeLine/\Q (.ref S.length,S++[.lst ys])):Wp (au M (.comp elt tg (.seq e) cs cap) Z S) Q:=by
 obtain⟨w,S1,e1,rfl,h0⟩:=bT oi he;exact j4 (mi:=.live t) (S1:=S1) I oe oc (by simp only[kB,eQ,e1,ar (hat _ _ _ _ h0)]) (λi ys Z S h=>by simp only[MI.at,ar (hat _ _ _ _ h)]) (by simp only[MI.len,ar (hat _ _ _ _ h0),IK]) h0 hstep hend
def st {s:Sm}{ss:Ss}(h:wS M fuel s Z S (λZ' S'=>wZ M fuel ss Z' S' Q) Q):wZ M fuel (.cons s ss) Z S Q:=#[by
 dsimp only[Ab];simp only[EX];exact h]
def bH (h:Q (.nx Z,S)):wZ M fuel .nil Z S Q:=#[h]
def aq {t:Il}{a b:Ss}{Q Q0:QO}{K:Fm->aa->Prop}(ha:t=true->∀Q':QO,(∀Z' S',K Z' S'->Q' (.nx Z',S'))->(∀w S',Q (.rt w,S')->Q' (.rt w,S'))->wZ M fuel a Z S Q')(hb:t=false->∀Q':QO,(∀Z' S',K Z' S'->Q' (.nx Z',S'))->(∀w S',Q (.rt w,S')->Q' (.rt w,S'))->wZ M fuel b Z S Q') :
  ∀Q':QO,(∀Z' S',K Z' S'->Q' (.nx Z',S'))->(∀o S',(∀Z',o≠.nx Z')->Q (o,S')->Q' (o,S'))->(t=true->Ab M fuel a Z S Q')/\(t=false->Ab M fuel b Z S Q'):=
 λQ' h1 h2=>#[λe=>(ha e Q' h1 λw S'=>h2 (.rt w) S' (λ_ z=>nomatch z)).out,λe=>(hb e Q' h1 λw S'=>h2 (.rt w) S' (λ_ z=>nomatch z)).out]
end
abbrev dA:Ss:=
 #v[.ret (.lst #v[.bi .list #v[.v 0],.c (.int 0),.c (.int 0),.c (.int 1),.c (.int 0)])]
abbrev bU:Ss:=
 #v[.ite (.and (.cmp .eq (.ix (.v 0) (.c (.int 2))) (.c (.int 0))) (.cmp .lt (.ix (.v 0) (.c (.int 1))) (.bi .len #v[.ix (.v 0) (.c (.int 0))]))) #v[.set 2 (.ix (.ix (.v 0) (.c (.int 0))) (.ix (.v 0) (.c (.int 1)))),.put (.v 0) (.c (.int 1)) (.op .add (.ix (.v 0) (.c (.int 1))) (.c (.int 1))),.ite (.cmp .ge (.v 2) (.op .pow (.c (.int 10)) (.c (.int 18)))) #v[.put (.v 0) (.c (.int 2)) (.v 2)] #v[.put (.v 0) (.c (.int 3)) (.op .mod (.op .add (.op .add (.op .mul (.ix (.v 0) (.c (.int 3))) (.c (.int 40013))) (.op .mod (.v 2) (.c (.int 1000003)))) (.c (.int 1))) (.c (.int 2147483647)))]] .nil,.ite (.cmp .gt (.ix (.v 0) (.c (.int 2))) (.c (.int 0))) #v[.set 3 (.op .mod (.ix (.v 0) (.c (.int 2))) (.v 1)),.put (.v 0) (.c (.int 2)) (.op .fdiv (.ix (.v 0) (.c (.int 2))) (.v 1)),.ret (.v 3)] .nil,.put (.v 0) (.c (.int 4)) (.op .add (.ix (.v 0) (.c (.int 4))) (.c (.int 1))),.put (.v 0) (.c (.int 3)) (.op .mod (.op .add (.op .add (.op .mul (.ix (.v 0) (.c (.int 3))) (.c (.int 48271))) (.c (.int 12820163))) (.ix (.v 0) (.c (.int 4)))) (.c (.int 2147483647))),.ret (.op .mod (.op .fdiv (.op .mod (.op .mul (.op .add (.op .mod (.ix (.v 0) (.c (.int 3))) (.c (.int 65521))) (.c (.int 1))) (.op .add (.op .fdiv (.ix (.v 0) (.c (.int 3))) (.c (.int 65521))) (.c (.int 7919)))) (.c (.int 1000003))) (.c (.int 7))) (.v 1))]
abbrev cC:Ss:=
 #v[.ret (.me .join (.c (.str "")) #v[.comp (.ix (.c (.str "abcdefghijklmnopqrstuvwxyz")) (.own "_law_pick" 2 #v[.v 2,.c (.int 26)])) (.nm 1) (.rng #v[.v 1]) .nil [gV,gV,ba 0]])]
abbrev eG:Ss:=
 #v[.ite (.cmp .ne (.v 1) (.c (.str ""))) #v[.ret (.op .add (.v 1) (.own "_law_letters" 2 #v[.v 0,.op .add (.c (.int 1)) (.own "_law_pick" 2 #v[.v 0,.c (.int 2)])]))] .nil,.ite (.cmp .eq (.own "_law_pick" 2 #v[.v 0,.c (.int 6)]) (.c (.int 0))) #v[.set 2 (.lst #v[.c (.str "markss"),.c (.str "mark"),.c (.str "way"),.c (.str "wayss"),.c (.str "bars"),.c (.str "ba"),.c (.str "somex")]),.set 2 (.op .add (.v 2) (.lst #v[.c (.str "eachx"),.c (.str "note"),.c (.str "no"),.c (.str "ands"),.c (.str "ors"),.c (.str "o"),.c (.str "iss")])),.ret (.ix (.v 2) (.own "_law_pick" 2 #v[.v 0,.c (.int 14)]))] .nil,.ret (.own "_law_letters" 2 #v[.v 0,.op .add (.c (.int 1)) (.own "_law_pick" 2 #v[.v 0,.c (.int 8)])])]
abbrev bW:Ss:=
 #v[.set 2 (.c (.str "")),.ite (.cmp .eq (.own "_law_pick" 2 #v[.v 0,.c (.int 3)]) (.c (.int 0))) #v[.set 2 (.own "_law_letters" 2 #v[.v 0,.op .add (.c (.int 1)) (.own "_law_pick" 2 #v[.v 0,.c (.int 6)])])] .nil,.set 3 (.lst #v[.c (.str "marks"),.c (.str "ways"),.c (.str "bar"),.c (.str "some"),.c (.str "each"),.c (.str "not"),.c (.str "and"),.c (.str "or"),.c (.str "is")]),.loop (.nm 4) (.rng #v[.v 1]) #v[.set 5 (.own "_law_name" 2 #v[.v 0,.v 2]),.set 6 (.c (.int 0)),.whl (.cmp .isin (.v 5) (.v 3)) #v[.set 5 (.op .mul (.ix (.c (.str "abcdefghijklmnopqrstuvwxyz")) (.op .mod (.v 6) (.c (.int 26)))) (.op .add (.c (.int 1)) (.op .fdiv (.v 6) (.c (.int 26))))),.set 6 (.op .add (.v 6) (.c (.int 1)))],.ex (.me .append (.v 3) #v[.v 5])],.ret (.bi .tuple #v[.sl (.v 3) (.yes (.c (.int 9))) .no])]
abbrev cD:Ss:=
 #v[.ite (.cmp .lt (.v 3) (.v 2)) #v[.ret (.ix (.ix (.ix (.v 1) (.v 2)) (.c (.int 1))) (.v 3))] .nil,.ret (.ix (.ix (.ix (.v 0) (.c (.int 1))) (.ix (.ix (.ix (.v 1) (.v 3)) (.c (.int 1))) (.v 2))) (.c (.int 1)))]
abbrev cx:Ss:=
 #v[.set 3 (.lst .nil),.loop (.nm 4) (.rng #v[.bi .len #v[.v 2]]) #v[.set 5 (.ix (.v 2) (.v 4)),.ex (.me .append (.v 3) #v[.tup #v[.ix (.ix (.v 1) (.v 5)) (.c (.int 0)),.bi .tuple #v[.comp (.own "_law_between" 4 #v[.v 3,.v 4,.v 2,.v 1]) (.nm 1) (.seq (.sl (.v 2) .no (.yes (.v 4)))) .nil [gV,gV,ba 5,ba 0,ba 1]]]])],.ret (.bi .tuple #v[.v 3])]
abbrev fq:Ss:=
 #v[.ret (.lst #v[.tup #v[.c (.int 0),.c (.int 1),.c (.int 2)],.tup #v[.c (.int 0),.c (.int 2),.c (.int 1)],.tup #v[.c (.int 1),.c (.int 0),.c (.int 2)],.tup #v[.c (.int 1),.c (.int 2),.c (.int 0)],.tup #v[.c (.int 2),.c (.int 0),.c (.int 1)],.tup #v[.c (.int 2),.c (.int 1),.c (.int 0)]])]
abbrev db:Ss:=
 #v[.ret (.bi .min #v[.comp (.own "_law_part" 3 #v[.v 2,.v 3,.v 1]) (.nm 1) (.seq (.own "_law_turns" 0 .nil)) .nil [gV,gV,ba 0,ba 1]])]
abbrev dP:Ss:=
 #v[.set 2 (.ix (.lst #v[.lst #v[.tup #v[.c (.int 0)]],.lst #v[.tup #v[.c (.int 0),.c (.int 1)],.tup #v[.c (.int 1),.c (.int 0)]],.lst #v[.tup #v[.c (.int 0),.c (.int 1),.c (.int 2)],.tup #v[.c (.int 1),.c (.int 0),.c (.int 2)],.tup #v[.c (.int 0),.c (.int 2),.c (.int 1)]]]) (.op .sub (.v 1) (.c (.int 1)))),.ret (.ix (.v 2) (.own "_law_pick" 2 #v[.v 0,.bi .len #v[.v 2]]))]
abbrev cF:Ss:=
 #v[.set 4 (.own "_law_names" 2 #v[.v 0,.op .add (.v 1) (.bi .len #v[.v 2])]),.set 5 (.bi .tuple #v[.comp (.tup #v[.ix (.v 4) (.op .add (.v 3) (.v 1)),.ix (.v 2) (.v 1)]) (.nm 1) (.rng #v[.bi .len #v[.v 2]]) .nil [gV,gV,ba 2,ba 1,ba 4]]),.ret (.tup #v[.sl (.v 4) .no (.yes (.v 1)),.v 5,.bi .tuple #v[.bi .sorted #v[.v 3]]])]
abbrev bE:Ss:=
 #v[.set 3 (.lst .nil),.loop (.nm 4) (.rng #v[.c (.int 3)]) #v[.ex (.me .append (.v 3) #v[.tup #v[.own "_law_pick" 2 #v[.v 0,.v 1],.bi .tuple #v[.comp (.own "_law_pick" 2 #v[.v 2,.v 3]) (.nm 1) (.rng #v[.v 4]) .nil [gV,gV,ba 0,ba 2]]]])],.ret (.bi .tuple #v[.v 3])]
abbrev dQ:Ss:=
 #v[.set 1 (.lst #v[.tup #v[.c (.int 1),.c (.int 1)],.tup #v[.c (.int 2),.c (.int 1)],.tup #v[.c (.int 3),.c (.int 1)],.tup #v[.c (.int 1),.c (.int 2)],.tup #v[.c (.int 1),.c (.int 2)],.tup #v[.c (.int 2),.c (.int 2)],.tup #v[.c (.int 2),.c (.int 2)],.tup #v[.c (.int 3),.c (.int 2)],.tup #v[.c (.int 1),.c (.int 3)],.tup #v[.c (.int 1),.c (.int 3)],.tup #v[.c (.int 2),.c (.int 3)]]),.ret (.ix (.v 1) (.own "_law_pick" 2 #v[.v 0,.c (.int 11)]))]
abbrev b7:Ss:=
 #v[.asg [1,2] (.own "_law_sizes" 1 #v[.v 0]),.set 3 (.own "_law_rule_of" 4 #v[.v 0,.v 1,.own "_law_backs" 2 #v[.v 0,.v 2],.tup .nil]),.set 4 .dnew,.loop (.nm 5) (.rng #v[.own "_law_pick" 2 #v[.v 0,.c (.int 9)]]) #v[.put (.v 4) (.own "_law_figure" 2 #v[.v 3,.own "_law_free_three" 3 #v[.v 0,.v 1,.v 2]]) (.c (.bl true))],.ret (.tup #v[.ix (.v 3) (.c (.int 0)),.ix (.v 3) (.c (.int 1)),.bi .tuple #v[.bi .sorted #v[.v 4]]])]
abbrev bv:Ss:=
 #v[.set 1 (.lst #v[.tup #v[.tup #v[.c (.int 1),.c (.int 0)],.disp #v[.tup #v[.c (.int 0),.c (.int 0)],.lst #v[.c (.int 0)]],.c (.int 3)],.tup #v[.tup #v[.c (.int 0),.c (.int 2),.c (.int 1)],.disp #v[.tup #v[.c (.int 1),.c (.int 1)],.lst #v[.c (.int 1)]],.c (.int 2)],.tup #v[.tup #v[.c (.int 0),.c (.int 1)],.disp #v[.tup #v[.c (.int 1),.c (.int 1)],.lst #v[.c (.int 1)]],.c (.int 3)]]),.ex (.me .append (.v 1) #v[.tup #v[.tup #v[.c (.int 0),.c (.int 1)],.disp #v[.tup #v[.c (.int 1),.c (.int 1)],.lst #v[.c (.int 1)],.tup #v[.c (.int 0),.c (.int 0)],.lst #v[.c (.int 1)]],.c (.int 3)]]),.ex (.me .append (.v 1) #v[.tup #v[.tup #v[.c (.int 0),.c (.int 1)],.disp #v[.tup #v[.c (.int 1),.c (.int 1)],.lst .nil],.c (.int 1)]]),.ex (.me .append (.v 1) #v[.tup #v[.tup #v[.c (.int 0),.c (.int 2),.c (.int 1)],.disp #v[.tup #v[.c (.int 0),.c (.int 0)],.lst #v[.c (.int 0)],.tup #v[.c (.int 0),.c (.int 1)],.lst #v[.c (.int 1)],.tup #v[.c (.int 1),.c (.int 0)],.lst #v[.c (.int 1)],.tup #v[.c (.int 1),.c (.int 1)],.lst #v[.c (.int 1)]],.c (.int 2)]]),.ex (.me .append (.v 1) #v[.tup #v[.tup #v[.c (.int 1),.c (.int 0)],.dnew,.c (.int 3)]]),.ex (.me .append (.v 1) #v[.tup #v[.tup #v[.c (.int 0),.c (.int 1),.c (.int 2)],.disp #v[.tup #v[.c (.int 2),.c (.int 2)],.lst #v[.c (.int 2)],.tup #v[.c (.int 1),.c (.int 2)],.lst #v[.c (.int 1)],.tup #v[.c (.int 2),.c (.int 1)],.lst #v[.c (.int 1)],.tup #v[.c (.int 1),.c (.int 1)],.lst #v[.c (.int 1),.c (.int 2)]],.c (.int 2)]]),.ex (.me .append (.v 1) #v[.tup #v[.tup #v[.c (.int 0),.c (.int 1),.c (.int 2)],.disp #v[.tup #v[.c (.int 0),.c (.int 0)],.lst #v[.c (.int 0),.c (.int 1)]],.c (.int 2)]]),.ret (.ix (.v 1) (.own "_law_pick" 2 #v[.v 0,.c (.int 9)]))]
abbrev dc:Ss:=
 #v[.set 5 (.disp #v[.tup #v[.c (.int 1),.c (.int 0)],.v 2,.tup #v[.c (.int 2),.c (.int 0)],.v 3,.tup #v[.c (.int 2),.c (.int 1)],.v 4]),.loop (.nm 6) (.seq (.bi .list #v[.v 5])) #v[.put (.v 5) (.tup #v[.ix (.v 6) (.c (.int 1)),.ix (.v 6) (.c (.int 0))]) (.ix (.v 0) (.ix (.v 5) (.v 6)))],.loop (.tp [7,8,9]) (.seq (.own "_law_turns" 0 .nil)) #v[.ite (.cmp .notin (.ix (.v 5) (.tup #v[.v 7,.v 9])) (.me .get (.v 1) #v[.tup #v[.ix (.v 5) (.tup #v[.v 7,.v 8]),.ix (.v 5) (.tup #v[.v 8,.v 9])],.lst #v[.ix (.v 5) (.tup #v[.v 7,.v 9])]])) #v[.ret (.c (.bl true))] .nil],.ret (.c (.bl false))]
abbrev aU:Ss:=
 #v[.set 3 (.bi .len #v[.v 1]),.set 4 (.lst #v[.lst #v[.tup #v[.c (.int 0)]],.lst #v[.tup #v[.c (.int 0),.c (.int 1)],.tup #v[.c (.int 1),.c (.int 0)]]]),.ex (.me .append (.v 4) #v[.lst #v[.tup #v[.c (.int 0),.c (.int 1),.c (.int 2)],.tup #v[.c (.int 0),.c (.int 2),.c (.int 1)],.tup #v[.c (.int 2),.c (.int 0),.c (.int 1)],.tup #v[.c (.int 2),.c (.int 1),.c (.int 0)]]]),.set 5 (.ix (.v 4) (.op .sub (.v 3) (.c (.int 1)))),.ite (.cmp .eq (.v 1) (.tup #v[.c (.int 0),.c (.int 1),.c (.int 2)])) #v[.set 5 (.own "_law_turns" 0 .nil)] .nil,.set 6 (.ix (.v 5) (.own "_law_pick" 2 #v[.v 0,.bi .len #v[.v 5]])),.set 7 (.op .mul (.lst #v[.c (.int 0)]) (.v 3)),.loop (.nm 8) (.rng #v[.v 3]) #v[.put (.v 7) (.ix (.v 6) (.v 8)) (.ix (.v 6) (.ix (.v 1) (.v 8)))],.set 9 .dnew,.loop (.tp [10,11]) (.seq (.v 2)) #v[.put (.v 9) (.tup #v[.ix (.v 6) (.v 10),.ix (.v 6) (.v 11)]) (.comp (.ix (.v 2) (.v 1)) (.nm 1) (.seq (.ix (.v 2) (.tup #v[.v 10,.v 11]))) .nil [gV,gV,ba 6])],.ret (.tup #v[.bi .tuple #v[.v 7],.v 9])]
abbrev bw:Ss:=
 #v[.set 1 (.own "_law_pick" 2 #v[.v 0,.c (.int 7)]),.ite (.cmp .eq (.v 1) (.c (.int 0))) #v[.ret (.own "_law_free_rule" 1 #v[.v 0])] .nil,.ite (.cmp .eq (.v 1) (.c (.int 1))) #v[.ret (.own "_law_one_way_rule" 1 #v[.v 0])] .nil,.asg [2,3,4] (.own "_law_laying_kind" 1 #v[.v 0]),.set 5 (.op .add (.c (.int 1)) (.own "_law_pick" 2 #v[.v 0,.v 4])),.asg [2,3] (.own "_law_numbered" 3 #v[.v 0,.v 2,.v 3]),.set 6 (.own "_law_rule_of" 4 #v[.v 0,.v 5,.v 2,.tup .nil]),.set 7 .dnew,.set 8 (.bi .len #v[.v 2]),.loop (.nm 9) (.rng #v[.op .mul (.op .mul (.v 8) (.v 8)) (.v 8)]) #v[.par 10 11 #v[.op .mod (.v 9) (.v 8),.op .mod (.op .fdiv (.v 9) (.v 8)) (.v 8)],.set 12 (.op .fdiv (.op .fdiv (.v 9) (.v 8)) (.v 8)),.ite (.own "_law_breaks" 5 #v[.v 2,.v 3,.v 10,.v 11,.v 12]) #v[.loop (.nm 13) (.seq (.own "_law_rising" 1 #v[.v 5])) #v[.set 14 (.tup #v[.tup #v[.ix (.v 13) (.c (.int 0)),.tup .nil],.tup #v[.ix (.v 13) (.c (.int 1)),.tup #v[.v 10]]]),.put (.v 7) (.own "_law_figure" 2 #v[.v 6,.op .add (.v 14) (.tup #v[.tup #v[.ix (.v 13) (.c (.int 2)),.tup #v[.v 11,.v 12]]])]) (.c (.bl true))]] .nil],.ret (.tup #v[.ix (.v 6) (.c (.int 0)),.ix (.v 6) (.c (.int 1)),.bi .tuple #v[.bi .sorted #v[.v 7]]])]
abbrev de:Ss:=
 #v[.set 1 (.lst .nil),.loop (.nm 2) (.rng #v[.v 0]) #v[.loop (.nm 3) (.rng2 #v[.v 2,.v 0]) #v[.set 1 (.op .add (.v 1) (.comp (.tup #v[.v 2,.v 3,.v 1]) (.nm 1) (.rng2 #v[.v 3,.v 0]) .nil [gV,gV,ba 2,ba 3]))]],.ret (.v 1)]
abbrev bP:Ss:=
 #v[.asg [1,2] (.own "_law_sizes" 1 #v[.v 0]),.set 3 (.own "_law_rule_of" 4 #v[.v 0,.v 1,.own "_law_backs" 2 #v[.v 0,.v 2],.tup .nil]),.set 5 (.comp (.v 1) (.nm 1) (.rng #v[.v 2]) #v[.cmp .eq (.ix (.ix (.ix (.v 2) (.c (.int 1))) (.v 1)) (.c (.int 1))) (.v 1)] [gV,gV,ba 3]),.ite (.or (.cmp .eq (.v 5) (.lst .nil)) (.cmp .eq (.v 2) (.c (.int 1)))) #v[.ret (.v 3)] .nil,.set 6 (.ix (.v 5) (.own "_law_pick" 2 #v[.v 0,.bi .len #v[.v 5]])),.set 7 .dnew,.loop (.nm 4) (.rng #v[.own "_law_pick" 2 #v[.v 0,.c (.int 9)]]) #v[.set 8 (.own "_law_free_three" 3 #v[.v 0,.v 1,.v 2]),.ite (.and (.cmp .ne (.ix (.ix (.ix (.v 8) (.c (.int 1))) (.c (.int 1))) (.c (.int 0))) (.v 6)) (.cmp .notin (.v 6) (.ix (.ix (.v 8) (.c (.int 2))) (.c (.int 1))))) #v[.put (.v 7) (.own "_law_figure" 2 #v[.v 3,.v 8]) (.c (.bl true))] .nil],.ret (.tup #v[.ix (.v 3) (.c (.int 0)),.ix (.v 3) (.c (.int 1)),.bi .tuple #v[.bi .sorted #v[.v 7]]])]
abbrev bn:Ss:=
 #v[.set 1 (.op .add (.c (.int 1)) (.own "_law_pick" 2 #v[.v 0,.c (.int 3)])),.set 2 (.comp (.tup #v[.tup #v[.v 1,.tup .nil],.tup #v[.v 1,.tup #v[.c (.int 0)]],.tup #v[.v 1,.tup #v[.c (.int 0),.c (.int 0)]]]) (.nm 1) (.rng #v[.v 1]) #v[.cmp .eq (.own "_law_pick" 2 #v[.v 2,.c (.int 2)]) (.c (.int 0))] [gV,gV,ba 0]),.ret (.own "_law_rule_of" 4 #v[.v 0,.v 1,.tup #v[.c (.int 0)],.v 2])]
abbrev bp:Ss:=
 #v[.set 3 (.lst .nil),.loop (.nm 4) (.rng #v[.v 2]) #v[.set 5 (.own "_law_pick" 2 #v[.v 0,.bi .len #v[.ix (.v 1) (.c (.int 0))]]),.ex (.me .append (.v 3) #v[.tup #v[.v 5,.bi .tuple #v[.comp (.own "_law_pick" 2 #v[.v 2,.bi .len #v[.ix (.v 3) (.c (.int 1))]]) (.nm 1) (.rng #v[.v 4]) .nil [gV,gV,ba 0,ba 1]]]])],.ret (.bi .tuple #v[.v 3])]
abbrev bz:Ss:=
 #v[.ite (.cmp .is (.v 1) (.c .non)) #v[.ret (.cmp .is (.v 0) (.c .non))] .nil,.ite (.or (.isi "bool" (.v 1)) (.isi "bool" (.v 0))) #v[.ret (.and (.isi "bool" (.v 1)) (.and (.isi "bool" (.v 0)) (.cmp .eq (.v 0) (.v 1))))] .nil,.ite (.isi "int" (.v 1)) #v[.ret (.and (.isi "int" (.v 0)) (.cmp .eq (.v 0) (.v 1)))] .nil,.ite (.isi "str" (.v 1)) #v[.ret (.and (.isi "str" (.v 0)) (.cmp .eq (.v 0) (.v 1)))] .nil,.ite (.or (.cmp .ne (.isi "tuple" (.v 1)) (.isi "tuple" (.v 0))) (.cmp .ne (.isi "list" (.v 1)) (.isi "list" (.v 0)))) #v[.ret (.c (.bl false))] .nil,.ret (.and (.cmp .eq (.bi .len #v[.v 0]) (.bi .len #v[.v 1])) (.bi .all #v[.comp (.own "_law_alike" 2 #v[.ix (.v 3) (.v 1),.ix (.v 2) (.v 1)]) (.nm 1) (.rng #v[.bi .len #v[.v 1]]) .nil [gV,gV,ba 1,ba 0]]))]
abbrev Is (defs:Hr (HY×Df))(f:HY)(np nn:HB)(b:Ss):Prop:=∃df:Df,defs.lookup f=ba df/\df.ps.length=np/\df.N.length=nn/\df.body=b
def aw {defs:Hr (HY×Df)}{fuel d:HB}{f:HY}{np nn:HB}{b:Ss}{ws:Hr W}{S:aa}{Q:QW}(h:Is defs f np nn b)(hl:ws.length=np)(ok:hG b=true)
  (hb:∀Q':QO,(∀w S',Q (w,S')->Q' (.rt w,S'))->wZ (ah defs fuel d) fuel b (ws.map ba++II (nn - np) gV) S Q'):wO (aL (ah defs fuel (d+1)) f np ws S) Q:=by
 obtain⟨df,h1,h2,h3,h4⟩:=h;subst h4;refine CS h1 hl (hl.trans h2.symm) ok λQ' hR=>?_
 have:=hb Q' hR;unfold eF;rw[h3,hl];exact this
structure Gen (defs:Hr (HY×Df)):Prop where
 pick:Is defs ("_law_pick" : HY) 2 4 bU
 letters:Is defs ("_law_letters" : HY) 2 2 cC
 name:Is defs ("_law_name" : HY) 2 3 eG
 names:Is defs ("_law_names" : HY) 2 7 bW
 between:Is defs ("_law_between" : HY) 4 4 cD
 part:Is defs ("_law_part" : HY) 3 6 cx
 turns:Is defs ("_law_turns" : HY) 0 0 fq
 figure:Is defs ("_law_figure" : HY) 2 2 db
 backs:Is defs ("_law_backs" : HY) 2 3 dP
 rule_of:Is defs ("_law_rule_of" : HY) 4 6 cF
 free_three:Is defs ("_law_free_three" : HY) 3 5 bE
 sizes:Is defs ("_law_sizes" : HY) 1 2 dQ
 any_rule:Is defs ("_law_any_rule" : HY) 1 6 b7
 laying_kind:Is defs ("_law_laying_kind" : HY) 1 2 bv
 breaks:Is defs ("_law_breaks" : HY) 5 10 dc
 numbered:Is defs ("_law_numbered" : HY) 3 12 aU
 laying_rule:Is defs ("_law_laying_rule" : HY) 1 15 bw
 rising:Is defs ("_law_rising" : HY) 1 4 de
 free_rule:Is defs ("_law_free_rule" : HY) 1 9 bP
 one_way_rule:Is defs ("_law_one_way_rule" : HY) 1 3 bn
structure FlA (S:aa)(r q:HB)(ns:Hr HM)(i c x n:HM):Prop where
 at_r:S[r]?=ba (.lst [.ref q,.int i,.int c,.int x,.int n])
 at_q:S[q]?=ba (.lst (ns.map W.int))
 lt:q < r
 i0:0<=i
 c0:0<=c
 x0:0<=x
 x1:x < 2147483647
def FlA.ne {S:aa}{r q:HB}{ns:Hr HM}{i c x n:HM}(h:FlA S r q ns i c x n):q≠r:=HV h.lt
abbrev Fl (S:aa)(r:HB):Prop:=∃(q:HB) (ns:Hr HM) (i c x n:HM),FlA S r q ns i c x n
def FlA.put {S:aa}{r q:HB}{ns:Hr HM}{i c x n i' c' x' n':HM}(h:FlA S r q ns i c x n)(h1:0<=i')(h2:0<=c')(h3:0<=x')(h4:x' < 2147483647):FlA (S.set r (.lst [.ref q,.int i',.int c',.int x',.int n'])) r q ns i' c' x' n':=
 #[bm h.at_r,by rw[bu (Ne.symm h.ne)]; exact h.at_q,h.lt,h1,h2,h3,h4]
def Fl.keep {S S':aa}{r:HB}(h:Fl S r)(h1:S'[r]?=S[r]?)(k:Kp r S S'):Fl S' r:=
 let ⟨q,ns,i,c,x,n,f⟩:=h; #[q,ns,i,c,x,n,by rw[h1]; exact f.at_r,k.get _ _ f.ne f.at_q,f.lt,f.i0,f.c0,f.x0,f.x1]
def Fl.lt {S:aa}{r:HB}(h:Fl S r):r < S.length:=let ⟨_,_,_,_,_,_,f⟩:=h; cq f.at_r
structure Ka (S S':aa):Prop where
 get:∀(j:HB) (o:O),S[j]?=ba o->S'[j]?=ba o
 len:S.length<=S'.length
def Ka.refl {S:aa}:Ka S S:=#[λ_ _ h=>h,HE _]
def Ka.trans {S S' S'':aa}(a:Ka S S')(b:Ka S' S''):Ka S S'':=#[λj o h=>b.get j o (a.get j o h),ID a.len b.len]
def Ka.push {S:aa}{o:O}:Ka S (S++[o]):=#[λj u h=>ak h,by simp]
def Ka.late {t:HB}{S0 S:aa}{o:O}(a:Ka S0 S)(h:S0.length<=t):Ka S0 (S.set t o):=
 #[λj u e=>by have:=cq e; rw[bu ∅]; exact a.get j u e,by simpa using a.len]
def Ka.kp {S S':aa}(a:Ka S S')(r:HB):Kp r S S':=#[λj o _ h=>a.get j o h,a.len]
def Fl.ka {S S':aa}{r:HB}(h:Fl S r)(k:Ka S S'):Fl S' r:=h.keep (by obtain⟨q,ns,i,c,x,n,f⟩:=h; rw[k.get _ _ f.at_r,f.at_r]) (k.kp r)
def Fl.own {S:aa}{r t:HB}{o:O}(h:Fl S r)(ht:r < t):Fl (S.set t o) r:=by
 obtain⟨q,ns,i,c,x,n,f⟩:=h;have:=f.lt;exact#[q,ns,i,c,x,n,by rw[bu ∅]; exact f.at_r,by rw[bu ∅]; exact f.at_q,f.lt,f.i0,f.c0,f.x0,f.x1]
def dB {S:aa}{r:HB}{xs:Hr W}{i:HB}{w:W}{Q:QW}(h:S[r]?=ba (.lst xs))(hw:xs[i]?=ba w)(q:Q (w,S)):wO (mX (.ref r) (.int (i:HM)) S) Q:=ae (xg h (Ip i) (by rw[HU]; exact hw)) q
def lw {S:aa}{r:HB}{xs:Hr W}{i:HB}{w:W}{Q:aa->Prop}(h:S[r]?=ba (.lst xs))(hi:RE (i+1) xs.length=true)(q:Q (S.set r (.lst (xs.set i w)))):wO (gT (.ref r) (.int (i:HM)) w S) Q:=ae (Ba h (Ip i) (by rw[HU]; exact LZ hi)) (by rw[HU]; exact q)
section
variable{defs:Hr (HY×Df)}{fuel d:HB}{S:aa}{r:HB}{Q:QW}
def aJ (hd:Is defs ("_law_pick" : HY) 2 4 bU){m:HM}(hf:Fl S r)(h0:0 < m)(h1:m < 1073741824)(k:∀v S',0<=v->v < m->Fl S' r->Kp r S S'->Q (.int v,S')) :
  wO (aL (ah defs fuel (d+1)) "_law_pick" 2 [.ref r,.int m] S) Q:=by
 obtain⟨q,ns,i,c,x,n,f⟩:=hf;refine aw hd rfl rfl λQ' hR=>?_
 replace k:∀v S',0<=v->v < m->Fl S' r->Kp r S S'->Q' (.rt (.int v),S'):=λv S' a b c e=>hR _ _ (k v S' a b c e)
 clear hR;show wZ _ _ bU [ba (.ref r),ba (.int m),gV,gV] S Q';have be:∀(S1:aa) (w2:HA W) (i1 c1 x1 n1:HM),FlA S1 r q ns i1 c1 x1 n1->Kp r S S1->wZ (ah defs fuel d) fuel (match bU with|.cons _ ss=>ss|.nil=>.nil) [ba (.ref r),ba (.int m),w2,gV] S1 Q':=by
  intro S1 w2 i1 c1 x1 n1 f1 k1;dsimp only[bU];refine st ?_;dsimp only[wS,wT,wE,wV,wG];refine dB (i:=2) f1.at_r rfl ?_;dsimp only[uc,wO,wB];refine aq (Q0:=Q') (λhg Q2 hn hr=>?_) (λhg Q2 hn hr=>?_)
  ·clear hn;refine st ?_;dsimp only[wS,wE,wV,wG];refine dB (i:=2) f1.at_r rfl (ae (g9 h0) ?_);refine st ?_;dsimp only[wS,wE,wV,wG,HN];refine dB (i:=2) f1.at_r rfl (ae (gE h0 h1) (lw (i:=2) f1.at_r rfl ?_));refine st ?_;dsimp only[wS,wE,wV,wG,HN];exact hr _ _ (k _ _ (KF _ ∅) (Kw _ h0) #[q,ns,i1,c1 / m,x1,n1,f1.put f1.i0 (Mj f1.c0 ∅) f1.x0 f1.x1] (k1.trans .set))
  ·refine bH (hn _ _ ?_);clear hn hr;have f2:FlA (S1.set r (.lst [.ref q,.int i1,.int c1,.int x1,.int (n1+1)])) r q ns i1 c1 x1 (n1+1):=f1.put f1.i0 f1.c0 f1.x0 f1.x1;refine st ?_;dsimp only[wS,wE,wV,wG];refine dB (i:=4) f1.at_r rfl ?_;dsimp only[cp,wO];refine lw (i:=4) f1.at_r rfl ?_;refine st ?_;dsimp only[wS,wE,wV,wG,HN];refine dB (i:=3) f2.at_r rfl (ae (oN #v[] #v[]) ?_)
   dsimp only[cp,wO];refine dB (i:=4) f2.at_r rfl ?_;dsimp only[cp,wO];refine(lw (i:=3) f2.at_r rfl ?_);have f3:FlA ((S1.set r (.lst [.ref q,.int i1,.int c1,.int x1,.int (n1+1)])).set r (.lst [.ref q,.int i1,.int c1,.int ((x1*48271+12820163+(n1+1)) % 2147483647),.int (n1+1)])) r q ns i1 c1 ((x1*48271+12820163+(n1+1)) % 2147483647) (n1+1):=f2.put f1.i0 f1.c0 (KF _ #v[]) (Kw _ #v[])
   dsimp only[HN];generalize(x1*48271+12820163+(n1+1)) % 2147483647=y at f3 ⊢;have b1:y / 65521+7919 < 2 ^ 64:=by
    have:=f3.x1;have:=Int.ediv_le_self 65521 f3.x0;omega
   have b2 : -(2 ^ 64) < y / 65521+7919:=by
    have:=Mj f3.x0 (show(0:HM)<=65521 by decide)
    omega
   refine st ?_;dsimp only[wS,wE,wV,wG,HN];refine dB (i:=3) f3.at_r rfl (ae (g9 #v[]) ?_)
   dsimp only[cp,wO];refine dB (i:=3) f3.at_r rfl ?_;dsimp only[cp,wO];refine ae (oN b2 b1) ?_;refine ae (g9 h0) ?_;exact k _ _ (KF _ ∅) (Kw _ h0) #[q,ns,_,_,_,_,f3] (k1.trans (Kp.set.trans .set))
 dsimp only[bU]at be ⊢;refine st ?_;dsimp only[wS,wT,wE,wV,wG,wA];refine dB (i:=2) f.at_r rfl ?_;dsimp only[gF,wO,wB];have skip:∀Q2:QO,(∀Z' S',wZ (ah defs fuel d) fuel _ Z' S' Q'->Q2 (.nx Z',S'))->Q2 (.nx [ba (.ref r),ba (.int m),gV,gV],S):=λQ2 hn=>hn _ _ (be S gV i c x n f .refl)
 refine#[λ_=>?_,λ_ Q2 hn hr=>#[λz=>(by cases z),λ_=>(bH (skip Q2 hn)).out]]
 refine dB (i:=1) f.at_r rfl (dB (i:=0) f.at_r rfl (ae (Bb f.at_q) ?_));dsimp only[z8,wO,wB];refine aq (Q0:=Q') (λhl Q2 hn _=>?_) (λhg Q2 hn hr=>bH (skip Q2 hn))
 clear skip;have hl':i.toNat < ns.length:=by
  have:=IQ hl;rw[Hv]at this;have:=f.i0;omega
 have hcell:(ns.map W.int)[i.toNat]?=ba (.int ns[i.toNat]):=by simp[hl']
 generalize ns[i.toNat]=cell at hcell;have f1:FlA (S.set r (.lst [.ref q,.int (i+1),.int c,.int x,.int n])) r q ns (i+1) c x n:=f.put (by have:=f.i0; omega) f.c0 f.x0 f.x1
 refine st ?_;dsimp only[wS,wE,wV,wG];refine dB (i:=0) f.at_r rfl (dB (i:=1) f.at_r rfl (ae (xg f.at_q f.i0 hcell) ?_));refine st ?_;dsimp only[wS,wE,wV,wG,HN];refine dB (i:=1) f.at_r rfl ?_;dsimp only[cp,wO];refine lw (i:=1) f.at_r rfl ?_;refine st ?_;dsimp only[wS,wT,wE,wV,wG,CP,Gv,wO,wB];refine aq (Q0:=Q') (λhg Q3 hn3 _=>?_) (λhg Q3 hn3 _=>?_)
 ·refine st ?_;dsimp only[wS,wE,wV,wG];refine lw (i:=2) f1.at_r rfl (bH (hn3 _ _ (bH (hn _ _ ?_))));exact be _ _ (i+1) cell x n (f1.put f1.i0 (by have:=IQ hg; omega) f.x0 f.x1) (Kp.set.trans .set)
 ·refine st ?_;dsimp only[wS,wE,wV,wG];refine dB (i:=3) f1.at_r rfl (ae (oN #v[] #v[]) (ae (g9 #v[]) ?_))
  dsimp only[cp,wO];refine lw (i:=3) f1.at_r rfl (bH (hn3 _ _ (bH (hn _ _ ?_))));exact be _ _ (i+1) c _ n (f1.put f1.i0 f.c0 (KF _ #v[]) (Kw _ #v[])) (Kp.set.trans .set)
end
abbrev dr:HB->Ss->Ss
 | 0,ss=>ss
 | n+1,.cons _ ss=>dr n ss
 | _,.nil=>.nil
def aH {α:Type}{a:α}{Q:α->Prop}:wO (ba a) Q=Q a:=rfl
def aC {M:HY->FF}{fuel:HB}{Z:Fm}{S:aa}{Q:QO}{s:Sm}{ss:Ss}(h:∀K:Fm->aa->Prop,(∀Z' S',wZ M fuel ss Z' S' Q->K Z' S')->wS M fuel s Z S K Q):wZ M fuel (.cons s ss) Z S Q:=st (h _ λ_ _ h=>h)
def EY {M:HY->FF}{fuel:HB}{Z:Fm}{S:aa}{i:HB}{e:E}{K:Fm->aa->Prop}{Q:QO}(h:wE M e Z S λp=>K (Z.set i (ba p.1)) p.2):wS M fuel (.set i e) Z S K Q:=h
def hZ {n:HB}(h:RE n 1000=true):n<=sizeLine:=ID (LZ h) (by rw[IX]; decide)
def jb {n:HB}(h:n<=1000):n<=sizeLine:=ID h (by rw[IX]; decide)
def gf {S:aa}{r:HB}{xs:Hr W}{i:HM}{w:W}{Q:QW}(h:S[r]?=ba (.lst xs))(h0:0<=i)(hw:xs[i.toNat]?=ba w)(q:Q (w,S)):wO (mX (.ref r) (.int i) S) Q:=ae (xg h h0 hw) q
def aj {S:aa}{xs:Hr W}{i:HM}{w:W}{Q:QW}(h0:0<=i)(hw:xs[i.toNat]?=ba w)(q:Q (w,S)):wO (mX (.tup xs) (.int i) S) Q:=ae (ER h0 hw) q
def i5 {S:aa}{r:HB}{xs:Hr W}{y:W}{Q:QW}(h:S[r]?=ba (.lst xs))(hl:xs.length < 1000)(q:Q (.non,S.set r (.lst (xs++[y])))):wO (Me.append.fn (.ref r) [y] S) Q:=ae (xh h (Iu hl (hZ rfl))) q
def dR {S:aa}{r:HB}{xs:Hr W}{Q:QW}(h:S[r]?=ba (.lst xs))(q:Q (.int xs.length,S)):wO (Bi.len.fn [.ref r] S) Q:=ae (Bb h) q
def aS {S:aa}{xs:Hr W}{Q:QW}(q:Q (.int xs.length,S)):wO (Bi.len.fn [.tup xs] S) Q:=q
def cQ {S:aa}{r:HB}{xs:Hr W}{Q:QW}(h:S[r]?=ba (.lst xs))(q:Q (.tup xs,S)):wO (Bi.tuple.fn [.ref r] S) Q:=ae (ES h) q
section
variable{M:HY->FF}{fuel:HB}{Z:Fm}{S S1:aa}{K:Fm->aa->Prop}
def cr {t:E}{a:Ss}{Q:QO}(ht:∀Q:QB,Q (false,S1)->wT M t Z S Q)(h:K Z S1):wS M fuel (.ite t a .nil) Z S K Q:=by
 dsimp only[wS];exact ht _ λQ' h1 h2=>#[λz=>(by cases z),λ_=>(bH (h1 _ _ h)).out]
def j5 {t:E}{a b:Ss}{Q:QO}(ht:∀Q:QB,Q (true,S1)->wT M t Z S Q)(h:∀Q':QO,(∀Z' S',K Z' S'->Q' (.nx Z',S'))->(∀w S',Q (.rt w,S')->Q' (.rt w,S'))->wZ M fuel a Z S1 Q'):wS M fuel (.ite t a b) Z S K Q:=by
 dsimp only[wS];exact ht _ λQ' h1 h2=>#[λ_=>(h Q' h1 λw S' q=>h2 (.rt w) S' (λ_ z=>nomatch z) q).out,λz=>(by cases z)]
end
def xk:∀k:Fin 26,("abcdefghijklmnopqrstuvwxyz" : HY).cps.toList[k.val]?=ba (97+k.val):=by decide
def sa:("abcdefghijklmnopqrstuvwxyz" : HY).length<=sizeLine:=by decide
def j6:∀cs:Hr HB,iy (cs.map λc=>W.str #[[c].toArray])=ba (cs.map λc=>(#[[c].toArray] : HY))
 | []=>rfl
 | c::cs=>by simp[iy,j6 cs]
def lx:∀cs:Hr HB,((cs.map λc=>(#[[c].toArray] : HY)).map (·.length)).sum=cs.length
 | []=>rfl
 | c::cs=>by
  have:=lx cs;simp only[IZ,List.sum_cons,IW];rw[this];show 1+cs.length=_;omega
def eH (a b:HY):(a++b).cps.toList=a.cps.toList++b.cps.toList:=Mn
def j7:∀cs:Hr HB,(Rx "" (cs.map λc=>(#[[c].toArray] : HY))).cps.toList=cs
 | []=>rfl
 | [c]=>rfl
 | c::d::cs=>by
  have ih:=j7 (d::cs);show(((#[[c].toArray] : HY)++("" : HY)++Rx "" ((d::cs).map λc=>(#[[c].toArray] : HY))).cps).toList=_
  rw[eH,eH,ih];rfl
def oO (cs:Hr HB):(QK "" (cs.map λc=>(#[[c].toArray] : HY))).cps.toList=cs:=by
 show(Rg "" _).cps.toList=_;rw[StrLaws.glued_eq_join];exact j7 cs
abbrev sd (y:HY):Prop:=∀c∈y.cps.toList,97<=c/\c<=122
abbrev Name (y:HY):Prop:=1<=y.cps.toList.length/\y.cps.toList.length<=8/\sd y
def sf (y:HY):y.length=y.cps.toList.length:=by simp[Q6]
abbrev xl:Hr HY:=["markss","mark","way","wayss","bars","ba","somex","eachx","note","no","ands","ors","o","iss"]
def ud:∀y∈xl,Name y:=by
 have h:xl.all (λy=>decide (1<=y.cps.toList.length/\y.cps.toList.length<=8)&&y.cps.toList.all λc=>decide (97<=c/\c<=122))=true:=by decide
 intro y hy;have:=Ig.mp h y hy;rw[Hz]at this;obtain⟨a,b⟩:=this;exact#[(IQ a).1,(IQ a).2,λc hc=>IQ (Ig.mp b c hc)]
def j8 {α:Type}{f:α->W}{xs:Hr α}{i:HB}(h:i < xs.length):∃x∈xs,(xs.map f)[i]?=ba (f x):=#[xs[i],IC _,by rw[HF,HC h]; rfl]
section
variable{defs:Hr (HY×Df)}{fuel d:HB}{S:aa}{r:HB}{Q:QW}
def iL (G:Gen defs){m:HM}(hf:Fl S r)(h0:0<=m)(h1:m<=1000)(k:∀y S',y.cps.toList.length=m.toNat->sd y->Fl S' r->Kp r S S'->Q (.str y,S')) :
  wO (aL (ah defs fuel (d+2)) "_law_letters" 2 [.ref r,.int m] S) Q:=by
 refine aw G.letters rfl rfl λQ' hR=>?_
 show wZ _ _ cC [ba (.ref r),ba (.int m)] S Q';dsimp only[cC];refine st ?_;dsimp only[wS,wE,wA];refine#[rfl,da m (λi ys Z S'=>(∃a,Z=[gV,a,ba (.ref r)])/\Fl S' r/\Kp r S S'/\∃cs:Hr HB,ys=cs.map (λc=>W.str #[[c].toArray])/\cs.length=i/\∀c∈cs,97<=c/\c<=122) rfl rfl rfl #[∅,∅] #[rfl,#[gV,rfl],hf,.refl,[],rfl,rfl,λ_ h=>nomatch h] ?_ ?_]
 ·rintro i ys Z S1 hi ⟨⟨a,rfl⟩,f1,k1,cs,rfl,hl,hc⟩;dsimp only[fK,wC,wE,wA,wV,wG,HN];refine#[λ_=>aJ (d:=d) G.pick f1 #v[] #v[] λv S2 h2 h3 f2 k2=>?_,λz=>by cases z]
  have ha:=xk #[v.toNat,∅]
  refine ae (A7 sa h2 ha) #[#[_,rfl],f2,k1.trans k2,cs++[97+v.toNat],by simp,by simp[hl],λc hx=>?_]
  rcases Io.mp hx with h|h
  ·exact hc c h
  ·rw[HJ.mp h]; omega
 ·rintro ys Z S1 ⟨_,f1,k1,cs,rfl,hl,hc⟩;refine#[by rw[Hv,hl,IX]; omega,?_]
  have hz:((cs.map λc=>(#[[c].toArray] : HY)).map (·.length)).sum+(cs.map λc=>(#[[c].toArray] : HY)).length*("" : HY).length<=16777216:=by
   rw[lx,show("" : HY).length=0 from rfl,No]
   omega
  refine ae (a:=(.str (QK "" (cs.map λc=>(#[[c].toArray] : HY))),S1++[.lst (cs.map λc=>W.str #[[c].toArray])])) ?_ (hR _ _ (k _ _ (by rw[oO,hl]) (λc h=>hc c (by rw[oO]at h; exact h)) (f1.ka .push) (k1.trans .push)))
  simp only[Me.fn,rc,dL,ar af,j6];rw[Ic hz]
def CT (G:Gen defs){y:HY}(hf:Fl S r)(h0:y.cps.toList.length<=6)(h1:sd y)(k:∀z S',Name z->Fl S' r->Kp r S S'->Q (.str z,S')) :
  wO (aL (ah defs fuel (d+3)) "_law_name" 2 [.ref r,.str y] S) Q:=by
 refine aw G.name rfl rfl λQ' hR=>?_
 replace k:∀z S',Name z->Fl S' r->Kp r S S'->Q' (.rt (.str z),S'):=λz S' a b c=>hR _ _ (k z S' a b c)
 clear hR;show wZ _ _ eG [ba (.ref r),ba (.str y),gV] S Q';dsimp only[eG];nofun
 dsimp only[wS,wT,wE,wV,wG,EQ,wO,wB];refine aq (Q0:=Q') (λ_ Q2 _ hr=>?_) (λ_ Q2 hn _=>?_)
 ·refine st ?_;left;refine aJ (d:=d+1) G.pick hf #v[] #v[] λv S1 v0 v1 f1 k1=>?_
  dsimp only[cp,wO];refine iL (d:=d) G f1 ∅ ∅ λz S2 hz hs f2 k2=>?_
  have hl:(y++z).cps.toList.length=y.cps.toList.length+z.cps.toList.length:=by rw[eH,HK]
  refine ae (CQ (by rw[sf,sf,IX]; omega)) (hr _ _ (k _ _ #[∅,∅,λc hc=>?_] f2 (k1.trans k2)))
  rw[eH]at hc;exact(Io.mp hc).elim (h1 c) (hs c)
 ·refine bH (hn _ _ (hK _ _ ?_));clear hn hK;nofun
  dsimp only[wS,wT,wE,wA,wV,wG];refine aJ (d:=d+1) G.pick hf #v[] #v[] λv S1 v0 v1 f1 k1=>?_
  dsimp only[gF,wO,wB];refine aq (Q0:=Q') (λ_ Q2 _ hr=>?_) (λ_ Q2 hn _=>?_)
  ·refine st ?_;left;refine st ?_;left;refine ae (qG (i:=S1.length) (j:=(S1++[_]).length) (ak af) af (hZ rfl)) ?_;dsimp only;refine st ?_;left;refine aJ (d:=d+1) G.pick (((f1.ka .push).ka .push).ka .push) #v[] #v[] λv S2 v0 v1 f2 k2=>?_
   have e:=k2.get _ _ (by have:=f1.lt; simp only[HK]; omega) af
   obtain⟨z,hz,ez⟩:=j8 (f:=W.str) (xs:=xl) (i:=v.toNat) (by show v.toNat < 14; omega)
   exact gf e v0 ez (hr _ _ (k _ _ (ud z hz) f2 (k1.trans (Kp.push.trans (Kp.push.trans (Kp.push.trans k2))))))
  ·refine bH (hn _ _ (hK _ _ ?_));clear hn hK;refine st ?_;left;refine aJ (d:=d+1) G.pick f1 #v[] #v[] λv S2 v0 v1 f2 k2=>?_
   dsimp only[cp,wO];exact iL (d:=d) G f2 ∅ ∅ λz S3 hz hs f3 k3=>k _ _ #[∅,∅,hs] f3 (k1.trans (k2.trans k3))
end
def mI {α:Type}[Lf α]:∀(l m:Hr α),l.Nodup->(∀x∈l,x∈m)->l.length<=m.length
 | [],_,_,_=>Jx _
 | x::l,m,hn,hs=>by
  rw[KC]at hn;have hx:x∈m:=hs x (.head _);have h1:=mI l (m.erase x) hn.2 λy hy=>(List.mem_erase_of_ne (λ(e:y=x)=>hn.1 (by rw[<- e]; exact hy))).mpr (hs y (.tail _ hy))
  rw[List.length_erase_of_mem hx]at h1;have:=List.length_pos_of_mem hx;rw[IW]; omega
abbrev kF (k:HB):HY:=#[[97+k].toArray]
def xm {a b:HB}(h:kF a=kF b):a=b:=by
 unfold kF at h;injection h with h
 injection h with h
 injection h with h
 omega
def oP (s:HB):((Ix s).map kF).Nodup:=by
 unfold Rb;rw[LX];exact List.nodup_range.imp λh e=>h (xm e)
def ue {k:HB}(h:k < 26):Name (kF k):=#[HE 1,(by decide:1<=8),λc hc=>by
 cases HJ.mp (show c∈[97+k]from hc)
 omega]
abbrev gG:Hr HY:=["marks","ways","bar","some","each","not","and","or","is"]
def xn (zs:Hr HY):(zs.map W.str).all bG=true:=by
 rw[Ig];intro x hx;obtain⟨z,_,rfl⟩:=HX.mp hx;rfl
def Ac (zs:Hr HY)(y:HY):((zs.map W.str).any λz=>yi z (.str y))=decide (y∈zs):=by
 induction zs with
 | nil=>rfl
 | cons z zs ih=>
  rw[IZ,Ko,ih];show((z==y)||_)=_
  by_cases h:z=y
  ·subst h; simp
  ·have:(z==y)=false:=by simpa using h
   rw[this,M5];have h2:(y∈z::zs)=(y∈zs):=by simp[Ne.symm h]
   simp only[h2]
def uf {S:aa}{t:HB}{zs:Hr HY}{y:HY}(h:S[t]?=ba (.lst (zs.map W.str))):cM .isin (.str y) (.ref t) S=ba (.bl (decide (y∈zs)),S):=by
 simp only[cM,jk h,iu,Dp,AO,dL,ar h];rw[Ic (by rw[xn]; rfl),Ac]
 rfl
def CU {S:aa}{k:HB}:eS .mul (.str #[[k].toArray]) (.int 1) S=ba (.str #[[k].toArray],S):=by
 simp only[eS,vd];rw[Ic #[#v[],#v[],by show 1*1<=sizeLine; rw[IX]; decide]]
 rfl
def j9 {xs:Hr W}{k:HB}:ju xs gV (ba (k:HM))=xs.take k:=by
 unfold ju;rw[HT.nq,HT.qR,PR,Nat.sub_zero]
 by_cases h:k<=xs.length
 ·rw[Pv h]
 ·rw[Pe ∅,Kn (HE _),Kn ∅]
def oQ {xs:Hr W}{k:HB}:ju xs (ba (k:HM)) gV=xs.drop k:=by
 unfold ju;rw[HT.nq,HT.qR]
 by_cases h:k<=xs.length
 ·rw[Pv h,Kn (by rw[KS]; exact HE _)]
 ·rw[Pe ∅,LV (HE _),LV ∅]; exact List.take_nil
section
variable{defs:Hr (HY×Df)}{fuel d:HB}{S:aa}{r:HB}{Q:QW}
def Ad {M:HY->FF}{m z w:W}{t:HB}{y:HY}{zs:Hr HY}{K:Fm->aa->Prop}{Q:QO}(hfu:20 < fuel)(hy:Name y)(e:S[t]?=ba (.lst (zs.map W.str)))(hl:zs.length<=15)
  (k:∀y s,Name y->y∉zs->K [ba (.ref r),ba m,ba z,ba (.ref t),ba w,ba (.str y),ba s] S) :
  wS M fuel (.whl (.cmp .isin (.v 5) (.v 3)) #v[.set 5 (.op .mul (.ix (.c (.str "abcdefghijklmnopqrstuvwxyz")) (.op .mod (.v 6) (.c (.int 26)))) (.op .add (.c (.int 1)) (.op .fdiv (.v 6) (.c (.int 26))))),.set 6 (.op .add (.v 6) (.c (.int 1)))])
   [ba (.ref r),ba m,ba z,ba (.ref t),ba w,ba (.str y),ba (.int 0)] S K Q:=by
 dsimp only[wS];refine Be (λmm Z S'=>∃(s:HB) (y:HY),Z=[ba (.ref r),ba m,ba z,ba (.ref t),ba w,ba (.str y),ba (.int s)]/\S'=S/\mm+s=18/\s<=16/\Name y/\(0 < s->y=kF (s - 1))/\∀k,k+1 < s->kF k∈zs) 18 rfl rfl ∅ #[0,y,rfl,rfl,rfl,∅,hy,λh=>absurd h ∅,λk h=>absurd h ∅] ?_
 rintro mm Z S' ⟨s,y',rfl,rfl,hm,hs,hy',hc1,hc2⟩;dsimp only[wT,wE,wV,wG];refine ae (uf e) #[λhin=>?_,λhout=>k _ _ hy' (JO hout)]
 have all:∀k,k < s->kF k∈zs:=λk hk=>by
  by_cases h:k+1 < s
  ·exact hc2 k h
  ·have e:k=s - 1:=∅
   rw[e,<- hc1 ∅]; exact IQ hin
 have hs15:s<=15:=by
  have h7:=mI ((Ix s).map kF) zs (oP s) λx hx=>by
   obtain⟨k,hk,rfl⟩:=HX.mp hx;exact all k (IU.mp hk)
  rw[Hv,IL]at h7;omega
 refine#[mm - 1,∅,λQ2 hn _=>?_]
 have em:((s:HM) % 26)=s:=Int.emod_eq_of_lt ∅ ∅
 have ed:((s:HM) / 26)=0:=Int.ediv_eq_zero_of_lt ∅ ∅
 refine st ?_;dsimp only[wS,wE,wV,wG,HN];refine ae (g9 #v[]) ?_
 rw[em];refine ae (A7 (i:=(s:HM)) sa (Ip s) (xk #[s,∅])) ?_
 have e2:eS .fdiv (.int s) (.int 26) S'=ba (.int 0,S'):=by rw[gE ∅ ∅,ed]
 dsimp only;rw[e2];dsimp only[cp,aH];rw[show(1:HM)+0=1 from rfl]
 refine ae CU ?_;refine st ?_;dsimp only[wS,wE,wV,wG,HN,cp,aH];exact bH (hn _ _ #[s+1,kF s,rfl,rfl,∅,∅,ue ∅,λ_=>rfl,λk hk=>all k ∅])
def Ae (hfu:20 < fuel)(G:Gen defs){m:HB}(hf:Fl S r)(h1:m<=6)(k:∀(ys:Hr HY) S',ys.length=m->(∀y∈ys,Name y)->(gG++ys).Nodup->Fl S' r->Kp r S S'->Q (.tup (ys.map W.str),S')) :
  wO (aL (ah defs fuel (d+4)) "_law_names" 2 [.ref r,.int m] S) Q:=by
 refine aw G.names rfl rfl λQ' hR=>?_
 replace k:∀(ys:Hr HY) S',ys.length=m->(∀y∈ys,Name y)->(gG++ys).Nodup->Fl S' r->Kp r S S'->Q' (.rt (.tup (ys.map W.str)),S'):=λz S' a b c e f=>hR _ _ (k z S' a b c e f)
 clear hR;show wZ _ _ bW [ba (.ref r),ba (.int m),gV,gV,gV,gV,gV] S Q';have be:∀(z:HY) (S2:aa),z.cps.toList.length<=6->sd z->Fl S2 r->Kp r S S2->wZ (ah defs fuel (d+3)) fuel (dr 2 bW) [ba (.ref r),ba (.int m),ba (.str z),gV,gV,gV,gV] S2 Q':=by
  intro z S2 hz1 hz2 f2 k2;dsimp only[dr,bW];have hrt:=f2.lt;have hSt:=k2.len;refine st ?_;left;nofun
  refine b6 (m:HM) (λi Z S'=>∃a4 a5 a6 ys,Z=[ba (.ref r),ba (.int m),ba (.str z),ba (.ref S2.length),a4,a5,a6]/\S'[S2.length]?=ba (.lst ((gG++ys).map W.str))/\ys.length=i/\(∀y∈ys,Name y)/\(gG++ys).Nodup/\Fl S' r/\Kp r S S') rfl rfl ∅ ?_ ?_ ?_
  ·dsimp only[wE,wV,wG];exact#[rfl,gV,gV,gV,[],rfl,af,rfl,λ_ h=>(nomatch h),#v[],f2.ka .push,k2.trans .push]
  ·rintro i Z S3 hi ⟨a4,a5,a6,ys,rfl,e3,hy1,hy2,hy3,f3,k3⟩ Q2 hn _;clear hK;refine st ?_;left;refine CT (d:=d) G f3 hz1 hz2 λy S4 hy f4 k4=>?_
   have e4:=k4.get _ _ ∅ e3
   refine st ?_;left;refine st (Ad hfu hy e4 (by rw[HK,hy1]; show 9+i<=15; omega) λy' s hy' hnot=>?_)
   refine st ?_;left;refine#[cW e4,i5 e4 (by rw[Hv,HK,hy1]; show 9+i < 1000; omega) ?_]
   refine bH (hn _ _ #[_,_,_,ys++[y'],rfl,?_,by rw[HK,hy1]; rfl,λx hx=>?_,?_,f4.own hrt,(k3.trans k4).late hSt])
   ·rw[bm e4,<- Ja,Ir (l₁:=gG++ys)]; rfl
   ·rcases Io.mp hx with h|h
    ·exact hy2 x h
    ·rw[HJ.mp h]; exact hy'
   ·rw[<- Ja,Kk];refine#[hy3,by simp,λa ha b hb e=>?_]
    rw[HJ.mp hb]at e;exact hnot (e ▸ ha)
  ·rintro Z S3 ⟨a4,a5,a6,ys,rfl,e3,hy1,hy2,hy3,f3,k3⟩;refine hK _ _ (st ?_);dsimp only[wS,wE,wA,wV,wG,wP,wN];have hs:uE (.ref S2.length) (ba 9) gV S3=ba (.ref S3.length,S3++[.lst (ys.map W.str)]):=by
    have:ju ((gG++ys).map W.str) (ba ((9:HB):HM)) gV=ys.map W.str:=by
     rw[oQ,Ir];exact List.drop_left' rfl
    simp only[uE,ar e3];rw[show(ba 9:HA HM)=ba ((9:HB):HM)from rfl,this]
   refine ae hs (cQ af (k _ _ ?_ hy2 hy3 (f3.ka .push) (k3.trans .push)));rw[hy1]; exact HU m
 dsimp only[bW];refine st ?_;dsimp only[wS,wE,HN];nofun
 dsimp only[wS,wT,wE,wA,wV,wG];refine aJ (d:=d+2) G.pick hf #v[] #v[] λv S1 v0 v1 f1 k1=>?_
 dsimp only[gF,wO,wB];refine aq (Q0:=Q') (λ_ Q2 hn _=>?_) (λ_ Q2 hn _=>?_)
 ·refine st ?_;left;refine aJ (d:=d+2) G.pick f1 #v[] #v[] λv S2 v0 v1 f2 k2=>?_
  dsimp only[cp,wO];exact iL (d:=d+1) G f2 ∅ ∅ λz S3 hz hs f3 k3=>bH (hn _ _ (hK _ _ (be z S3 ∅ hs f3 (k1.trans (k2.trans k3)))))
 ·exact bH (hn _ _ (hK _ _ (be "" S1 #v[] (λc hc=>nomatch hc) f1 k1)))
end
noncomputable abbrev Pt:=HM×Hr HM
noncomputable abbrev Wd:=Hr Pt
abbrev gg (p:Pt):W:=.tup [.int p.1,.tup (p.2.map W.int)]
abbrev az (u:Wd):W:=.tup (u.map gg)
abbrev mJ (p:Pt):T:=.tup [.int p.1,.tup (p.2.map T.int)]
abbrev cG (u:Wd):T:=.tup (u.map mJ)
def sg:∀xs:Hr HM,T.ws (xs.map T.int)=xs.map W.int
 | []=>rfl
 | x::xs=>by simp[T.ws,T.w,sg xs]
def EZ (p:Pt):(mJ p).w=gg p:=by simp[mJ,gg,T.w,T.ws,sg]
def xo:∀u:Wd,T.ws (u.map mJ)=u.map gg
 | []=>rfl
 | p::u=>by simp[T.ws,EZ,xo u]
def xp (u:Wd):(cG u).w=az u:=by simp[cG,az,T.w,xo]
def E1 (u:Wd):W.t (az u)=ba (cG u):=by rw[<- xp]; exact T.w_t _
def qH:∀us:Hr Wd,T.ws (us.map cG)=us.map az
 | []=>rfl
 | u::us=>by simp[T.ws,xp,qH us]
def xq (us:Hr Wd):W.ts (us.map az)=ba (us.map cG):=by rw[<- qH]; exact T.ws_ts _
def ke:∀xs:Hr HM,T.depths (xs.map T.int)=0
 | []=>rfl
 | x::xs=>by simp[T.depths,T.depth,ke xs]
def xr (p:Pt):(mJ p).depth=2:=by simp[mJ,T.depth,T.depths,ke]
def ly:∀u:Wd,T.depths (u.map mJ)<=2
 | []=>by simp[T.depths]
 | p::u=>by
  have:=ly u;simp only[IZ,T.depths,xr]; omega
def kh (u:Wd):(cG u).depth<=3:=by
 have:=ly u;simp only[cG,T.depth]; omega
def fL:∀us:Hr Wd,T.depths (us.map cG)<=3
 | []=>by simp[T.depths]
 | u::us=>by
  have:=fL us;have:=kh u;simp only[IZ,T.depths]; omega
def CV (u:Wd):fO (az u)=ba (cG u):=by
 unfold fO;rw[E1];show(if (cG u).isTup=true/\(cG u).depth<=ap then _ else _)=_
 rw[Ic #[rfl,by have:=kh u; unfold ap; omega]]
mutual
noncomputable def oR:T->T->Il
 | .int _,.int _=>true
 | .str _,.str _=>true
 | .tup xs,.tup ys=>ic xs ys
 | _,_=>false
noncomputable def ic:Hr T->Hr T->Il
 | [],_=>true
 | _,[]=>true
 | x::xs,y::ys=>oR x y&&ic xs ys
end
mutual
theorem xt:∀x y:T,oR x y=true->(gw x y).isSome=true
 | .int _,.int _,_=>rfl
 | .str _,.str _,_=>rfl
 | .tup xs,.tup ys,h=>by
  dsimp only[oR]at h;dsimp only[gw];exact sh xs ys h
 | .int _,.str _,h|.int _,.tup _,h|.str _,.int _,h|.str _,.tup _,h|.tup _,.int _,h|.tup _,.str _,h=>by cases h
theorem sh:∀xs ys:Hr T,ic xs ys=true->(bK xs ys).isSome=true
 | [],[],_=>rfl
 | [],_::_,_=>rfl
 | _::_,[],_=>rfl
 | x::xs,y::ys,h=>by
  dsimp only[ic]at h; simp only[Hz]at h
  dsimp only[bK];split
  ·exact sh xs ys h.2
  ·exact xt x y h.1
end
def oT:∀xs ys:Hr HM,ic (xs.map T.int) (ys.map T.int)=true
 | [],_=>rfl
 | _::_,[]=>rfl
 | x::xs,y::ys=>by dsimp only[QM,ic,oR]; simp[oT xs ys]
def CW (p q:Pt):oR (mJ p) (mJ q)=true:=by dsimp only[mJ,oR,ic]; simp[oT]
def si:∀u v:Wd,ic (u.map mJ) (v.map mJ)=true
 | [],_=>rfl
 | _::_,[]=>rfl
 | p::u,q::v=>by dsimp only[QM,ic]; simp[CW,si u v]
def CY (u v:Wd):oR (cG u) (cG v)=true:=by dsimp only[cG,oR]; exact si _ _
def iM (us:Hr Wd):eg (us.map cG)=true:=by
 unfold eg;rw[Ig];intro x hx;obtain⟨u,_,rfl⟩:=HX.mp hx;rw[Ig];intro y hy;obtain⟨v,_,rfl⟩:=HX.mp hy;exact xt _ _ (CY u v)
def xu (us:Hr Wd)(h:∀u∈us,u≠[]):(qb (us.map cG)).isSome=true:=by
 unfold qb;split
 ·rfl
 ·split
  ·rfl
  ·split
   ·rfl
   ·split
    ·rfl
    ·split
     ·rfl
     ·rename_i h5;exfalso;apply h5;rw[Ig];intro x hx;obtain⟨u,hu,rfl⟩:=HX.mp hx;cases u with
      | nil=>exact absurd rfl (h [] hu)
      | cons p u=>rfl
abbrev d6 (bs:Hr HM)(u:Wd)(i j:HB):HM:=if j < i then((u.getD i (0,[])).2).getD j 0 else bs.getD (((u.getD j (0,[])).2).getD i 0).toNat 0
abbrev aD (bs:Hr HM)(u:Wd)(ps:Hr HB):Wd:=(Ix ps.length).map λk=>((u.getD (ps.getD k 0) (0,[])).1,(ps.take k).map λj=>d6 bs u (ps.getD k 0) j)
abbrev aO:Hr (Hr HB):=[[0,1,2],[0,2,1],[1,0,2],[1,2,0],[2,0,1],[2,1,0]]
abbrev jc (bs:Hr HM)(u:Wd):Wd:=(aO.map (aD bs u)).getD (jH ((aO.map (aD bs u)).map cG)) []
abbrev aE (n:HY)(b:HM):W:=.tup [.str n,.int b]
structure GoodW (a n:HB)(u:Wd):Prop where
 mark:∀(k:HB) (p:Pt),u[k]?=ba p->0<=p.1/\p.1 < a
 len:∀(k:HB) (p:Pt),u[k]?=ba p->p.2.length=k
 way:∀(k:HB) (p:Pt),u[k]?=ba p->∀w∈p.2,0<=w/\w < n
abbrev GoodB (bs:Hr HM):Prop:=bs=[0]\/bs=[0,1]\/bs=[1,0]\/bs=[0,1,2]\/bs=[1,0,2]\/bs=[0,2,1]
def GoodB.rng {bs:Hr HM}(h:GoodB bs):∀k:HB,k < bs.length->∃b:HM,bs[k]?=ba b/\0<=b/\b < bs.length:=by
 rcases h with rfl|rfl|rfl|rfl|rfl|rfl <;> intro k hk
 ·match k,hk with
  | 0,_=>exact#[0,rfl,#v[],#v[]]
 ·match k,hk with
  | 0,_=>exact#[0,rfl,#v[],#v[]]
  | 1,_=>exact#[1,rfl,#v[],#v[]]
 ·match k,hk with
  | 0,_=>exact#[1,rfl,#v[],#v[]]
  | 1,_=>exact#[0,rfl,#v[],#v[]]
 ·match k,hk with
  | 0,_=>exact#[0,rfl,#v[],#v[]]
  | 1,_=>exact#[1,rfl,#v[],#v[]]
  | 2,_=>exact#[2,rfl,#v[],#v[]]
 ·match k,hk with
  | 0,_=>exact#[1,rfl,#v[],#v[]]
  | 1,_=>exact#[0,rfl,#v[],#v[]]
  | 2,_=>exact#[2,rfl,#v[],#v[]]
 ·match k,hk with
  | 0,_=>exact#[0,rfl,#v[],#v[]]
  | 1,_=>exact#[2,rfl,#v[],#v[]]
  | 2,_=>exact#[1,rfl,#v[],#v[]]
def getD_some {α:Type}{xs:Hr α}{i:HB}{x d:α}(h:xs[i]?=ba x):xs.getD i d=x:=by simp[h]
def aF {α:Type}{xs:Hr α}{i:HB}{d:α}(h:i < xs.length):xs[i]?=ba (xs.getD i d):=by simp[h]
def gH {ns:Hr HY}{bs:Hr HM}{k:HB}{n:HY}{b:HM}(h1:ns[k]?=ba n)(h2:bs[k]?=ba b):(HR aE ns bs)[k]?=ba (aE n b):=by
 rw[NJ,h1,h2]
abbrev al (ps:Hr HB):Hr W:=ps.map λ(p:HB)=>W.int (p:HM)
def jl {ps:Hr HB}{k p:HB}(h:ps[k]?=ba p):(al ps)[k]?=ba (.int p):=by simp[al,h]
def fM (bs:Hr HM)(u:Wd)(ps:Hr HB):(aD bs u ps).length=ps.length:=by unfold aD; rw[Hv,IL]
def ki {u:Wd}{i:HB}(hi:i < u.length):(u.map gg)[((i:HB):HM).toNat]?=ba (gg (u.getD i (0,[]))):=by
 rw[HU,HF,aF hi]; rfl
section
variable{defs:Hr (HY×Df)}{fuel d:HB}{S:aa}{r:HB}{Q:QW}
def xv {M:HY->FF}{m0 b0:W}{ns:Hr HY}{bs:Hr HM}{a:HB}{u:Wd}{i j:HB}{Q:QO}(hb:GoodB bs)(hl:ns.length=bs.length)(hu:GoodW a bs.length u)(hi:i < u.length)(hj:j < u.length)(hij:i≠j)(k:Q (.rt (.int (d6 bs u i j)),S)) :
  wZ M fuel cD [ba (.tup [m0,.tup (HR aE ns bs),b0]),ba (az u),ba (.int i),ba (.int j)] S Q:=by
 have hpi:=aF (d:=(0,[])) hi;have hpj:=aF (d:=(0,[])) hj;unfold d6 at k;dsimp only[cD];nofun
 dsimp only[wS,wT,wE,wV,wG,z8,wO,wB,az];refine aq (Q0:=Q) (λh Q2 _ hr=>?_) (λh Q2 hn _=>?_)
 ·have hji:j < i:=by have:=IQ h; omega
  rw[Ic hji]at k;have hw:j < (u.getD i (0,[])).2.length:=by rw[hu.len i _ hpi]; exact hji
  refine st ?_;dsimp only[wS,wE,wV,wG];refine aj (Ip i) (ki hi) (aj #v[] rfl (aj (Ip j) ?_ (hr _ _ k)))
  rw[HU,HF,aF (d:=0) hw]; rfl
 ·have hji:¬ j < i:=by have:=JO h; omega
  rw[Im hji]at k;refine bH (hn _ _ (hK _ _ ?_));clear hn hK;have hw:i < (u.getD j (0,[])).2.length:=by rw[hu.len j _ hpj]; omega
  have hg:=aF (d:=0) hw;obtain⟨g1,g2⟩:=hu.way j _ hpj _ (HZ hg);obtain⟨b,hb1,hb2,hb3⟩:=hb.rng ((u.getD j (0,[])).2.getD i 0).toNat ∅
  have hn:((u.getD j (0,[])).2.getD i 0).toNat < ns.length:=∅
  rw[getD_some hb1]at k;refine st ?_;dsimp only[wS,wE,wV,wG];refine aj #v[] rfl (aj (Ip j) (ki hj) (aj #v[] rfl (aj (Ip i) ?_ (aj g1 (gH (HC hn) hb1) (aj #v[] rfl k)))))
  rw[HU,HF,hg]; rfl
def lz (G:Gen defs){m0 b0:W}{ns:Hr HY}{bs:Hr HM}{a:HB}{u:Wd}{i j:HB}(hb:GoodB bs)(hl:ns.length=bs.length)(hu:GoodW a bs.length u)(hi:i < u.length)(hj:j < u.length)(hij:i≠j)(k:Q (.int (d6 bs u i j),S)) :
  wO (aL (ah defs fuel (d+1)) "_law_between" 4 [.tup [m0,.tup (HR aE ns bs),b0],az u,.int i,.int j] S) Q:=
 aw G.between rfl rfl λQ' hR=>xv hb hl hu hi hj hij (hR _ _ k)
def xw (G:Gen defs){m0 b0:W}{ns:Hr HY}{bs:Hr HM}{a:HB}{u:Wd}{ps:Hr HB}(hb:GoodB bs)(hl:ns.length=bs.length)(hu:GoodW a bs.length u)(hps:∀p∈ps,p < u.length)(hnd:ps.Nodup)(hsz:ps.length < 1000)(k:∀S',Ka S S'->Q (az (aD bs u ps),S')) :
  wO (aL (ah defs fuel (d+2)) "_law_part" 3 [.tup [m0,.tup (HR aE ns bs),b0],az u,.tup (al ps)] S) Q:=by
 refine aw G.part rfl rfl λQ' hR=>?_
 replace k:∀S',Ka S S'->Q' (.rt (az (aD bs u ps)),S'):=λS' a=>hR _ _ (k S' a)
 clear hR;show wZ _ _ cx [ba (.tup [m0,.tup (HR aE ns bs),b0]),ba (az u),ba (.tup (al ps)),gV,gV,gV] S Q';generalize hR0:W.tup [m0,.tup (HR aE ns bs),b0]=R;dsimp only[cx];refine st ?_;dsimp only[wS,wE,wA,HN];nofun
 have nl:(al ps).length=ps.length:=Hv ..;refine b6 (ps.length:HM) (λk Z S'=>∃a4 a5,Z=[ba R,ba (az u),ba (.tup (al ps)),ba (.ref S.length),a4,a5]/\S'[S.length]?=ba (.lst (((aD bs u ps).take k).map gg))/\Ka S S') rfl rfl ∅ ?_ ?_ ?_
 ·dsimp only[wE,wA,wV,wG];refine aS ?_;rw[nl];exact#[rfl,gV,gV,rfl,af,.push]
 ·rintro i Z S1 hi ⟨a4,a5,rfl,e1,k1⟩ Q2 hn _;clear hK;have hi':i < ps.length:=∅
  have hp:ps[i]?=ba ps[i]:=HC hi';have hpu:ps[i] < u.length:=hps _ (IC hi');refine st ?_;dsimp only[wS,wE,wV,wG,HN];refine aj (Ip i) (by rw[HU]; exact jl hp) ?_
  refine st ?_;left;refine#[cW e1,aj (Ip _) (ki hpu) (aj #v[] rfl ?_)]
  refine r8 (al (ps.take i)) (λj ys Z2 S2=>(∃a1,Z2=[gV,a1,ba (.int ps[i]),ba R,ba (az u)])/\ys=((ps.take i).take j).map (λq=>W.int (d6 bs u ps[i] q))/\Ka S1 S2) rfl rfl rfl ?_ ?_ ?_
  ·dsimp only[wE,wP,wV,wG,wN];refine ae (a:=(.tup (al (ps.take i)),S1)) ?_ #[rfl,#[gV,rfl],rfl,.refl];simp only[uE,j9];unfold al;rw[Of]
  ·rintro j w ys Z2 S2 hw ⟨⟨a1,rfl⟩,rfl,k2⟩;have hjl:j < (ps.take i).length:=by
    have:=(HH.mp hw).1;unfold al at this
    rwa [Hv]at this
   have hq:(ps.take i)[j]?=ba (ps.take i)[j]:=HC hjl;cases(jl hq).symm.trans hw;have hj:j < i:=by rw[Jj]at hjl; omega
   have eq:(ps.take i)[j]=ps[j]'∅:=Le
   generalize(ps.take i)[j]=q at hq eq ⊢;refine ae (show im (.nm 1) (.int (q:HM)) [gV,a1,ba (.int ps[i]),ba R,ba (az u)] S2=ba ([gV,ba (.int (q:HM)),ba (.int ps[i]),ba R,ba (az u)],S2)from rfl) ?_
   dsimp only[fK,wC,wE,wA,wV,wG];subst hR0;refine#[λ_=>lz (d:=d) G hb hl hu hpu (by rw[eq]; exact hps _ (IC _)) ?_ #[#[_,rfl],?_,k2],λz=>by cases z]
   ·rw[eq];intro h;have:=(Lq hnd).mp h;omega
   ·rw[IG,hq];simp
  ·rintro ys Z2 S2 ⟨_,rfl,k2⟩;rw[show(al (ps.take i)).length=(ps.take i).length from Hv ..,Jk]
   refine#[jb (by rw[Hv,Jj]; omega),cQ af ?_]
   have e2:=ak (u:=O.lst ((ps.take i).map λq=>W.int (d6 bs u ps[i] q))) (k2.get _ _ e1)
   refine i5 e2 (by rw[Hv,Jj]; omega) (bH (hn _ _ #[_,_,rfl,?_,((k1.trans k2).trans .push).late (HE _)]))
   rw[bm e2];have ep:(aD bs u ps)[i]?=ba ((u.getD ps[i] (0,[])).1,(ps.take i).map λq=>d6 bs u ps[i] q):=by
    unfold aD;rw[HF,Kl hi',IK,getD_some hp]
   rw[IG,ep];simp[gg,M2]
 ·rintro Z S1 ⟨a4,a5,rfl,e1,k1⟩;rw[HU,<- fM bs u ps,Jk]at e1;refine hK _ _ (st ?_);left;exact cQ e1 (k _ k1)
def mK (G:Gen defs)(k:Q (.ref S.length,S++[.lst (aO.map λt=>W.tup (al t))])):wO (aL (ah defs fuel (d+1)) "_law_turns" 0 [] S) Q:=by
 refine aw G.turns rfl rfl λQ' hR=>?_
 dsimp only[fq];refine st ?_;dsimp only[wS,wE,wA];exact hR _ _ k
def dC (bt:HB->HB->Il):∀n:HB,argBest bt n<=n
 | 0=>HE _
 | n+1=>by have:=dC bt n; simp only[argBest]; split <;> omega
def ie (G:Gen defs){m0 b0:W}{ns:Hr HY}{bs:Hr HM}{a:HB}{u:Wd}(hb:GoodB bs)(hl:ns.length=bs.length)(hu:GoodW a bs.length u)(h3:u.length=3)(k:∀S',Ka S S'->Q (az (jc bs u),S')) :
  wO (aL (ah defs fuel (d+3)) "_law_figure" 2 [.tup [m0,.tup (HR aE ns bs),b0],az u] S) Q:=by
 refine aw G.figure rfl rfl λQ' hR=>?_
 replace k:∀S',Ka S S'->Q' (.rt (az (jc bs u)),S'):=λS' a=>hR _ _ (k S' a)
 clear hR;show wZ _ _ db [ba (.tup [m0,.tup (HR aE ns bs),b0]),ba (az u)] S Q';generalize hR0:W.tup [m0,.tup (HR aE ns bs),b0]=R;dsimp only[db];refine st ?_;dsimp only[wS,wE,wA];refine r9 S.length (aO.map λt=>W.tup (al t)) (λi ys Z2 S2=>(∃a1,Z2=[gV,a1,ba R,ba (az u)])/\ys=((aO.take i).map λt=>az (aD bs u t))/\Ka (S++[.lst (aO.map λt=>W.tup (al t))]) S2) rfl rfl rfl ?_ ?_ ?_ ?_
 ·dsimp only[wE,wA];exact mK (d:=d+1) G #[rfl,#[gV,rfl],rfl,.refl]
 ·rintro i ys Z2 S2 ⟨_,_,k2⟩;exact k2.get _ _ af
 ·rintro i w ys Z2 S2 hw ⟨⟨a1,rfl⟩,rfl,k2⟩;rw[HF,Hy]at hw;obtain⟨t,ht,rfl⟩:=hw;have ht3:(∀p∈t,p < 3)/\t.Nodup/\t.length < 1000:=by
   have:∀t∈aO,(∀p∈t,p < 3)/\t.Nodup/\t.length < 1000:=by decide
   exact this t (HZ ht)
  refine ae (show im (.nm 1) (.tup (al t)) [gV,a1,ba R,ba (az u)] S2=ba ([gV,ba (.tup (al t)),ba R,ba (az u)],S2)from rfl) ?_
  dsimp only[fK,wC,wE,wA,wV,wG];subst hR0;refine#[λ_=>xw (d:=d) G hb hl hu (λp hp=>by rw[h3]; exact ht3.1 p hp) ht3.2.1 ht3.2.2 λS3 k3=>#[#[_,rfl],?_,k2.trans k3],λz=>by cases z]
  rw[IG,ht];simp
 ·rintro ys Z2 S2 ⟨_,rfl,k2⟩;have e:((aO.take (aO.map λt=>W.tup (al t)).length).map λt=>az (aD bs u t))=(aO.map (aD bs u)).map az:=by
   rw[Hv,Jk,J6]; rfl
  rw[e];refine#[hZ rfl,ae (a:=(az (jc bs u),S2++[.lst ((aO.map (aD bs u)).map az)])) ?_ (k _ ((Ka.push.trans k2).trans .push))];simp only[Bi.fn,vI,ar af,xq];rw[Ic #[by have:=fL (aO.map (aD bs u)); unfold bC; omega,iM _]]
  unfold jc;have hlt:jH ((aO.map (aD bs u)).map cG) < (aO.map (aD bs u)).length:=MO (dC _ _) (by decide:5 < 6)
  rw[HF,aF (d:=[]) hlt];rfl
end
abbrev ag (xs:Hr HM):Hr W:=xs.map W.int
abbrev b8 (us:Hr Wd):Hr Wd:=cN (kz (us.map cG)) [] us
def oU {α β:Type}{lt:HB->HB->Il}{d:α}{d':β}{f:α->β}{us:Hr α}:cN lt d' (us.map f)=(cN lt d us).map f:=by
 unfold cN;rw[Hv];split
 ·rfl
 ·rw[J6];refine J7 λi hi=>?_
  have hl:i < us.length:=ji ∅ i hi
  simp[hl]
def qI {S:aa}{x:W}{us:Hr Wd}(h:du S x=ba (us.map az))(h64:us.length < 64)(hne:∀u∈us,u≠[]):eD [x] S=ba (.ref S.length,S++[.lst ((b8 us).map az)]):=by
 have ok:gx (us.map cG)=true:=by
  unfold gx;simp only[Hz,JY,HQ,Hv];exact#[#[h64,by have:=fL us; unfold bC; omega],.inr #[xu us hne,iM us]]
 simp only[eD,h,xq];rw[Ic ok,oU (d:=[])];rfl
abbrev cZ (ms ns:Hr HY)(bs:Hr HM)(us:Hr Wd):W:=.tup [.tup (ms.map W.str),.tup (HR aE ns bs),.tup (us.map az)]
structure GoodN (ms ns:Hr HY):Prop where
 name:∀y∈ms++ns,Name y
 nd:(gG++(ms++ns)).Nodup
def GoodW.nil {a n:HB}:GoodW a n []:=#[λk p h=>(by simp at h),λk p h=>(by simp at h),λk p h=>(by simp at h)]
def GoodW.snoc {a n:HB}{u:Wd}{m:HM}{ws:Hr HM}(h:GoodW a n u)(h1:0<=m/\m < a)(h2:ws.length=u.length)(h3:∀w∈ws,0<=w/\w < (n:HM)):GoodW a n (u++[(m,ws)]):=by
 have key:∀(k:HB) (p:Pt),(u++[(m,ws)])[k]?=ba p->u[k]?=ba p\/(k=u.length/\p=(m,ws)):=λk p e=>by
  rcases Nat.lt_or_ge k u.length with hk|hk
  ·rw[IN hk]at e; exact .inl e
  ·rw[Kt hk]at e;have:k - u.length=0:=by
    have:=(HH.mp e).1;simp at this; omega
   rw[this]at e;cases e;exact .inr #[∅,rfl]
 refine#[λk p e=>?_,λk p e=>?_,λk p e=>?_] <;> rcases key k p e with e|⟨rfl,rfl⟩
 ·exact h.mark k p e
 ·exact h1
 ·exact h.len k p e
 ·exact h2
 ·exact h.way k p e
 ·exact h3
def GoodB.at {bs:Hr HM}(h:GoodB bs){x:HM}(h0:0<=x)(h1:x < bs.length):bs[x.toNat]?=ba (bs.getD x.toNat 0)/\0<=bs.getD x.toNat 0/\bs.getD x.toNat 0 < bs.length:=by
 obtain⟨b,h2,h3⟩:=h.rng x.toNat ∅
 rw[getD_some h2];exact#[h2,h3]
def Ag {S:aa}{x:W}{xs:Hr W}(h:du S x=ba xs):bZ [x] S=gV:=by
 cases x with
 | ref i=>
  have e2:Dq S i=gV:=by
   unfold Dq;cases e:S[i]? with
   | none=>rfl
   | some o=>
    cases o with
    | stt ss=>simp[du,eO,iA,e]at h
    | _=>rfl
  simp only[bZ,e2]
 | _=>rfl
def xx {S:aa}{x:W}{us:Hr Wd}{Q:QW}(h:du S x=ba (us.map az))(h64:us.length < 64)(hne:∀u∈us,u≠[])(q:Q (.ref S.length,S++[.lst ((b8 us).map az)])):wO (Bi.sorted.fn [x] S) Q:=by
 refine ae ?_ q;show(match bZ [x] S with
  | some r=>ba r
  | none=>eD [x] S)=_
 rw[Ag h];exact qI h h64 hne
abbrev xy:Hr (HB×HB):=[(1,1),(2,1),(3,1),(1,2),(1,2),(2,2),(2,2),(3,2),(1,3),(1,3),(2,3)]
def xz:∀p∈xy,1<=p.1/\p.1<=3/\1<=p.2/\p.2<=3/\p.1*p.2<=6:=by decide
abbrev kj:HB->Hr (Hr HM)
 | 1=>[[0]]
 | 2=>[[0,1],[1,0]]
 | _=>[[0,1,2],[1,0,2],[0,2,1]]
def xA:∀n:HB,1<=n->n<=3->(∀b∈kj n,GoodB b/\b.length=n)/\0 < (kj n).length/\(kj n).length<=3
 | 1,_,_=>#[λb h=>by cases HJ.mp h; exact#[.inl rfl,rfl],#v[],#v[]]
 | 2,_,_=>#[λb h=>by
   rcases HW.mp h with rfl|h
   ·exact#[.inr (.inl rfl),rfl]
   ·cases HJ.mp h; exact#[.inr (.inr (.inl rfl)),rfl],#v[],#v[]]
 | 3,_,_=>#[λb h=>by
   rcases HW.mp h with rfl|h
   ·exact#[.inr (.inr (.inr (.inl rfl))),rfl]
   ·rcases HW.mp h with rfl|h
    ·exact#[.inr (.inr (.inr (.inr (.inl rfl)))),rfl]
    ·cases HJ.mp h; exact#[.inr (.inr (.inr (.inr (.inr rfl)))),rfl],#v[],#v[]]
 | 0,h,_=>absurd h #v[]
 | n+4,_,h=>absurd h ∅
section
variable{defs:Hr (HY×Df)}{fuel d:HB}{S:aa}{r:HB}{Q:QW}
def mL (G:Gen defs)(hf:Fl S r)(k:∀(a n:HB) S',1<=a->a<=3->1<=n->n<=3->a*n<=6->Fl S' r->Kp r S S'->Q (.tup [.int a,.int n],S')) :
  wO (aL (ah defs fuel (d+2)) "_law_sizes" 1 [.ref r] S) Q:=by
 refine aw G.sizes rfl rfl λQ' hR=>?_
 show wZ _ _ dQ [ba (.ref r),gV] S Q';dsimp only[dQ];refine st ?_;dsimp only[wS,wE,wA,HN];refine st ?_;left;refine aJ (d:=d) G.pick (hf.ka .push) #v[] #v[] λv S1 v0 v1 f1 k1=>?_
 have e:=k1.get _ _ (Jz hf.lt) af;obtain⟨p,hp,ep⟩:=j8 (f:=λp:HB×HB=>W.tup [.int p.1,.int p.2]) (xs:=xy) (i:=v.toNat) (by show v.toNat < 11; omega)
 obtain⟨a1,a3,n1,n3,an⟩:=xz p hp;exact gf e v0 ep (hR _ _ (k _ _ _ a1 a3 n1 n3 an f1 (Kp.push.trans k1)))
def mM (G:Gen defs){n:HB}(hf:Fl S r)(h1:1<=n)(h3:n<=3)(k:∀(bs:Hr HM) S',GoodB bs->bs.length=n->Fl S' r->Kp r S S'->Q (.tup (ag bs),S')) :
  wO (aL (ah defs fuel (d+2)) "_law_backs" 2 [.ref r,.int n] S) Q:=by
 refine aw G.backs rfl rfl λQ' hR=>?_
 replace k:∀(bs:Hr HM) S',GoodB bs->bs.length=n->Fl S' r->Kp r S S'->Q' (.rt (.tup (ag bs)),S'):=λz S' a b c e=>hR _ _ (k z S' a b c e)
 clear hR;show wZ _ _ dP [ba (.ref r),ba (.int n),gV] S Q';dsimp only[dP];nofun
 left;dsimp only[xf,aH];obtain⟨hg,g0,g3⟩:=xA n h1 h3;have fin:∀(t:HB) (S1:aa),S.length<=t->S1[t]?=ba (.lst ((kj n).map λb=>.tup (ag b)))->Ka S S1->K [ba (.ref r),ba (.int n),ba (.ref t)] S1:=by
  intro t S1 ht et ka;refine hK _ _ (st ?_);left;refine dR et ?_;rw[Hv];refine aJ (d:=d) G.pick (hf.ka ka) ∅ ∅ λv S2 v0 v1 f2 k2=>?_
  have e2:=k2.get _ _ (by have:=hf.lt; omega) et
  obtain⟨b,hb,eb⟩:=j8 (f:=λb:Hr HM=>W.tup (ag b)) (xs:=kj n) (i:=v.toNat) ∅
  exact gf e2 v0 eb (k b S2 (hg b hb).1 (hg b hb).2 f2 ((ka.kp r).trans k2))
 clear hK g0 g3 hg;rcases(show n=1\/n=2\/n=3 by omega)with rfl|rfl|rfl
 ·exact dB (i:=0) af rfl (fin _ _ (HE _) (ak (ak (ak af))) (Ka.push.trans (Ka.push.trans (Ka.push.trans .push))))
 ·exact dB (i:=1) af rfl (fin _ _ (by simp) (ak (ak af)) (Ka.push.trans (Ka.push.trans (Ka.push.trans .push))))
 ·exact dB (i:=2) af rfl (fin _ _ (by simp only[HK]; omega) (ak af) (Ka.push.trans (Ka.push.trans (Ka.push.trans .push))))
def lA (hfu:20 < fuel)(G:Gen defs){a:HB}{bs:Hr HM}{x:W}{us:Hr Wd}(hf:Fl S r)(ha:a<=3)(hb:bs.length<=3)(hx:∀S',Kp r S S'->du S' x=ba (us.map az))(h64:us.length < 64)(hne:∀u∈us,u≠[])
  (k:∀(ms ns:Hr HY) S',ms.length=a->ns.length=bs.length->GoodN ms ns->Fl S' r->Kp r S S'->Q (cZ ms ns bs (b8 us),S')) :
  wO (aL (ah defs fuel (d+5)) "_law_rule_of" 4 [.ref r,.int a,.tup (ag bs),x] S) Q:=by
 refine aw G.rule_of rfl rfl λQ' hR=>?_
 replace k:∀(ms ns:Hr HY) S',ms.length=a->ns.length=bs.length->GoodN ms ns->Fl S' r->Kp r S S'->Q' (.rt (cZ ms ns bs (b8 us)),S'):=λz y S' a b c e f=>hR _ _ (k z y S' a b c e f)
 clear hR;show wZ _ _ cF [ba (.ref r),ba (.int a),ba (.tup (ag bs)),ba x,gV,gV] S Q';have hbl:(ag bs).length=bs.length:=Hv ..;dsimp only[cF];nofun
 left;refine aS ?_;rw[hbl];dsimp only[cp,aH];refine Ae (d:=d) (m:=a+bs.length) hfu G hf ∅ λys S1 q2 q3 q4 f1 k1=>hK _ _ ?_
 clear hK K;have hzl:(HR aE (ys.drop a) bs).length=bs.length:=by
  rw[JS,KS]; omega
 nofun
 dsimp only[wS,wE,wA,HN];refine da (bs.length:HM) (λk zs Z2 S2=>(∃a1,Z2=[gV,a1,ba (.tup (ag bs)),ba (.int a),ba (.tup (ys.map W.str))])/\zs=((HR aE (ys.drop a) bs).take k)/\S2=S1) rfl rfl rfl ∅ ?_ ?_ ?_
 ·dsimp only[wE,wA,wV,wG];refine aS ?_;rw[hbl];exact#[rfl,#[gV,rfl],rfl,rfl]
 ·rintro i zs Z2 S2 hi ⟨⟨a1,rfl⟩,rfl,rfl⟩;clear hK;have hi':i < bs.length:=∅
  have h1:a+i < ys.length:=∅
  dsimp only[fK,wC,wE,wA,wV,wG,HN,cp,aH];refine#[λ_=>aj ∅ (w:=.str ys[a+i]) ?_ (aj ∅ (w:=.int bs[i]) ?_ #[#[_,rfl],?_,rfl]),λz=>by cases z]
  ·rw[show((a:HM)+(i:HM)).toNat=a+i by omega,HF,HC h1]; rfl
  ·unfold ag;rw[HU,HF,HC hi']; rfl
  ·have ez:(HR aE (ys.drop a) bs)[i]?=ba (aE ys[a+i] bs[i]):=gH (by rw[List.getElem?_drop]; exact HC h1) (HC hi')
   rw[IG,ez];rfl
 ·rintro zs Z2 S2 ⟨_,rfl,rfl⟩;rw[HU,<- hzl,Jk];refine#[jb ∅,cQ af (hK _ _ ?_)]
  clear hK K;refine st ?_;dsimp only[wS,wE,wA,wP,wV,wG,wN];have hs:uE (.tup (ys.map W.str)) gV (ba (a:HM)) (S2++[O.lst (HR aE (ys.drop a) bs)])=ba (.tup ((ys.take a).map W.str),S2++[O.lst (HR aE (ys.drop a) bs)]):=by
   simp only[uE,j9];rw[Of]
  refine ae hs (xx (hx _ (k1.trans .push)) h64 hne (cQ af ?_));refine k (ys.take a) (ys.drop a) _ ?_ ?_ #[?_,?_] ((f1.ka .push).ka .push) (k1.trans (Kp.push.trans .push))
  ·rw[Jj]; omega
  ·rw[KS]; omega
  ·rw[NK]; exact q3
  ·rw[NK]; exact q4
def eJ (hfu:20 < fuel)(G:Gen defs){a:HB}{bs:Hr HM}(hf:Fl S r)(ha:a<=3)(hb:bs.length<=3)
  (k:∀(ms ns:Hr HY) S',ms.length=a->ns.length=bs.length->GoodN ms ns->Fl S' r->Kp r S S'->Q (cZ ms ns bs [],S')) :
  wO (aL (ah defs fuel (d+5)) "_law_rule_of" 4 [.ref r,.int a,.tup (ag bs),.tup []] S) Q:=
 lA hfu G hf ha hb (us:=[]) (λ_ _=>rfl) #v[] (λ_ h=>nomatch h) k
def draws {M:HY->FF}{Z:Fm}{elt e:E}{cap:Hr (HA HB)}{n i:HB}{R:Fm}(oe:dG elt=true)(oi:dG e=true)(h1:i<=1000)(hc:eE cap Z=gV::gV::R)(hf:Fl S r)(he:∀Q:QW,Q (.int i,S)->wE M e Z S Q)
  (hp:∀(a:HA W) (S1:aa) (Q:QW),Fl S1 r->(∀v S',0<=v->v < (n:HM)->Fl S' r->Kp r S1 S'->Q (.int v,S'))->wE M elt (gV::a::R) S1 Q)
  (k:∀(vs:Hr HM) S',vs.length=i->(∀w∈vs,0<=w/\w < (n:HM))->Fl S' r->Kp r S S'->Q (.ref S'.length,S'++[.lst (ag vs)])) :
  Wp (au M (.comp elt (.nm 1) (.rng #v[e]) .nil cap) Z S) Q:=by
 refine da (i:HM) (λj ys Z2 S3=>(∃a1,Z2=gV::a1::R)/\(∃vs:Hr HM,ys=ag vs/\vs.length=j/\∀w∈vs,0<=w/\w < (n:HM))/\Fl S3 r/\Kp r S S3) oi oe rfl ∅ (he _ #[rfl,#[gV,hc],#[[],rfl,rfl,λ_ h=>nomatch h],hf,.refl]) ?_ ?_
 ·rintro j ys Z2 S3 hj ⟨⟨a1,rfl⟩,⟨vs,rfl,hvl,hv⟩,f3,k3⟩;refine#[λ_=>hp _ _ _ f3 λv S4 v0 v1 f4 k4=>#[#[_,rfl],#[vs++[v],(Ir (l₁:=vs) (l₂:=[v])).symm,by rw[HK,hvl]; rfl,λw hw=>?_],f4,k3.trans k4],λz=>by cases z]
  rcases Io.mp hw with h|h
  ·exact hv w h
  ·rw[HJ.mp h]; exact#[v0,v1]
 ·rintro ys Z2 S3 ⟨_,⟨vs,rfl,hvl,hv⟩,f3,k3⟩;rw[HU]at hvl;exact#[jb (by rw[show(ag vs).length=vs.length from Hv ..]; omega),k vs S3 hvl hv f3 k3]
def ig (G:Gen defs){a n:HB}(hf:Fl S r)(ha:0 < a)(ha3:a<=3)(hn:0 < n)(hn3:n<=3)(k:∀(u:Wd) S',u.length=3->GoodW a n u->Fl S' r->Kp r S S'->Q (az u,S')) :
  wO (aL (ah defs fuel (d+2)) "_law_free_three" 3 [.ref r,.int a,.int n] S) Q:=by
 refine aw G.free_three rfl rfl λQ' hR=>?_
 replace k:∀(u:Wd) S',u.length=3->GoodW a n u->Fl S' r->Kp r S S'->Q' (.rt (az u),S'):=λz S' a b c e=>hR _ _ (k z S' a b c e)
 clear hR;show wZ _ _ bE [ba (.ref r),ba (.int a),ba (.int n),gV,gV] S Q';dsimp only[bE];have hrt:=hf.lt;refine st ?_;dsimp only[wS,wE,wA,HN];nofun
 refine b6 3 (λk Z S'=>∃a4 u,Z=[ba (.ref r),ba (.int a),ba (.int n),ba (.ref S.length),a4]/\S'[S.length]?=ba (.lst (u.map gg))/\u.length=k/\GoodW a n u/\Fl S' r/\Kp r S S') rfl rfl #v[] #[rfl,gV,[],rfl,af,rfl,.nil,hf.ka .push,.push] ?_ ?_
 ·rintro i Z S1 hi ⟨a4,u,rfl,e1,hul,hu,f1,k1⟩ Q2 hn' _;clear hK;refine st ?_;left;refine#[cW e1,aJ (d:=d) G.pick f1 ∅ ∅ λv S2 v0 v1 f2 k2=>?_]
  have e2:=k2.get _ _ ∅ e1
  refine draws (n:=n) (i:=i) (R:=[ba (.ref r),ba (.int n)]) rfl rfl ∅ rfl f2 (λQ q=>q) (λa S1 Q f q=>aJ (d:=d) G.pick f ∅ ∅ q) λvs S3 hvl hv f3 k3=>?_
  have e3:=ak (u:=O.lst (ag vs)) (k3.get _ _ ∅ e2)
  refine cQ af (i5 e3 (by rw[Hv]; omega) (bH (hn' _ _ #[_,u++[(v,vs)],rfl,?_,by rw[HK,hul]; rfl,hu.snoc #[v0,v1] (hvl.trans hul.symm) hv,(f3.ka .push).own hrt,(k1.trans (k2.trans (k3.trans .push))).late (HE _)])))
  rw[bm e3,Ir]; rfl
 ·rintro Z S1 ⟨a4,u,rfl,e1,hul,hu,f1,k1⟩;refine hK _ _ (st ?_);left;exact cQ e1 (k u _ hul hu f1 k1)
def ft (G:Gen defs)(hg:Is defs ("_law_any_world" : HY) 3 6 bp){a:HB}{bs:Hr HM}{ms ns:Hr HY}{b0:W}{many:HB}(hf:Fl S r)(ha:0 < a)(ha3:a<=3)(hb:GoodB bs)(hml:ms.length=a)(hnl:ns.length=bs.length)(hm:many<=999)(k:∀(u:Wd) S',u.length=many->GoodW a bs.length u->Fl S' r->Kp r S S'->Q (az u,S')) :
  wO (aL (ah defs fuel (d+2)) "_law_any_world" 3 [.ref r,.tup [.tup (ms.map W.str),.tup (HR aE ns bs),b0],.int many] S) Q:=by
 refine aw hg rfl rfl λQ' hR=>?_
 replace k:∀(u:Wd) S',u.length=many->GoodW a bs.length u->Fl S' r->Kp r S S'->Q' (.rt (az u),S'):=λz S' a b c e=>hR _ _ (k z S' a b c e)
 clear hR;have hb1:1<=bs.length/\bs.length<=3:=by rcases hb with rfl|rfl|rfl|rfl|rfl|rfl <;> decide
 have hzl:(HR aE ns bs).length=bs.length:=by rw[JS]; omega
 have hmm:(ms.map W.str).length=a:=by rw[Hv,hml]
 generalize ms.map W.str=tx at hmm;generalize HR aE ns bs=N at hzl;show wZ _ _ bp [ba (.ref r),ba (.tup [.tup tx,.tup N,b0]),ba (.int many),gV,gV,gV] S Q';dsimp only[bp];have hrt:=hf.lt;refine st ?_;dsimp only[wS,wE,wA,HN];nofun
 refine b6 (many:HM) (λk Z S'=>∃a4 a5 u,Z=[ba (.ref r),ba (.tup [.tup tx,.tup N,b0]),ba (.int many),ba (.ref S.length),a4,a5]/\S'[S.length]?=ba (.lst (u.map gg))/\u.length=k/\GoodW a bs.length u/\Fl S' r/\Kp r S S') rfl rfl ∅ #[rfl,gV,gV,[],rfl,af,rfl,.nil,hf.ka .push,.push] ?_ ?_
 ·rintro i Z S1 hi ⟨a4,a5,u,rfl,e1,hul,hu,f1,k1⟩ Q2 hn' _;clear hK;refine st ?_;left;refine aj #v[] rfl (aS ?_)
  rw[hmm];refine aJ (d:=d) G.pick f1 ∅ ∅ λv S2 v0 v1 f2 k2=>?_
  have e2:=k2.get _ _ ∅ e1
  refine st ?_;left;refine#[cW e2,draws (n:=bs.length) (i:=i) (R:=[ba (.ref r),ba (.tup [.tup tx,.tup N,b0])]) rfl rfl ∅ rfl f2 (λQ q=>q) (λa S1 Q f q=>?_) λvs S3 hvl hv f3 k3=>?_]
  ·dsimp only[wE,wA,wV,wG];refine aj #v[] rfl (aS ?_)
   rw[hzl];exact aJ (d:=d) G.pick f ∅ ∅ q
  have e3:=ak (u:=O.lst (ag vs)) (k3.get _ _ ∅ e2)
  refine cQ af (i5 e3 (by rw[Hv]; omega) (bH (hn' _ _ #[_,_,u++[(v,vs)],rfl,?_,by rw[HK,hul]; rfl,hu.snoc #[v0,v1] (hvl.trans hul.symm) hv,(f3.ka .push).own hrt,(k1.trans (k2.trans (k3.trans .push))).late (HE _)])))
  rw[bm e3,Ir]; rfl
 ·rintro Z S1 ⟨a4,a5,u,rfl,e1,hul,hu,f1,k1⟩;refine hK _ _ (st ?_);left;exact cQ e1 (k u _ ∅ hu f1 k1)
end
abbrev d7 (n:HB):Hr HM:=(Ix n).map λ(k:HB)=>(k:HM)
abbrev xB (a n:HB):Hr Wd:=(d7 a).flatMap λm0=>(d7 a).flatMap λm1=>(d7 a).flatMap λm2=>(d7 n).flatMap λw1=>(d7 n).flatMap λw2=>(d7 n).map λw3=>[(m0,[]),(m1,[w1]),(m2,[w2,w3])]
abbrev aK (a:HB)(bs:Hr HM):Hr Wd:=((xB a bs.length).map (jc bs)).eraseDups
def ce {n:HB}{x:HM}(h0:0<=x)(h1:x < n):x∈d7 n:=HX.mpr #[x.toNat,IU.mpr ∅,∅]
def ug {a n:HB}{u:Wd}(h:GoodW a n u)(h3:u.length=3):u∈xB a n:=by
 match u,h3 with
 | [(m0,w0),(m1,w1),(m2,w2)],_=>
  have l0:=h.len 0 _ rfl;have l1:=h.len 1 _ rfl;have l2:=h.len 2 _ rfl;simp only at l0 l1 l2
  match w0,l0 with
  | [],_=>
   match w1,l1 with
   | [x],_=>
    match w2,l2 with
    | [y,z],_=>
     have a0:=h.mark 0 _ rfl;have a1:=h.mark 1 _ rfl;have a2:=h.mark 2 _ rfl;have b1:=h.way 1 _ rfl x (by simp)
     have b2:=h.way 2 _ rfl y (by simp)
     have b3:=h.way 2 _ rfl z (by simp)
     unfold xB;simp only[Nd,HX];exact#[m0,ce a0.1 a0.2,m1,ce a1.1 a1.2,m2,ce a2.1 a2.2,x,ce b1.1 b1.2,y,ce b2.1 b2.2,z,ce b3.1 b3.2,rfl]
def sj {a:HB}{bs:Hr HM}{u:Wd}(h:GoodW a bs.length u)(h3:u.length=3):jc bs u∈aK a bs:=by
 unfold aK;rw[Ox];exact HX.mpr #[u,ug h h3,rfl]
structure SizeOk (a:HB)(bs:Hr HM):Prop where
 pos:0 < a
 good:GoodB bs
 most:a*bs.length<=6
 a3:a<=3
def SizeOk.n3 {a:HB}{bs:Hr HM}(h:SizeOk a bs):0 < bs.length/\bs.length<=3:=by
 rcases h.good with rfl|rfl|rfl|rfl|rfl|rfl <;> decide
def Gx:(aK 1 [0]).length < 64/\(aK 2 [0]).length < 64/\(aK 3 [0]).length < 64:=by decide +kernel
def Fu:(aK 1 [0,1]).length < 64/\(aK 2 [0,1]).length < 64/\(aK 1 [1,0]).length < 64/\(aK 2 [1,0]).length < 64:=by decide +kernel
def Gy:(aK 1 [0,1,2]).length < 64/\(aK 1 [1,0,2]).length < 64/\(aK 1 [0,2,1]).length < 64:=by decide +kernel
def Gz:(aK 3 [0,1]).length < 64:=by decide +kernel
def GB:(aK 3 [1,0]).length < 64:=by decide +kernel
def GC:(aK 2 [0,1,2]).length < 64:=by decide +kernel
def GD:(aK 2 [1,0,2]).length < 64:=by decide +kernel
def GF:(aK 2 [0,2,1]).length < 64:=by decide +kernel
def mN {a:HB}{bs:Hr HM}(h:SizeOk a bs):(aK a bs).length < 64:=by
 obtain⟨h0,hb,hm,h3⟩:=h;have ha:a=1\/a=2\/a=3:=∅
 rcases hb with rfl|rfl|rfl|rfl|rfl|rfl <;> rcases ha with rfl|rfl|rfl
 ·exact Gx.1
 ·exact Gx.2.1
 ·exact Gx.2.2
 ·exact Fu.1
 ·exact Fu.2.1
 ·exact Gz
 ·exact Fu.2.2.1
 ·exact Fu.2.2.2
 ·exact GB
 ·exact Gy.1
 ·exact GC
 ·simp at hm
 ·exact Gy.2.1
 ·exact GD
 ·simp at hm
 ·exact Gy.2.2
 ·exact GF
 ·simp at hm
def xC (bs:Hr HM)(u:Wd):∃t∈aO,jc bs u=aD bs u t:=by
 have h7:(aO.map (aD bs u)).length=6:=by rw[Hv]; rfl
 have h8:((aO.map (aD bs u)).map cG).length=6:=by rw[Hv,h7]
 have hlt:jH ((aO.map (aD bs u)).map cG) < (aO.map (aD bs u)).length:=by
  unfold jH;have h6:=dC (kz ((aO.map (aD bs u)).map cG)) (((aO.map (aD bs u)).map cG).length - 1);rw[h7]; omega
 unfold jc;rw[getD_some (HC hlt)];obtain⟨t,ht,e⟩:=HX.mp (IC hlt);exact#[t,ht,e.symm]
def Ah (bs:Hr HM)(u:Wd):jc bs u≠[]:=by
 obtain⟨t,ht,e⟩:=xC bs u;rw[e];have:∀t∈aO,t≠[]:=by decide
 have h:=this t ht;intro z;have hl:(aD bs u t).length=t.length:=by simp[aD]
 rw[z]at hl;exact h (Jo.mp hl.symm)
def oV:∀ {xs ys:Hr HM},xs.map T.int=ys.map T.int->xs=ys
 | [],[],_=>rfl
 | [],_::_,h=>by cases h
 | _::_,[],h=>by cases h
 | x::xs,y::ys,h=>by
  rw[IZ,IZ]at h;injection h with h1 h2
  injection h1 with h1
  rw[h1,oV h2]
def Ai {p q:Pt}(h:mJ p=mJ q):p=q:=by
 unfold mJ at h;injection h with h
 injection h with h1 h2
 injection h1 with h1
 injection h2 with h2 _
 injection h2 with h2
 exact QF h1 (oV h2)
def mO {u v:Wd}(h:cG u=cG v):u=v:=by
 unfold cG at h;injection h with h
 have inj:∀ {u v:Wd},u.map mJ=v.map mJ->u=v:=by
  intro u
  induction u with
  | nil=>intro v h; cases v with
   | nil=>rfl
   | cons _ _=>cases h
  | cons p u ih=>intro v h; cases v with
   | nil=>cases h
   | cons q v=>
    rw[IZ,IZ]at h;injection h with h1 h2
    rw[Ai h1,ih h2]
 exact inj h
def lB {U:Hr (T×W)}{k:T}{v:W}:(dY U k v).map (·.1)=if k∈U.map (·.1)then U.map (·.1)else U.map (·.1)++[k]:=by
 have hany:(U.any λp=>decide (p.1=k))=decide (k∈U.map (·.1)):=by
  induction U with
  | nil=>rfl
  | cons p U ih=>
   rw[Ko,ih,IZ]
   by_cases e:p.1=k
   ·subst e; simp
   ·rw[Iz e,M5];have:(k∈p.1::U.map (·.1))=(k∈U.map (·.1)):=by simp[Ne.symm e]
    simp only[this]
 unfold dY;rw[hany]
 by_cases h:k∈U.map (·.1)
 ·rw[Ic h,Ic (JL h),J6];refine J7 λp _=>?_
  show(if p.1=k then(p.1,v)else p).1=p.1
  split <;> rfl
 ·rw[Im h,Im (by simpa using h),Ir]
  rfl
structure FigD (L:Hr Wd)(U:Hr (T×W))(fs:Hr Wd):Prop where
 keys:U.map (·.1)=fs.map cG
 nd:fs.Nodup
 mem:∀f∈fs,f∈L
def FigD.nil {L:Hr Wd}:FigD L [] []:=#[rfl,NU,λ_ h=>nomatch h]
def FigD.len {L:Hr Wd}{U:Hr (T×W)}{fs:Hr Wd}(h:FigD L U fs):U.length=fs.length/\fs.length<=L.length:=by
 have:=congrArg QE h.keys;rw[Hv,Hv]at this;exact#[this,mI fs L h.nd h.mem]
def FigD.put {L:Hr Wd}{U:Hr (T×W)}{fs:Hr Wd}{f:Wd}{v:W}(h:FigD L U fs)(hf:f∈L):∃fs',FigD L (dY U (cG f) v) fs':=by
 by_cases hm:f∈fs
 ·refine#[fs,?_,h.nd,h.mem];rw[lB,Ic (by rw[h.keys]; exact HX.mpr #[f,hm,rfl]),h.keys]
 ·refine#[fs++[f],?_,?_,λg hg=>?_]
  ·rw[lB,Im,h.keys,Ir]
   ·rfl
   ·rw[h.keys];intro z;obtain⟨g,hg,e⟩:=HX.mp z;exact hm (mO e ▸ hg)
  ·rw[Kk];refine#[h.nd,by simp,λa ha b hb e=>?_]
   rw[HJ.mp hb]at e;exact hm (e ▸ ha)
  ·rcases Io.mp hg with h'|h'
   ·exact h.mem g h'
   ·rw[HJ.mp h']; exact hf
def FigD.items {S:aa}{t:HB}{L:Hr Wd}{U:Hr (T×W)}{fs:Hr Wd}(h:FigD L U fs)(e:S[t]?=ba (.dic U)):du S (.ref t)=ba (fs.map az):=by
 simp only[du,mG e,cz e,IK];congr 1;have:(U.map (·.1)).map T.w=(fs.map cG).map T.w:=by rw[h.keys]
 rw[J6,J6]at this
 calc U.map (λp=>p.1.w)=U.map (T.w∘λx=>x.1):=rfl
  _=fs.map (T.w∘cG):=this
  _=fs.map az:=by
   refine J7 λf _=>?_
   exact xp f
def oW {a:HB}{bs:Hr HM}{f:Wd}(h:f∈aK a bs):f≠[]:=by
 unfold aK at h;rw[Ox]at h;obtain⟨u,_,rfl⟩:=HX.mp h;exact Ah bs u
def E2 {S:aa}{t:HB}{U:Hr (T×W)}{u:Wd}{v:W}(h:S[t]?=ba (.dic U))(hl:U.length < sizeLine):gT (.ref t) (az u) v S=ba (S.set t (.dic (dY U (cG u) v))):=by
 have hk:=CV u;unfold az at hk ⊢;simp only[gT,ma,h,hk];rw[Ic hl]
structure RuleAt (a:HB)(bs:Hr HM)(ms ns:Hr HY)(gs:Hr Wd):Prop where
 size:SizeOk a bs
 ml:ms.length=a
 nl:ns.length=bs.length
 nm:GoodN ms ns
 nd:gs.Nodup
 mem:∀g∈gs,g∈aK a bs
abbrev dD (w:W):Prop:=∃a bs ms ns gs,w=cZ ms ns bs (b8 gs)/\RuleAt a bs ms ns gs
section
variable{M:HY->FF}{fuel:HB}{Z:Fm}{S:aa}{K:Fm->aa->Prop}{Q:QO}
def ii {i0:HB}{e:E}{b:Ss}(oe:dG e=true)(ok:hG b=true)(he:wE M e Z S λp=>∃(j:HM) (I:HB->Fm->aa->Prop),p.1=.int j/\(-(2 ^ 62)<=j/\j < 2 ^ 62)/\I 0 Z p.2/\
  (∀(i:HB) (Z:Fm) (S:aa),(i:HM) < j->I i Z S->yk M fuel b (Z.set i0 (ba (.int i))) S (I (i+1)) Q)/\∀Z S,I j.toNat Z S->K Z S):Wp (fR M fuel (.loop (.nm i0) (.rng #v[e]) b) Z S) (r6 K Q):=by
 obtain⟨w,S1,e1,j,I,rfl,hj,h0,hs,hend⟩:=bT oe he;have hl:(cg 0 j.toNat).length=j.toNat:=by simp[cg]
 refine j3 (mi:=.its (cg 0 j.toNat)) (S1:=S1) (xs:=cg 0 j.toNat) I ok ?_ (λ_ _ _ _=>rfl) rfl h0 (λi w Z S hw hI=>?_) λZ S hI=>hend Z S (hl ▸ hI)
 ·simp only[kB,cm,dO,i9,qt,e1];rw[Ic hj]
 ·rw[dw]at hw;split at hw
  ·rename_i hk;cases hw;rw[Ms];exact hs i Z S ∅ hI
  ·cases hw
def fu {tg:Tg}{e:E}{b:Ss}(oe:dG e=true)(ok:hG b=true)(he:wE M e Z S λp=>∃(t:HB) (xs:Hr W) (I:HB->Fm->aa->Prop),p.1=.ref t/\I 0 Z p.2/\(∀i Z S,I i Z S->S[t]?=ba (.lst xs))/\
  (∀(i:HB) (w:W) (Z:Fm) (S:aa),xs[i]?=ba w->I i Z S->wO (im tg w Z S) λq=>yk M fuel b q.1 q.2 (I (i+1)) Q)/\∀Z S,I xs.length Z S->K Z S):Wp (fR M fuel (.loop tg (.seq e) b) Z S) (r6 K Q):=by
 obtain⟨w,S1,e1,t,xs,I,rfl,h0,hat,hs,hend⟩:=bT oe he;exact j3 (mi:=.live t) (S1:=S1) I ok (by simp only[kB,eQ,e1,ar (hat _ _ _ h0)]) (λi Z S h=>by simp only[MI.at,ar (hat _ _ _ h)]) (by simp only[MI.len,ar (hat _ _ _ h0),IK]) h0 hs hend
end
section
variable{defs:Hr (HY×Df)}{fuel d:HB}{S:aa}{r:HB}{Q:QW}
def xD {q:HB}{a:HB}{bs:Hr HM}{ms ns:Hr HY}{fs0:Hr Wd}{U:Hr (T×W)}{fs:Hr Wd}(h3:S[q]?=ba (.dic U))(h4:FigD (aK a bs) U fs)(hs:SizeOk a bs)(hml:ms.length=a)(hnl:ns.length=bs.length)(hnm:GoodN ms ns)(k:∀w S',dD w->Ka S S'->Q (w,S')) :
  wO (mX (cZ ms ns bs fs0) (.int 0) S) λp=>wO (mX (cZ ms ns bs fs0) (.int 1) p.2) λq'=>wO (Bi.sorted.fn [.ref q] q'.2) λs=>wO (Bi.tuple.fn [s.1] s.2) λz=>Q (.tup [p.1,q'.1,z.1],z.2):=by
 refine aj #v[] rfl (aj #v[] rfl ?_)
 have hl:=h4.len;exact xx (h4.items h3) (by have:=mN hs; omega) (λf hf=>oW (h4.mem f hf)) (cQ af (k _ _ #[a,bs,ms,ns,fs,rfl,hs,hml,hnl,hnm,h4.nd,h4.mem] .push))
def xE {q:HB}{a:HB}{bs:Hr HM}{u:Wd}{U:Hr (T×W)}{fs:Hr Wd}{Q:aa->Prop}(h3:S[q]?=ba (.dic U))(h4:FigD (aK a bs) U fs)(hs:SizeOk a bs)(hu:GoodW a bs.length u)(hu3:u.length=3)
  (k:∀o,(∃U fs,(S.set q o)[q]?=ba (.dic U)/\FigD (aK a bs) U fs)->Q (S.set q o)):wO (gT (.ref q) (az (jc bs u)) (.bl true) S) Q:=by
 have hl:=h4.len;have:=mN hs;obtain⟨fs',h5⟩:=h4.put (v:=.bl true) (sj hu hu3);exact ae (E2 h3 (by rw[IX]; omega)) (k _ #[_,fs',bm h3,h5])
def qJ (hfu:20 < fuel)(G:Gen defs)(hf:Fl S r)(k:∀w S',dD w->Fl S' r->Kp r S S'->Q (w,S')):wO (aL (ah defs fuel (d+6)) "_law_any_rule" 1 [.ref r] S) Q:=by
 refine aw G.any_rule rfl rfl λQ' hR=>?_
 replace k:∀w S',dD w->Fl S' r->Kp r S S'->Q' (.rt w,S'):=λz S' a b c=>hR _ _ (k z S' a b c)
 clear hR;show wZ _ _ b7 [ba (.ref r),gV,gV,gV,gV,gV] S Q';dsimp only[b7];nofun
 left;refine mL (d:=d+3) G hf λa n S1 a1 a3 n1 n3 an f1 k1=>?_
 dsimp only[wU];refine ae (show dv [1,2] [.int a,.int n] [ba (.ref r),gV,gV,gV,gV,gV]=ba [ba (.ref r),ba (.int a),ba (.int n),gV,gV,gV]from rfl) (hK _ _ ?_)
 clear hK K;nofun
 left;refine mM (d:=d+3) G f1 n1 n3 λbs S2 hb hbl f2 k2=>?_
 have hsz:SizeOk a bs:=#[∅,hb,by rw[hbl]; exact an,a3]
 refine eJ (d:=d) hfu G f2 a3 ∅ λms ns S3 hml hnl hnm f3 k3=>hK _ _ ?_
 clear hK K;have hrt:=f3.lt;replace k3:Kp r S S3:=k1.trans (k2.trans k3);clear k1 k2 f1 f2;refine st ?_;dsimp only[wS,wE,HN];nofun
 refine ii rfl rfl ?_;dsimp only[wE,wA,wV,wG];refine aJ (d:=d+4) G.pick (f3.ka .push) #v[] #v[] λv S4 v0 v9 f4 k4=>?_
 refine#[v,λk Z S'=>(∃a5,Z=[ba (.ref r),ba (.int a),ba (.int n),ba (cZ ms ns bs []),ba (.ref S3.length),a5])/\(∃U fs,S'[S3.length]?=ba (.dic U)/\FigD (aK a bs) U fs)/\Fl S' r/\Kp r S S',rfl,∅,#[#[gV,rfl],#[[],[],k4.get _ _ ∅ af,.nil],f4,(k3.trans .push).trans k4],?_,?_]
 ·rintro i Z S5 hi ⟨⟨a5,rfl⟩,⟨U,fs,e5,hd⟩,f5,k5⟩ Q2 hn _;clear hK;refine st ?_;left;refine ig (d:=d+3) G f5 ∅ a3 ∅ n3 λu S6 hu3 hu f6 k6=>?_
  have hu:GoodW a bs.length u:=hbl.symm ▸ hu;refine ie (d:=d+2) G hb hnl hu hu3 λS7 k7=>?_
  have e7:=k7.get _ _ (k6.get _ _ ∅ e5)
  exact xE e7 hd hsz hu hu3 λo ho=>bH (hn _ _ #[#[_,rfl],ho,(f6.ka k7).own hrt,((k5.trans k6).trans (k7.kp r)).late k3.len])
 ·rintro Z S5 ⟨⟨a5,rfl⟩,⟨U,fs,e5,hd⟩,f5,k5⟩;refine hK _ _ (st ?_);left;exact xD (Q:=λp=>Q' (.rt p.1,p.2)) e5 hd hsz hml hnl hnm λw S6 hw k6=>k w S6 hw (f5.ka k6) (k5.trans (k6.kp r))
end
abbrev mP (t:HM×HM×HM):W:=.tup [.int t.1,.int t.2.1,.int t.2.2]
abbrev oX (a:HB)(t:HM×HM×HM):Prop:=(0<=t.1/\t.1 < a)/\(0<=t.2.1/\t.2.1 < a)/\(0<=t.2.2/\t.2.2 < a)
abbrev xF (k:HM):Wd:=[(k,[]),(k,[0]),(k,[0,0])]
def GH:∀k∈d7 1,xF k∈aK 1 [0]:=by decide +kernel
def GJ:∀k∈d7 2,xF k∈aK 2 [0]:=by decide +kernel
def GK:∀k∈d7 3,xF k∈aK 3 [0]:=by decide +kernel
def Aj {a:HB}{k:HM}(h0:1<=a)(h3:a<=3)(hk:0<=k)(hk2:k < a):xF k∈aK a [0]:=by
 have ha:a=1\/a=2\/a=3:=∅
 rcases ha with rfl|rfl|rfl
 ·exact GH k (ce hk hk2)
 ·exact GJ k (ce hk hk2)
 ·exact GK k (ce hk hk2)
def Ak {a b:HM}(h:xF a=xF b):a=b:=by
 unfold xF at h;injection h with h1 h2
 injection h1
def mQ:GoodB [0]:=.inl rfl
def E3 {S:aa}{i j:HB}{xs:Hr W}(h1:S[i]?=ba (.lst xs))(h2:S[j]?=ba (.lst [])):cM .eq (.ref i) (.ref j) S=ba (.bl xs.isEmpty,S):=by
 show(iq S (19+1) (.ref i) (.ref j)).map _=_;simp only[iq,cy h1,cy h2];cases xs with
 | nil=>rfl
 | cons x xs=>rfl
def Al {S:aa}{f:HM}{ws:Hr HM}:∃b,cM .notin (.int f) (.tup (ag ws)) S=ba (.bl b,S):=by
 have hf:(bG (.int f)&&(ag ws).all bG)=true:=by
  simp only[bG,LF,Ig];intro x hx;obtain⟨z,_,rfl⟩:=HX.mp hx;rfl
 refine#[!(ag ws).any λz=>yi z (.int f),?_]
 show iu .notin (.int f) (.tup (ag ws)) S=_;simp only[iu,Dp,AO,dL,hf,JP,IK]
section
variable{M:HY->FF}{fuel:HB}{Z:Fm}{S:aa}{K:Fm->aa->Prop}{Q:QO}
def oY {i0:HB}{a b:E}{bd:Ss}(i j:HM)(I:HB->Fm->aa->Prop)(oa:dG a=true)(ob:dG b=true)(ok:hG bd=true)(hj : -(2 ^ 62)<=i/\i < 2 ^ 62/\-(2 ^ 62)<=j/\j < 2 ^ 62)(he:wE M a Z S λp=>p.1=.int i/\wE M b Z p.2 λq=>q.1=.int j/\I 0 Z q.2)
  (hstep:∀(k:HB) (Z:Fm) (S:aa),(k:HM) < j - i->I k Z S->yk M fuel bd (Z.set i0 (ba (.int (i+k)))) S (I (k+1)) Q) (hend:∀Z S,I (j - i).toNat Z S->K Z S):Wp (fR M fuel (.loop (.nm i0) (.rng2 #v[a,b]) bd) Z S) (r6 K Q):=by
 obtain⟨w,S1,e1,rfl,h1⟩:=bT oa he;obtain⟨w,S2,e2,rfl,h0⟩:=bT ob h1;have hl:(cg i (j - i).toNat).length=(j - i).toNat:=by simp[cg]
 refine j3 (mi:=.its (cg i (j - i).toNat)) (S1:=S2) (xs:=cg i (j - i).toNat) I ok ?_ (λ_ _ _ _=>rfl) rfl h0 (λk w Z S hw hI=>?_) λZ S hI=>hend Z S (hl ▸ hI)
 ·simp only[kB,cm,dO,i9,iRng2,e1,e2];rw[Ic hj]
 ·rw[dw]at hw;split at hw
  ·rename_i hk;cases hw;exact hstep k Z S ∅ hI
  ·cases hw
def xG {elt a b:E}{i0:HB}{cs:Es}{cap:Hr (HA HB)}{Q:QW}(i j:HM)(I:HB->Hr W->Fm->aa->Prop)(oa:dG a=true)(ob:dG b=true)(oe:dG elt=true)(oc:mY cs=true)(hj : -(2 ^ 62)<=i/\i < 2 ^ 62/\-(2 ^ 62)<=j/\j < 2 ^ 62)(he:wE M a Z S λp=>p.1=.int i/\wE M b Z p.2 λq=>q.1=.int j/\I 0 [] (eE cap Z) q.2)
  (hstep:∀(k:HB) (ys:Hr W) (Z:Fm) (S:aa),(k:HM) < j - i->I k ys Z S->fK M elt cs (Z.set i0 (ba (.int (i+k)))) S (λy=>I (k+1) (ys++[y])) (I (k+1) ys))
  (hend:∀ys Z S,I (j - i).toNat ys Z S->ys.length<=sizeLine/\Q (.ref S.length,S++[.lst ys])):Wp (au M (.comp elt (.nm i0) (.rng2 #v[a,b]) cs cap) Z S) Q:=by
 obtain⟨w,S1,e1,rfl,h1⟩:=bT oa he;obtain⟨w,S2,e2,rfl,h0⟩:=bT ob h1;have hl:(cg i (j - i).toNat).length=(j - i).toNat:=by simp[cg]
 refine j4 (mi:=.its (cg i (j - i).toNat)) (S1:=S2) (xs:=cg i (j - i).toNat) I oe oc ?_ (λ_ _ _ _ _=>rfl) rfl h0 (λk w ys Z S hw hI=>?_) λys Z S hI=>hend ys Z S (hl ▸ hI)
 ·simp only[kB,cm,dO,i9,iRng2,e1,e2];rw[Ic hj]
 ·rw[dw]at hw;split at hw
  ·rename_i hk;cases hw;exact hstep k ys Z S ∅ hI
  ·cases hw
end
section
variable{defs:Hr (HY×Df)}{fuel d:HB}{S:aa}{r:HB}{Q:QW}
def xH (G:Gen defs){a:HB}(ha:a<=3)(k:∀(q:HB) (ts:Hr (HM×HM×HM)) (S':aa),S'[q]?=ba (.lst (ts.map mP))->(∀t∈ts,oX a t)->S.length<=q->Ka S S'->Q (.ref q,S')) :
  wO (aL (ah defs fuel (d+1)) "_law_rising" 1 [.int a] S) Q:=by
 refine aw G.rising rfl rfl λQ' hR=>?_
 replace k:∀(q:HB) (ts:Hr (HM×HM×HM)) (S':aa),S'[q]?=ba (.lst (ts.map mP))->(∀t∈ts,oX a t)->S.length<=q->Ka S S'->Q' (.rt (.ref q),S'):=λq ts S' a b c e=>hR _ _ (k q ts S' a b c e)
 clear hR;show wZ _ _ de [ba (.int a),gV,gV,gV] S Q';dsimp only[de];refine st ?_;dsimp only[wS,wE,wA,HN];nofun
 refine b6 (a:HM) (λi Z S'=>∃(q:HB) (ts:Hr (HM×HM×HM)) (a2 a3:HA W),Z=[ba (.int a),ba (.ref q),a2,a3]/\S'[q]?=ba (.lst (ts.map mP))/\(∀t∈ts,oX a t)/\S.length<=q/\ts.length<=9*i/\Ka S S') rfl rfl ∅ #[rfl,_,[],_,_,rfl,af,λ_ h=>(nomatch h),HE _,Jx _,.push] ?_ ?_
 ·rintro i Z S1 hi ⟨q,ts,a2,a3,rfl,e1,ht,hq,hl,k1⟩ Q2 hn _;clear hK k;nofun
  refine oY (i:HM) (a:HM) (λj Z S'=>∃(q:HB) (ts:Hr (HM×HM×HM)) (a3:HA W),Z=[ba (.int a),ba (.ref q),ba (.int i),a3]/\S'[q]?=ba (.lst (ts.map mP))/\(∀t∈ts,oX a t)/\S.length<=q/\ts.length<=9*i+3*j/\Ka S S') rfl rfl rfl ∅ #[rfl,rfl,q,ts,a3,rfl,e1,ht,hq,∅,k1] ?_ ?_
  ·rintro j Z S2 hj ⟨q,ts,a3,rfl,e2,ht,hq,hl,k2⟩ Q3 hn3 _;clear hK hn;refine st ?_;dsimp only[wS,wE,wV,wG,HN];refine xG ((i:HM)+j) (a:HM) (λm ys Z2 S3=>(∃a1,Z2=[gV,a1,ba (.int i),ba (.int ((i:HM)+j))])/\(∃us:Hr (HM×HM×HM),ys=us.map mP/\us.length=m/\∀t∈us,oX a t)/\S3=S2) rfl rfl rfl rfl ∅ #[rfl,rfl,#[gV,rfl],#[[],rfl,rfl,λ_ h=>nomatch h],rfl] ?_ ?_
   ·rintro m ys Z2 S3 hm ⟨⟨a1,rfl⟩,⟨us,rfl,hul,hu⟩,rfl⟩;refine#[λ_=>#[#[_,rfl],#[us++[((i:HM),(i:HM)+j,(i:HM)+j+m)],by rw[Ir]; rfl,by rw[HK,hul]; rfl,λt h=>?_],rfl],λz=>by cases z]
    rcases Io.mp h with h|h
    ·exact hu t h
    ·rw[HJ.mp h];exact#[#[∅,∅],#[by dsimp only; omega,by dsimp only; omega],#[by dsimp only; omega,by dsimp only; omega]]
   ·rintro ys Z2 S3 ⟨_,⟨us,rfl,hul,hu⟩,rfl⟩;refine#[jb (by rw[Hv]; omega),ae (qG (ak e2) af ?_) (bH (hn3 _ _ #[_,ts++us,_,rfl,?_,λt h=>(Io.mp h).elim (ht t) (hu t),?_,?_,k2.trans (Ka.push.trans .push)]))]
    ·refine jb ?_;rw[HK,Hv,Hv];omega
    ·rw[Ir]; exact af
    ·have:=k2.len;simp only[HK]; omega
    ·rw[HK]; omega
  ·rintro Z S2 ⟨q,ts,a3,rfl,e2,ht,hq,hl,k2⟩;exact hK _ _ (bH (hn _ _ #[q,ts,_,_,rfl,e2,ht,hq,∅,k2]))
 ·rintro Z S1 ⟨q,ts,a2,a3,rfl,e1,ht,hq,hl,k1⟩;refine hK _ _ (st ?_);exact k q ts S1 e1 ht hq k1
def uh (hfu:20 < fuel)(G:Gen defs)(hf:Fl S r)(k:∀w S',dD w->Fl S' r->Kp r S S'->Q (w,S')):wO (aL (ah defs fuel (d+6)) "_law_one_way_rule" 1 [.ref r] S) Q:=by
 refine aw G.one_way_rule rfl rfl λQ' hR=>?_
 replace k:∀w S',dD w->Fl S' r->Kp r S S'->Q' (.rt w,S'):=λz S' a b c=>hR _ _ (k z S' a b c)
 clear hR;show wZ _ _ bn [ba (.ref r),gV,gV] S Q';dsimp only[bn];nofun
 left;refine aJ (d:=d+4) G.pick hf #v[] #v[] λv S1 v0 v3 f1 k1=>?_
 dsimp only[cp,aH];obtain⟨a,ea⟩ : ∃a:HB,1+v=a:=#[(1+v).toNat,∅]
 rw[ea];refine hK _ _ ?_;clear hK K;nofun
 dsimp only[wS,wE,HN];refine da (a:HM) (λk zs Z2 S2=>(∃a1,Z2=[gV,a1,ba (.ref r)])/\(∃ks:Hr HM,zs=(ks.map xF).map az/\ks.Pairwise (·≠·)/\ks.length<=k/\∀x∈ks,0<=x/\x < k)/\Fl S2 r/\Kp r S1 S2) rfl rfl rfl ∅ #[rfl,#[gV,rfl],#[[],rfl,.nil,HE _,λ_ h=>(nomatch h)],f1,.refl] ?_ ?_
 ·rintro i zs Z2 S2 hi ⟨⟨a1,rfl⟩,⟨ks,rfl,hkp,hkl,hks⟩,f2,k2⟩;clear hK k;dsimp only[fK,wC,wT,wE,wA,wV,wG,HN];refine aJ (d:=d+4) G.pick f2 #v[] #v[] λv S3 _ _ f3 k3=>?_
  dsimp only[gF,aH,wB];refine#[λ_=>#[#[_,rfl],#[ks++[(i:HM)],by simp[xF,az,gg],?_,by rw[HK]; exact L3 hkl,λx hx=>?_],f3,k2.trans k3],λ_=>#[#[_,rfl],#[ks,rfl,hkp,∅,λx hx=>#[(hks x hx).1,by have:=(hks x hx).2; omega]],f3,k2.trans k3]]
  ·rw[Lo];refine#[hkp,by simp,λx hx y hy e=>?_]
   have:=(hks x hx).2;rw[HJ.mp hy]at e;omega
  ·rcases Io.mp hx with h|h
   ·exact#[(hks x h).1,by have:=(hks x h).2; omega]
   ·rw[HJ.mp h]; omega
 ·rintro zs Z2 S2 ⟨_,⟨ks,rfl,hkp,hkl,hks⟩,f2,k2⟩;rw[HU]at hkl hks;refine#[jb (by rw[Hv,Hv]; omega),hK _ _ (st ?_)]
  clear hK K;left;have hlt:=f2.lt;refine lA (d:=d) (a:=a) (bs:=[0]) (us:=ks.map xF) hfu G (f2.ka .push) ∅ #v[] (λS' kk=>?_) (by rw[Hv]; omega) (λu hu=>by obtain⟨x,_,rfl⟩:=HX.mp hu; exact List.cons_ne_nil _ _) λms ns S3 hml hnl hnm f3 k3=>?_
  ·simp only[du,ar (kk.get _ _ ∅ af)]
  refine k _ _ #[a,[0],ms,ns,ks.map xF,rfl,#[#[∅,mQ,by simp; omega,∅],hml,hnl,hnm,?_,λg hg=>?_]] f3 (k1.trans (k2.trans (Kp.push.trans k3)))
  ·unfold Rb;rw[LX];exact hkp.imp λh e=>h (Ak e)
  ·obtain⟨x,hx,rfl⟩:=HX.mp hg;exact Aj ∅ ∅ (hks x hx).1 (hks x hx).2
def oZ (hfu:20 < fuel)(G:Gen defs)(hf:Fl S r)(k:∀w S',dD w->Fl S' r->Kp r S S'->Q (w,S')):wO (aL (ah defs fuel (d+6)) "_law_free_rule" 1 [.ref r] S) Q:=by
 refine aw G.free_rule rfl rfl λQ' hR=>?_
 replace k:∀w S',dD w->Fl S' r->Kp r S S'->Q' (.rt w,S'):=λz S' a b c=>hR _ _ (k z S' a b c)
 clear hR;show wZ _ _ bP [ba (.ref r),gV,gV,gV,gV,gV,gV,gV,gV] S Q';dsimp only[bP];nofun
 left;refine mL (d:=d+3) G hf λa n S1 a1 a3 n1 n3 an f1 k1=>?_
 dsimp only[wU];refine ae (show dv [1,2] [.int a,.int n] [ba (.ref r),gV,gV,gV,gV,gV,gV,gV,gV]=ba [ba (.ref r),ba (.int a),ba (.int n),gV,gV,gV,gV,gV,gV]from rfl) (hK _ _ ?_)
 clear hK K;nofun
 left;refine mM (d:=d+3) G f1 n1 n3 λbs S2 hb hbl f2 k2=>?_
 have hsz:SizeOk a bs:=#[∅,hb,by rw[hbl]; exact an,a3]
 refine eJ (d:=d) hfu G f2 a3 ∅ λms ns S3 hml hnl hnm f3 k3=>hK _ _ ?_
 clear hK K;have hrt:=f3.lt;replace k3:Kp r S S3:=k1.trans (k2.trans k3);clear k1 k2 f1 f2;nofun
 dsimp only[wS,wE,HN];refine da (n:HM) (λi zs Z2 S2=>(∃a1,Z2=[gV,a1,ba (cZ ms ns bs [])])/\(∃ks:Hr HM,zs=ag ks/\ks.length<=i)/\S2=S3) rfl rfl rfl ∅ #[rfl,#[gV,rfl],#[[],rfl,HE _],rfl] ?_ ?_
 ·rintro i zs Z2 S2 hi ⟨⟨a1,rfl⟩,⟨ks,rfl,hkl⟩,rfl⟩;clear hK k;have hi':i < bs.length:=∅
  dsimp only[fK,wC,wT,wE,wA,wV,wG,HN];refine aj #v[] rfl (aj (Ip i) (by rw[HU]; exact gH (HC ∅) (HC hi')) (aj #v[] rfl ?_))
  dsimp only[gF,aH,wB];exact#[λ_=>#[#[_,rfl],#[ks++[(i:HM)],by unfold ag; rw[Ir]; rfl,by rw[HK]; exact L3 hkl],rfl],λ_=>#[#[_,rfl],#[ks,rfl,∅],rfl]]
 ·rintro zs Z2 S2 ⟨_,⟨ks,rfl,hkl⟩,rfl⟩;rw[HU]at hkl;have il:(ag ks).length=ks.length:=Hv ..;refine#[jb ∅,hK _ _ ?_]
  clear hK K;nofun
  dsimp only[wS,wT,wE,wA,wV,wG,HN];refine ae (E3 (ak af) af) ?_;dsimp only[wB];have f4:=(f3.ka (Ka.push (o:=O.lst (ag ks)))).ka (Ka.push (o:=O.lst []));have k4:=k3.trans ((Kp.push (o:=O.lst (ag ks))).trans (Kp.push (o:=O.lst [])));have e4:=ak (u:=O.lst []) (af (S:=S2) (o:=O.lst (ag ks)));have hl4:S2.length < (S2++[O.lst (ag ks)]++[O.lst []]).length:=by simp
  generalize hS4:S2++[O.lst (ag ks)]++[O.lst []]=S4 at f4 k4 e4 hl4;clear hS4;have ret:∀Q2:QO,(∀w S',Q' (.rt w,S')->Q2 (.rt w,S'))->wZ (ah defs fuel (d+5)) fuel #v[.ret (.v 3)] [ba (.ref r),ba (.int a),ba (.int n),ba (cZ ms ns bs []),gV,ba (.ref S2.length),gV,gV,gV] S4 Q2:=λQ2 hr=>st (hr _ _ (k _ _ #[a,bs,ms,ns,[],rfl,hsz,hml,hnl,hnm,.nil,λ_ h=>(nomatch h)] f4 k4))
  refine#[λ_=>aq (Q0:=Q') (λ_ Q2 _ hr=>ret Q2 hr) (λz=>by cases z),λhne=>?_]
  dsimp only[gF,aH,wB];refine aq (Q0:=Q') (λ_ Q2 _ hr=>ret Q2 hr) (λ_ Q2 hn _=>bH (hn _ _ (hK _ _ ?_)))
  clear hK ret hn;have hk0:0 < ks.length:=by
   cases ks with
   | nil=>cases hne
   | cons x ks=>exact Nat.succ_pos _
  nofun
  left;refine dR e4 ?_;rw[il];refine aJ (d:=d+4) G.pick f4 ∅ ∅ λv S5 v0 v1 f5 k5=>?_
  have e5:=k5.get _ _ ∅ e4
  obtain⟨x,_,ex⟩:=j8 (f:=W.int) (xs:=ks) (i:=v.toNat) ∅
  refine gf e5 v0 ex (hK _ _ ?_);clear hK K;replace k5:Kp r S S5:=k4.trans k5;have hrt5:=f5.lt;refine st ?_;dsimp only[wS,wE,HN];nofun
  refine ii rfl rfl ?_;dsimp only[wE,wA,wV,wG];refine aJ (d:=d+4) G.pick (f5.ka .push) #v[] #v[] λv S6 v0 v9 f6 k6=>?_
  refine#[v,λ_ Z S'=>(∃a4 a8,Z=[ba (.ref r),ba (.int a),ba (.int n),ba (cZ ms ns bs []),a4,ba (.ref S2.length),ba (.int x),ba (.ref S5.length),a8])/\(∃U fs,S'[S5.length]?=ba (.dic U)/\FigD (aK a bs) U fs)/\Fl S' r/\Kp r S S',rfl,∅,#[#[gV,gV,rfl],#[[],[],k6.get _ _ ∅ af,.nil],f6,(k5.trans .push).trans k6],?_,?_]
  ·rintro i Z S7 hi ⟨⟨a4,a8,rfl⟩,⟨U,fs,e7,hd⟩,f7,k7⟩ Q2 hn _;clear hK k;refine st ?_;left;refine ig (d:=d+3) G f7 ∅ a3 ∅ n3 λu S8 hu3 hu f8 k8=>?_
   have hu:GoodW a bs.length u:=hbl.symm ▸ hu;have e8:=k8.get _ _ ∅ e7
   obtain⟨p0,p1,p2,rfl⟩ : ∃p0 p1 p2,u=[p0,p1,p2]:=by
    match u,hu3 with
    | [p0,p1,p2],_=>exact#[p0,p1,p2,rfl]
   have l1:=hu.len 1 p1 rfl;obtain⟨m1,ws1⟩:=p1;obtain⟨w1,rfl⟩ : ∃w1,ws1=[w1]:=by
    match ws1,l1 with
    | [w1],_=>exact#[w1,rfl]
   obtain⟨b,hb2⟩:=Al (S:=S8) (f:=x) (ws:=p2.2);have kk:=k7.trans k8;nofun
   dsimp only[wS,wT,wE,wA,wV,wG];refine aj #v[] rfl (aj #v[] rfl (aj #v[] rfl ?_))
   dsimp only[Gu,aH,wB];have skip:K [ba (.ref r),ba (.int a),ba (.int n),ba (cZ ms ns bs []),ba (.int i),ba (.ref S2.length),ba (.int x),ba (.ref S5.length),ba (az [p0,(m1,[w1]),p2])] S8:=hK _ _ (bH (hn _ _ #[#[_,_,rfl],#[U,fs,e8,hd],f8,kk]));refine#[λ_=>?_,λ_=>aq (Q0:=Q2) (λz=>by cases z) λ_ Q3 hn3 _=>bH (hn3 _ _ skip)]
   refine aj #v[] rfl (aj #v[] rfl (ae hb2 ?_))
   dsimp only[wB];refine aq (Q0:=Q2) (λ_ Q3 hn3 _=>?_) λ_ Q3 hn3 _=>bH (hn3 _ _ skip)
   clear skip;refine st ?_;left;refine ie (d:=d+2) G hb hnl hu hu3 λS9 k9=>?_
   exact xE (k9.get _ _ e8) hd hsz hu hu3 λo ho=>bH (hn3 _ _ (hK _ _ (bH (hn _ _ #[#[_,_,rfl],ho,(f8.ka k9).own hrt5,(kk.trans (k9.kp r)).late k5.len]))))
  ·rintro Z S7 ⟨⟨a4,a8,rfl⟩,⟨U,fs,e7,hd⟩,f7,k7⟩;refine hK _ _ (st ?_);left;exact xD (Q:=λp=>Q' (.rt p.1,p.2)) e7 hd hsz hml hnl hnm λw S8 hw k8=>k w S8 hw (f7.ka k8) (k7.trans (k8.kp r))
end
abbrev bj (u v:HM):T:=.tup [.int u,.int v]
abbrev cR (u v:HM):W:=.tup [.int u,.int v]
def ik {u v:HM}:fO (cR u v)=ba (bj u v):=rfl
def xI {U:Hr (T×W)}{k:T}{v:W}{p:T×W}(h:p∈dY U k v):p∈U\/p=(k,v):=by
 unfold dY at h;split at h
 ·obtain⟨q,hq,rfl⟩:=HX.mp h;split
  ·rename_i e; exact .inr (by rw[e])
  ·exact .inl hq
 ·rcases Io.mp h with h|h
  ·exact .inl h
  ·exact .inr (HJ.mp h)
def o4 {U:Hr (T×W)}{k:T}{v:W}(h:bR U k=ba v):(k,v)∈U:=by
 unfold bR at h;rw[Hy]at h;obtain⟨p,h1,rfl⟩:=h;have:=Ny h1;rw[<- IQ this];exact List.mem_of_find?_eq_some h1
def Am {U:Hr (T×W)}{p:T×W}(h:p∈U):∃v,bR U p.1=ba v:=by
 unfold bR;cases e:U.find? λq=>decide (q.1=p.1)with
 | some q=>exact#[q.2,rfl]
 | none=>exact absurd (List.find?_eq_none.mp e p h) (by simp)
abbrev MustE (S:aa)(n b:HB)(U:Hr (T×W)):Prop:=∀p∈U,∃(u v:HM) (l:HB) (ws:Hr HM),p=(bj u v,W.ref l)/\(0<=u/\u < n)/\(0<=v/\v < n)/\b<=l/\S[l]?=ba (.lst (ag ws))/\ws.length<=3/\∀w∈ws,0<=w/\w < (n:HM)
def MustE.mono {S S':aa}{n b:HB}{U:Hr (T×W)}(h:MustE S n b U)(k:∀(l:HB) (ws:Hr HM),b<=l->S[l]?=ba (.lst (ag ws))->S'[l]?=ba (.lst (ag ws))):MustE S' n b U:=λp hp=>
 let ⟨u,v,l,ws,h1,h2,h3,h4,h5,h6⟩:=h p hp
 #[u,v,l,ws,h1,h2,h3,h4,k l ws h4 h5,h6]
def MustE.ka {S S':aa}{n b:HB}{U:Hr (T×W)}(h:MustE S n b U)(k:Ka S S'):MustE S' n b U:=h.mono λl ws _ e=>k.get _ _ e
def MustE.kp {S S':aa}{n b r:HB}{U:Hr (T×W)}(h:MustE S n b U)(hr:r < b)(k:Kp r S S'):MustE S' n b U:=h.mono λl ws hl e=>k.get _ _ ∅ e
def MustE.set {S:aa}{n b t:HB}{U k:Hr (T×W)}{o:O}(h:MustE S n b U)(ht:S[t]?=ba (.dic k)):MustE (S.set t o) n b U:=h.mono λl ws hl e=>by
 rw[bu (by rintro rfl; rw[ht]at e; cases e)]; exact e
def MustE.put {S:aa}{n b:HB}{U:Hr (T×W)}{u v:HM}{l:HB}{ws:Hr HM}(h:MustE S n b U)(h2:0<=u/\u < n)(h3:0<=v/\v < n)(h4:b<=l)(h5:S[l]?=ba (.lst (ag ws)))(h6:ws.length<=3)(h7:∀w∈ws,0<=w/\w < (n:HM)):MustE S n b (dY U (bj u v) (.ref l)):=λp hp=>by
 rcases xI hp with hp|rfl
 ·exact h p hp
 ·exact#[u,v,l,ws,rfl,h2,h3,h4,h5,h6,h7]
noncomputable abbrev An:=HM×HM×Hr HM
abbrev o5 (ws:Hr HM):Es:=ws.foldr (λw es=>.cons (.c (.int w)) es) .nil
abbrev sn:Hr An->Es
 | []=>.nil
 | e::L=>.cons (.tup #v[.c (.int e.1),.c (.int e.2.1)]) (.cons (.lst (o5 e.2.2)) (sn L))
abbrev uj:Hr An->HB->Hr W
 | [],_=>[]
 | e::L,s=>cR e.1 e.2.1::.ref s::uj L (s+1)
abbrev uk (L:Hr An):aa:=L.map λe=>O.lst (ag e.2.2)
abbrev sr (n:HB)(e:An):Il:=decide ((0<=e.1/\e.1 < n)/\(0<=e.2.1/\e.2.1 < n)/\e.2.2.length<=3)&&e.2.2.all λw=>decide (0<=w/\w < (n:HM))
section
variable{M:HY->FF}{Z:Fm}
def qK {S:aa}:∀ {ws:Hr HM} {Q:Hr W×aa->Prop},Q (ag ws,S)->wA M (o5 ws) Z S Q
 | [],Q,q=>by show wA M .nil Z S Q; exact q
 | w::ws,Q,q=>by show wA M (.cons (.c (.int w)) (o5 ws)) Z S Q; dsimp only[wA,wE]; exact qK q
def xJ:∀ {L:Hr An} {S:aa} {Q:Hr W×aa->Prop},Q (uj L S.length,S++uk L)->wA M (sn L) Z S Q
 | [],S,Q,q=>by
  show wA M .nil Z S Q;dsimp only[wA]
  rwa [show S++uk []=S from Jp S]at q
 | e::L,S,Q,q=>by
  show wA M (.cons (.tup #v[.c (.int e.1),.c (.int e.2.1)]) (.cons (.lst (o5 e.2.2)) (sn L))) Z S Q;dsimp only[wA,wE];refine qK (xJ ?_);rw[HK,Ja];exact q
end
def lC {S:aa}{n b:HB}:∀(L:Hr An) (s:HB) (U:Hr (T×W)),MustE S n b U->b<=s->(∀e∈L,sr n e=true)->(∀i e,L[i]?=ba e->S[s+i]?=ba (.lst (ag e.2.2)))->∃U',cV U (uj L s)=ba U'/\MustE S n b U'/\U'.length<=U.length+L.length
 | [],s,U,hm,hb,hL,hS=>#[U,by simp[uj,cV],hm,by simp]
 | e::L,s,U,hm,hb,hL,hS=>by
  have h1:=hL e (by simp)
  unfold sr at h1;rw[Hz,Ig]at h1;obtain⟨h2,h3,h4⟩:=IQ h1.1;obtain⟨U',k1,k2,k3⟩:=lC L (s+1) (dY U (bj e.1 e.2.1) (.ref s)) (hm.put h2 h3 hb (by have:=hS 0 e rfl; simpa using this) h4 (λw hw=>IQ (h1.2 w hw))) ∅ (λx hx=>hL x (by simp[hx])) (λi x hx=>by have:=hS (i+1) x (by simpa using hx); rw[show s+1+i=s+(i+1) by omega]; exact this)
  refine#[U',?_,k2,?_]
  ·simp only[uj,cV,ik]; exact k1
  ·have:=cL U (bj e.1 e.2.1) (.ref s);rw[IW]; omega
abbrev KB:Hr (Hr HM):=[[1,0],[0,2,1],[0,1],[0,1,2]]
abbrev KindOk (S:aa)(b:HB)(w:W):Prop:=∃(bs:Hr HM) (q:HB) (U:Hr (T×W)) (most:HM),w=.tup [.tup (ag bs),.ref q,.int most]/\bs∈KB/\1<=most/\most<=3/\most*bs.length<=6/\S[q]?=ba (.dic U)/\b<=q/\U.length<=4/\MustE S bs.length b U
def KindOk.mono {S S':aa}{b:HB}{w:W}(h:KindOk S b w)(k1:∀(l:HB) (ws:Hr HM),b<=l->S[l]?=ba (.lst (ag ws))->S'[l]?=ba (.lst (ag ws)))(k2:∀(l:HB) (U:Hr (T×W)),b<=l->S[l]?=ba (.dic U)->S'[l]?=ba (.dic U)):KindOk S' b w:=
 let ⟨bs,q,U,most,h1,h2,h3,h4,h5,h6,h7,h8,h9⟩:=h
 #[bs,q,U,most,h1,h2,h3,h4,h5,k2 _ _ h7 h6,h7,h8,h9.mono k1]
def KindOk.ka {S S':aa}{b:HB}{w:W}(h:KindOk S b w)(k:Ka S S'):KindOk S' b w:=h.mono (λl ws _ e=>k.get _ _ e) (λl ws _ e=>k.get _ _ e)
abbrev xK (bs:Hr HM)(L:Hr An)(most:HM):E:=.tup #v[.tup (o5 bs),.disp (sn L),.c (.int most)]
section
variable{M:HY->FF}{Z:Fm}{S:aa}
def mR (bs:Hr HM)(L:Hr An)(most:HM){b:HB}{Q:QW}(hb:b<=S.length)(h1:bs∈KB)(h2:1<=most/\most<=3/\most*bs.length<=6)(hL:∀e∈L,sr bs.length e=true)(h4:L.length<=4)(k:∀w S',KindOk S' b w->Ka S S'->Q (w,S')) :
  wE M (xK bs L most) Z S Q:=by
 unfold xK;dsimp only[wE,wA];refine qK (xJ ?_);obtain⟨U,k1,k2,k3⟩:=lC (S:=S++[O.dic []]++uk L) (n:=bs.length) (b:=b) L (S.length+1) [] (λ_ h=>nomatch h) ∅ hL (λi e he=>by
  rw[Kt (by simp),show S.length+1+i - (S++[O.dic []]).length=i by simp]
  simp[uk,he])
 have hat:(S++[O.dic []]++uk L)[S.length]?=ba (.dic []):=by
  rw[IN (by simp)]; exact af
 refine#[hat,ae (show cV [] (uj L (S++[O.dic []]).length)=ba U by rw[HK]; exact k1) (k _ _ #[bs,S.length,U,most,rfl,h1,h2.1,h2.2.1,h2.2.2,bm hat,hb,?_,k2.set hat] #[λj o h=>?_,by simp])]
 ·simp only[J8]at k3; omega
 ·have:j < S.length:=cq h;show((S++[O.dic []]++uk L).set S.length (O.dic U))[j]?=ba o;rw[bu ∅,IN (by simp; omega)]
  exact ak h
structure Menu (S0 S:aa)(r t m:HB):Prop where
 at_t:∃xs:Hr W,S[t]?=ba (.lst xs)/\xs.length=m/\∀x∈xs,KindOk S S0.length x
 pos:0 < m
 jb:m<=9
 fl:Fl S r
 kp:Kp r S0 S
 lt:S0.length<=t
 rlt:r < S0.length
def o7 {S0 S S':aa}{r t m:HB}{w:W}(h:Menu S0 S r t m)(hw:KindOk S' S0.length w)(k:Ka S S')(hm:m < 9):∃xs,S'[t]?=ba (.lst xs)/\xs.length < sizeLine/\Menu S0 (S'.set t (.lst (xs++[w]))) r t (m+1):=by
 obtain⟨⟨xs,h1,h2,h3⟩,hp,hf,fl,kp,lt,rlt⟩:=h;have e:S'[t]?=ba (.lst xs):=k.get _ _ h1;have stay:∀x,KindOk S' S0.length x->KindOk (S'.set t (.lst (xs++[w]))) S0.length x:=λx hx=>hx.mono (λl ws hl el=>by
  by_cases hlt:t=l
  ·exfalso;subst hlt;rw[e]at el;injection el with el
   injection el with el
   match xs,h2,h3 with
   | [],h2,_=>simp at h2; omega
   | x::xs,_,h3=>
    obtain⟨bs,q,U,most,hx,_⟩:=h3 x (by simp)
    subst hx
    match ws with
    | []=>simp[ag]at el
    | w::ws=>simp[ag]at el
  ·rw[bu hlt]; exact el) (λl U hl el=>by
  rw[bu (by rintro rfl; rw[e]at el; cases el)]; exact el)
 refine#[xs,e,(by rw[IX]; omega),#[xs++[w],bm e,by simp; omega,λx hx=>?_],∅,∅,(fl.ka k).own ∅,(kp.trans (k.kp r)).late lt,lt,rlt]
 rcases Io.mp hx with hx|hx
 ·exact stay x ((h3 x hx).ka k)
 ·rw[HJ.mp hx]; exact stay w hw
def o8 (bs:Hr HM)(L:Hr An)(most:HM){fuel:HB}{S0:aa}{r t m:HB}{x0:HA W}{K:Fm->aa->Prop}{Q:QO}(h:Menu S0 S r t m)(hm:m < 9)(h1:bs∈KB)(h2:1<=most/\most<=3/\most*bs.length<=6)(hL:∀e∈L,sr bs.length e=true)(h4:L.length<=4)(k:∀S',Menu S0 S' r t (m+1)->K [x0,ba (.ref t)] S') :
  wS M fuel (.ex (.me .append (.v 1) #v[xK bs L most])) [x0,ba (.ref t)] S K Q:=by
 left;obtain⟨xs,e1,e2,e3⟩:=h.at_t;refine#[cW e1,mR bs L most (ID h.lt (K4 (cq e1))) h1 h2 hL h4 λw S' k1 k2=>?_]
 obtain⟨xs',f1,f2,f3⟩:=o7 h k1 k2 hm;exact ae (xh f1 f2) (k _ f3)
def kG {defs:Hr (HY×Df)}{fuel d:HB}{r:HB}{Q:QW}(G:Gen defs)(hf:Fl S r)(k:∀w S',KindOk S' S.length w->Fl S' r->Kp r S S'->Q (w,S')):wO (aL (ah defs fuel (d+2)) "_law_laying_kind" 1 [.ref r] S) Q:=by
 refine aw G.laying_kind rfl rfl λQ' hR=>?_
 replace k:∀w S',KindOk S' S.length w->Fl S' r->Kp r S S'->Q' (.rt w,S'):=λz S' a b c=>hR _ _ (k z S' a b c)
 clear hR;show wZ _ _ bv [ba (.ref r),gV] S Q';have hrt:=hf.lt;unfold bv;nofun
 refine EY ?_;change wA _ _ _ _ _; change wE _ _ _ _ _
 refine mR [1,0] [(0,0,[0])] 3 (b:=S.length) (HE _) #v[] #v[] #v[] #v[] λw1 S1 k1 a1=>?_
 change wE _ _ _ _ _;refine mR [0,2,1] [(1,1,[1])] 2 (b:=S.length) a1.len #v[] #v[] #v[] #v[] λw2 S2 k2 a2=>?_
 have a12:=a1.trans a2;change wE _ _ _ _ _;refine mR [0,1] [(1,1,[1])] 3 (b:=S.length) a12.len #v[] #v[] #v[] #v[] λw3 S3 k3 a3=>?_
 have a13:=a12.trans a3;dsimp only[wA];refine hK _ _ ?_;clear hK K;have m3:Menu S (S3++[O.lst [w1,w2,w3]]) r S3.length 3:=by
  refine#[#[[w1,w2,w3],af,rfl,λx hx=>?_],#v[],#v[],(hf.ka a13).ka .push,(a13.trans .push).kp r,a13.len,hrt]
  rcases HW.mp hx with rfl|hx
  ·exact(k1.ka (a2.trans a3)).ka .push
  ·rcases HW.mp hx with rfl|hx
   ·exact(k2.ka a3).ka .push
   ·rw[HJ.mp hx];exact k3.ka .push
 dsimp only[HN];clear k1 k2 k3 a1 a2 a3 a12 a13;generalize S3.length=t at m3;generalize S3++[O.lst [w1,w2,w3]]=S3' at m3;refine aC λK hK=>o8 [0,1] [(1,1,[1]),(0,0,[1])] 3 m3 #v[] #v[] #v[] #v[] #v[] λS4 m4=>hK _ _ ?_
 refine aC λK hK=>o8 [0,1] [(1,1,[])] 1 m4 #v[] #v[] #v[] #v[] #v[] λS5 m5=>hK _ _ ?_
 refine aC λK hK=>o8 [0,2,1] [(0,0,[0]),(0,1,[1]),(1,0,[1]),(1,1,[1])] 2 m5 #v[] #v[] #v[] #v[] #v[] λS6 m6=>hK _ _ ?_
 nofun
 left;obtain⟨xs,e1,e2,e3⟩:=m6.at_t;obtain⟨xs',f1,f2,m7⟩:=o7 (S':=S6++[O.dic []]) (w:=.tup [.tup (ag [1,0]),.ref S6.length,.int 3]) m6 #[[1,0],S6.length,[],3,rfl,#v[],#v[],#v[],#v[],af,m6.kp.len,#v[],λ_ h=>(nomatch h)] .push #v[]
 refine#[cW e1,ae (xh f1 f2) (hK _ _ ?_)];refine aC λK hK=>o8 [0,1,2] [(2,2,[2]),(1,2,[1]),(2,1,[1]),(1,1,[1,2])] 2 m7 #v[] #v[] #v[] #v[] #v[] λS8 m8=>hK _ _ ?_
 refine aC λK hK=>o8 [0,1,2] [(0,0,[0,1])] 2 m8 #v[] #v[] #v[] #v[] #v[] λS9 m9=>hK _ _ ?_
 refine st ?_;left;refine aJ (d:=d) G.pick m9.fl #v[] #v[] λv S10 v0 v9 f10 k10=>?_
 obtain⟨xs,g1,g2,g3⟩:=m9.at_t;have hlt:=m9.lt;have hv:v.toNat < xs.length:=∅
 exact gf (k10.get _ _ ∅ g1) v0 (HC hv) (k _ _ ((g3 _ (IC hv)).mono (λl ws hl e=>k10.get _ _ ∅ e) (λl ws hl e=>k10.get _ _ ∅ e)) f10 (m9.kp.trans k10))
end
abbrev o9 (bs:Hr HM):Hr (Hr HM):=if bs=[0,1,2]then[[0,1,2],[0,2,1],[1,0,2],[1,2,0],[2,0,1],[2,1,0]]else if bs.length=2 then[[0,1],[1,0]]else[[0,1,2],[0,2,1],[2,0,1],[2,1,0]]
abbrev gh (bs nm:Hr HM):HB->Hr HM
 | 0=>II bs.length 0
 | k+1=>(gh bs nm k).set (nm.getD k 0).toNat (nm.getD (bs.getD k 0).toNat 0)
def iN (bs nm:Hr HM):∀k,(gh bs nm k).length=bs.length
 | 0=>by simp[gh]
 | k+1=>by simp[gh,iN bs nm k]
def Ao:∀bs∈KB,∀nm∈o9 bs,nm.length=bs.length/\(∀x∈nm,0<=x/\x < (bs.length:HM))/\(∀x∈bs,0<=x/\x < (bs.length:HM))/\GoodB (gh bs nm bs.length):=by
 unfold GoodB;decide +kernel
def xL:∀bs∈KB,(bs.length=2\/bs.length=3)/\0 < (o9 bs).length/\(o9 bs).length < 10:=by decide
section
variable{M:HY->FF}{fuel:HB}{Z:Fm}{S:aa}{K:Fm->aa->Prop}{Q:QO}
def Ap {tg:Tg}{e:E}{b:Ss}(r:HB)(U:Hr (T×W))(I:HB->Fm->aa->Prop)(oe:dG e=true)(ok:hG b=true)(he:wE M e Z S λp=>p.1=.ref r/\p.2[r]?=ba (.dic U)/\I 0 Z (p.2.set r (.frd U)))
  (hstep:∀(i:HB) (p:T×W) (Z:Fm) (S:aa),U[i]?=ba p->I i Z S->wO (im tg p.1.w Z S) λq=>yk M fuel b q.1 q.2 (I (i+1)) Q) (hend:∀Z S,I U.length Z S->K Z S):Wp (fR M fuel (.loop tg (.seq e) b) Z S) (r6 K Q):=by
 obtain⟨w,S1,e1,rfl,e2,h0⟩:=bT oe he;refine j3 (mi:=.its (U.map λp=>p.1.w)) (S1:=S1.set r (.frd U)) (xs:=U.map λp=>p.1.w) I ok (by simp only[kB,eQ,e1,mG e2,cz e2]) (λ_ _ _ _=>rfl) rfl h0 (λi w Z S hw hI=>?_) λZ S hI=>hend Z S (by rwa [Hv]at hI)
 rw[HF,Hy]at hw;obtain⟨p,hp,rfl⟩:=hw;exact hstep i p Z S hp hI
end
section
variable{defs:Hr (HY×Df)}{fuel d:HB}{S:aa}{r:HB}{Q:QW}
def E4 {i n:HB}{x:W}(h:S[i]?=ba (.lst [x]))(hn:n<=1000)(q:Q (.ref S.length,S++[.lst (II n x)])):wO (eS .mul (.ref i) (.int (n:HM)) S) Q:=by
 refine ae ?_ q;have:n<=sizeLine:=jb hn;simp only[eS,vd,cy h];rw[Ic #[∅,∅,by simpa using this]]
 unfold kD;simp[this]
def lD {q:HB}{U:Hr (T×W)}{u v:HM}{w:W}(h:iA S q=ba U)(hg:bR U (bj u v)=ba w):mX (.ref q) (.tup [.int u,.int v]) S=ba (w,S):=by
 have hk:fO (.tup [.int u,.int v])=ba (bj u v):=ik;simp only[mX,h,hk,hg,IK]
def xM {q:HB}{U:Hr (T×W)}{u v:HM}{w:W}(h:S[q]?=ba (.dic U))(hl:U.length < sizeLine):gT (.ref q) (.tup [.int u,.int v]) w S=ba (S.set q (.dic (dY U (bj u v) w))):=by
 have hk:fO (.tup [.int u,.int v])=ba (bj u v):=ik;simp only[gT,ma,h,hk];rw[Ic hl]
def int_at {xs:Hr HM}{x:HM}(h0:0<=x)(h1:x.toNat < xs.length):(ag xs)[x.toNat]?=ba (.int (xs.getD x.toNat 0)):=by
 unfold ag;rw[HF,aF (d:=0) h1]; rfl
def fw {xs:Hr HM}{i:HB}(h:i < xs.length):xs.getD i 0∈xs:=HZ (aF (d:=0) h)
def kH (G:Gen defs){Q:QO}{bs:Hr HM}{x0 x2:HA W}(hb:bs∈KB)
  (hk:∀(m s:HB) (S':aa),Ka S S'->S'[s]?=ba (.lst ((o9 bs).map λnm=>W.tup (ag nm)))->S.length<=s->wZ (ah defs fuel (d+1)) fuel (dr 5 aU) [x0,ba (.tup (ag bs)),x2,ba (.int bs.length),ba (.ref m),ba (.ref s),gV,gV,gV,gV,gV,gV] S' Q) :
  wZ (ah defs fuel (d+1)) fuel aU [x0,ba (.tup (ag bs)),x2,gV,gV,gV,gV,gV,gV,gV,gV,gV] S Q:=by
 generalize hd5:dr 5 aU=be at hk;unfold aU at hd5 ⊢;dsimp only[dr]at hd5;rw[hd5];clear hd5;nofun
 left;refine aS ?_;rw[show(ag bs).length=bs.length from Hv ..]
 refine hK _ _ ?_;clear hK K;nofun
 left;have hm:(((S++[O.lst [.tup [.int 0]]])++[O.lst [.tup [.int 0,.int 1],.tup [.int 1,.int 0]]])++[O.lst [.ref S.length,.ref (S++[O.lst [.tup [.int 0]]]).length]])[((S++[O.lst [.tup [.int 0]]])++[O.lst [.tup [.int 0,.int 1],.tup [.int 1,.int 0]]]).length]?=ba (.lst [.ref S.length,.ref (S++[O.lst [.tup [.int 0]]]).length]):=af;refine hK _ _ ?_;clear hK K;generalize hS1:S++[O.lst [.tup [.int 0]]]=S1 at hm ⊢;generalize hS2:S1++[O.lst [.tup [.int 0,.int 1],.tup [.int 1,.int 0]]]=S2 at hm ⊢;generalize hS3:S2++[O.lst [.ref S.length,.ref S1.length]]=S3 at hm ⊢;have l1:S1.length=S.length+1:=by rw[<- hS1]; simp
 have l2:S2.length=S1.length+1:=by rw[<- hS2]; simp
 have l3:S3.length=S2.length+1:=by rw[<- hS3]; simp
 have kS2:Ka S S2:=by rw[<- hS2,<- hS1]; exact Ka.push.trans .push
 nofun
 left;refine#[cW hm,i5 (ak hm) (by decide:2 < 1000) (hK _ _ ?_)]
 clear hK K;generalize hS5:(S3++[O.lst [.tup [.int 0,.int 1,.int 2],.tup [.int 0,.int 2,.int 1],.tup [.int 2,.int 0,.int 1],.tup [.int 2,.int 1,.int 0]]]).set S2.length (.lst ([.ref S.length,.ref S1.length]++[.ref S3.length]))=S5;have k5:Ka S S5:=by
  rw[<- hS5,<- hS3];exact Ka.late (kS2.trans (Ka.push.trans .push)) ∅
 have m5:S5[S2.length]?=ba (.lst [.ref S.length,.ref S1.length,.ref S3.length]):=by
  rw[<- hS5]; exact bm (ak hm)
 have p5:S5[S1.length]?=ba (.lst [.tup [.int 0,.int 1],.tup [.int 1,.int 0]]):=by
  rw[<- hS5,bu ∅,<- hS3,<- hS2]
  exact ak (ak af)
 have t5:S5[S3.length]?=ba (.lst [.tup [.int 0,.int 1,.int 2],.tup [.int 0,.int 2,.int 1],.tup [.int 2,.int 0,.int 1],.tup [.int 2,.int 1,.int 0]]):=by
  rw[<- hS5,bu ∅]
  exact af
 have h1:S.length<=S1.length:=∅
 have h3:S.length<=S3.length:=∅
 clear hS1 hS2 hS3 hS5 hm l1 l2 l3 kS2;nofun
 dsimp only[wS,wE,wA,wV,wG,HN,xf,aH];have hb':bs=[1,0]\/bs=[0,2,1]\/bs=[0,1]\/bs=[0,1,2]:=by simpa [KB]using hb
 rcases hb' with rfl|rfl|rfl|rfl
 ·refine dB (i:=1) m5 rfl (hK _ _ (aC λK hK=>cr (λQ q=>q) (hK _ _ (hk _ _ _ k5 p5 h1))))
 ·refine dB (i:=2) m5 rfl (hK _ _ (aC λK hK=>cr (λQ q=>q) (hK _ _ (hk _ _ _ k5 t5 h3))))
 ·refine dB (i:=1) m5 rfl (hK _ _ (aC λK hK=>cr (λQ q=>q) (hK _ _ (hk _ _ _ k5 p5 h1))))
 ·refine dB (i:=2) m5 rfl (hK _ _ (aC λK hK=>j5 (λQ q=>q) λQ2 hn _=>?_))
  refine st ?_;left;exact mK (d:=d) G (bH (hn _ _ (hK _ _ (hk _ _ _ (k5.trans .push) af k5.len))))
def qL (G:Gen defs){S0:aa}{bs:Hr HM}{q:HB}{U:Hr (T×W)}(hb:bs∈KB)(hf:Fl S r)(hr:r < S0.length)(kp:Kp r S0 S)(hq:S[q]?=ba (.dic U))(hq0:S0.length<=q)(h4:U.length<=4)(hm:MustE S bs.length S0.length U)
  (k:∀(bs':Hr HM) (q':HB) (U':Hr (T×W)) S',GoodB bs'->bs'.length=bs.length->S'[q']?=ba (.dic U')->S0.length<=q'->MustE S' bs.length S0.length U'->Fl S' r->Kp r S0 S'->Q (.tup [.tup (ag bs'),.ref q'],S')) :
  wO (aL (ah defs fuel (d+2)) "_law_numbered" 3 [.ref r,.tup (ag bs),.ref q] S) Q:=by
 refine aw G.numbered rfl rfl λQ' hR=>?_
 replace k:∀(bs':Hr HM) (q':HB) (U':Hr (T×W)) S',GoodB bs'->bs'.length=bs.length->S'[q']?=ba (.dic U')->S0.length<=q'->MustE S' bs.length S0.length U'->Fl S' r->Kp r S0 S'->Q' (.rt (.tup [.tup (ag bs'),.ref q']),S'):=λa b c e f g h i j l m=>hR _ _ (k a b c e f g h i j l m)
 clear hR;refine kH (d:=d) G hb ?_;intro m s S1 k1 e1 hs;dsimp only[dr,aU];have hrt:=hf.lt;obtain⟨hb1,hb2,hb3⟩:=xL bs hb;nofun
 left;refine dR e1 ?_;rw[Hv];refine aJ (d:=d) G.pick (hf.ka k1) ∅ ∅ λv S2 v0 v1 f2 k2=>?_
 obtain⟨nm,hnmm,enm⟩:=j8 (f:=λnm=>W.tup (ag nm)) (xs:=o9 bs) (i:=v.toNat) ∅
 obtain⟨n1,n2,n3,n4⟩:=Ao bs hb nm hnmm;refine gf (k2.get _ _ ∅ e1) v0 enm (hK _ _ ?_)
 clear hK K;nofun
 left;refine E4 af ∅ (hK _ _ ?_)
 clear hK K;generalize hS4:S2++[O.lst [.int 0]]=S4;have k24:Ka S2 S4:=hS4 ▸ .push;have f4:Fl S4 r:=f2.ka k24;have kp4:Kp r S0 S4:=(kp.trans (k1.kp r)).trans (k2.trans (k24.kp r));have q4:S4[q]?=ba (.dic U):=k24.get _ _ (k2.get _ _ ∅ (k1.get _ _ hq))
 have m4:MustE S4 bs.length S0.length U:=((hm.ka k1).kp hr k2).ka k24;clear hS4 k24 hm hq f2 k2 k1 e1 enm hf;nofun
 refine b6 (bs.length:HM) (λk Z S'=>(∃x8,Z=[ba (.ref r),ba (.tup (ag bs)),ba (.ref q),ba (.int bs.length),ba (.ref m),ba (.ref s),ba (.tup (ag nm)),ba (.ref S4.length),x8,gV,gV,gV])/\S'[S4.length]?=ba (.lst (ag (gh bs nm k)))/\Ka S4 S') rfl rfl ∅ #[rfl,#[_,rfl],?_,.push] ?_ ?_
 ·rw[af]; simp[gh,ag]
 ·rintro i Z S5 hi ⟨⟨x8,rfl⟩,e5,k5⟩ Q2 hn _;clear hK k;have hi':i < bs.length:=∅
  have hi1:i < nm.length:=∅
  have c:=n3 _ (fw hi');have c2:=n2 _ (fw hi1);refine st ?_;left;refine aj (Ip i) (int_at (Ip i) hi') (aj c.1 (int_at c.1 (by rw[HU]; omega)) (aj (Ip i) (int_at (Ip i) hi1) ?_))
  rw[HU];refine ae (Ba e5 c2.1 (by rw[show(ag (gh bs nm i)).length=_ from Hv ..,iN]; omega)) (bH (hn _ _ #[#[_,rfl],?_,k5.late (HE _)]))
  rw[bm e5];unfold ag;rw[gh,List.map_set]
 ·rintro Z S5 ⟨⟨x8,rfl⟩,e5,k5⟩;rw[HU]at e5;refine hK _ _ (st ?_);clear hK K;dsimp only[wS,wE,HN];have f5:Fl S5 r:=f4.ka k5;have q5:S5[q]?=ba (.dic U):=k5.get _ _ q4;have m5:MustE S5 bs.length S0.length U:=m4.ka k5;have kp5:Kp r S0 S5:=kp4.trans (k5.kp r);have hq5:=cq q5;have ht5:=cq e5;have hqt:q≠S4.length:=by rintro rfl; rw[e5]at q5; cases q5
  have hn9:(bs.length:HM)<=3:=∅
  have hr5:=f5.lt;clear k5 m4 q4 f4;nofun
  refine Ap q U (λk Z S'=>(∃x10 x11,Z=[ba (.ref r),ba (.tup (ag bs)),ba (.ref q),ba (.int bs.length),ba (.ref m),ba (.ref s),ba (.tup (ag nm)),ba (.ref S4.length),x8,ba (.ref S5.length),x10,x11])/\S'[q]?=ba (.frd U)/\MustE S' bs.length S0.length U/\S'[S4.length]?=ba (.lst (ag (gh bs nm bs.length)))/\(∃U',S'[S5.length]?=ba (.dic U')/\U'.length<=k/\MustE S' bs.length S0.length U')/\Fl S' r/\Kp r S0 S') rfl rfl #[rfl,ak q5,#[gV,gV,rfl],bm (ak q5),(m5.ka .push).set (ak q5),?_,#[[],?_,HE _,λ_ h=>(nomatch h)],(f5.ka .push).own ∅,(kp5.trans .push).late hq0] ?_ ?_
  ·rw[bu hqt]; exact ak e5
  ·rw[bu ∅]; exact af
  ·rintro i p Z S6 hp ⟨⟨x10,x11,rfl⟩,q6,m6,t6,⟨U',o6,l6,mm6⟩,f6,kp6⟩;clear hK k;have hpm:=HZ hp;have hil:=(HH.mp hp).1;obtain⟨u,v',l,ws,rfl,hu,hv',hl,hws,hl3,hw3⟩:=m6 p hpm;obtain⟨g,hg⟩:=Am hpm;obtain⟨u2,v2,l2,ws2,he2,_,_,hl2,hws2,hl32,hw32⟩:=m6 _ (o4 hg);injection he2 with _ he2
   subst he2;have hul:u.toNat < nm.length:=∅
   have hvl:v'.toNat < nm.length:=∅
   refine ae (show im (.tp [10,11]) (bj u v',W.ref l).1.w [ba (.ref r),ba (.tup (ag bs)),ba (.ref q),ba (.int bs.length),ba (.ref m),ba (.ref s),ba (.tup (ag nm)),ba (.ref S4.length),x8,ba (.ref S5.length),x10,x11] S6=ba ([ba (.ref r),ba (.tup (ag bs)),ba (.ref q),ba (.int bs.length),ba (.ref m),ba (.ref s),ba (.tup (ag nm)),ba (.ref S4.length),x8,ba (.ref S5.length),ba (.int u),ba (.int v')],S6)from rfl) λQ2 hn _=>?_
   refine st ?_;left;refine r9 l2 (ag ws2) (λi zs Z2 S7=>(∃a1,Z2=[gV,a1,ba (.tup (ag nm))])/\zs=ag ((ws2.take i).map λw=>nm.getD w.toNat 0)/\S7=S6) rfl rfl rfl ?_ ?_ ?_ ?_
   ·dsimp only[wE,wA,wV,wG];exact ae (lD (Aa q6) hg) #[rfl,#[_,rfl],rfl,rfl]
   ·rintro i zs Z2 S7 ⟨_,_,rfl⟩;exact hws2
   ·rintro i w zs Z2 S7 hw ⟨⟨a1,rfl⟩,rfl,rfl⟩;unfold ag at hw;rw[HF,Hy]at hw;obtain⟨x,hx,rfl⟩:=hw;obtain⟨x0,x1⟩:=hw32 x (HZ hx);have hxl:x.toNat < nm.length:=∅
    refine ae (show im (.nm 1) (.int x) [gV,a1,ba (.tup (ag nm))] S7=ba ([gV,ba (.int x),ba (.tup (ag nm))],S7)from rfl) ?_
    dsimp only[fK,wC,wE,wA,wV,wG];refine#[λ_=>aj x0 (int_at x0 hxl) #[#[_,rfl],?_,rfl],λz=>by cases z]
    rw[IG,hx];simp[ag]
   ·rintro zs Z2 S7 ⟨_,rfl,rfl⟩;rw[show(ag ws2).length=ws2.length from Hv ..,Jk]
    refine#[jb (by simp[ag]; omega),aj hu.1 (int_at hu.1 hul) (aj hv'.1 (int_at hv'.1 hvl) ?_)]
    refine ae (xM (ak o6) (by rw[IX]; omega)) (bH (hn _ _ #[#[_,_,rfl],?_,(m6.ka .push).set (ak o6),?_,#[_,bm (ak o6),?_,?_],(f6.ka .push).own ∅,(kp6.trans .push).late kp5.len]))
    ·rw[bu ∅]; exact ak q6
    ·rw[bu ∅]; exact ak t6
    ·exact ID (cL ..) (L3 l6)
    ·refine((mm6.ka .push).put (n2 _ (fw hul)) (n2 _ (fw hvl)) kp6.len af (by simp; omega) ?_).set (ak o6)
     intro w hw;obtain⟨x,hx,rfl⟩:=HX.mp hw;obtain⟨x0,x1⟩:=hw32 x hx;exact n2 _ (fw ∅)
  ·rintro Z S6 ⟨⟨x10,x11,rfl⟩,q6,m6,t6,⟨U',o6,l6,mm6⟩,f6,kp6⟩;refine hK _ _ (st ?_);left;exact cQ t6 (k _ _ U' _ n4 (iN _ _ _) o6 kp5.len mm6 f6 kp6)
end
abbrev ul (x y z:HM):Hr (T×W):=[(bj 1 0,.int x),(bj 2 0,.int y),(bj 2 1,.int z)]
abbrev Aq (x y z a b c:HM):HB->Hr (T×W)
 | 0=>ul x y z
 | 1=>ul x y z++[(bj 0 1,.int a)]
 | 2=>ul x y z++[(bj 0 1,.int a),(bj 0 2,.int b)]
 | _=>ul x y z++[(bj 0 1,.int a),(bj 0 2,.int b),(bj 1 2,.int c)]
def CZ {n x y z a b c:HM}(hx:0<=x/\x < n)(hy:0<=y/\y < n)(hz:0<=z/\z < n)(ha:0<=a/\a < n)(hb:0<=b/\b < n)(hc:0<=c/\c < n):∀i j:HB,i < 3->j < 3->i≠j->∃p:HM,bR (Aq x y z a b c 3) (bj i j)=ba (.int p)/\0<=p/\p < n:=by
 intro i j hi hj hij
 match i,j,hi,hj,hij with
 | 0,0,_,_,h=>exact absurd rfl h
 | 0,1,_,_,_=>exact#[a,by rfl,ha]
 | 0,2,_,_,_=>exact#[b,by rfl,hb]
 | 1,0,_,_,_=>exact#[x,by rfl,hx]
 | 1,1,_,_,h=>exact absurd rfl h
 | 1,2,_,_,_=>exact#[c,by rfl,hc]
 | 2,0,_,_,_=>exact#[y,by rfl,hy]
 | 2,1,_,_,_=>exact#[z,by rfl,hz]
 | 2,2,_,_,h=>exact absurd rfl h
def pb:∀t∈aO,t.length=3/\t.getD 0 0 < 3/\t.getD 1 0 < 3/\t.getD 2 0 < 3/\t.getD 0 0≠t.getD 1 0/\t.getD 1 0≠t.getD 2 0/\t.getD 0 0≠t.getD 2 0:=by decide
def xN {t:Hr HB}(h:t∈aO):∃i j k:HB,t=[i,j,k]/\i < 3/\j < 3/\k < 3/\i≠j/\j≠k/\i≠k:=by
 obtain⟨h1,h2⟩:=pb t h
 match t,h1,h2 with
 | [i,j,k],_,h2=>exact#[i,j,k,rfl,h2]
section
variable{defs:Hr (HY×Df)}{fuel d:HB}{S:aa}{r:HB}{Q:QW}
def xO {l:HB}{f:HM}{ws:Hr HM}(h:S[l]?=ba (.lst (ag ws))):∃b,cM .notin (.int f) (.ref l) S=ba (.bl b,S):=by
 have hf:(bG (.int f)&&(ag ws).all bG)=true:=by
  simp only[bG,LF,Ig];intro x hx;obtain⟨z,_,rfl⟩:=HX.mp hx;rfl
 refine#[!(ag ws).any λz=>yi z (.int f),?_]
 simp only[cM,jk h,iu,Dp,AO,dL,ar h,hf,JP,IK]
def C0 {q:HB}{U:Hr (T×W)}(h:S[q]?=ba (.dic U)):tyOk "dict" S (.ref q)=true:=by simp[tyOk,cz h]
def Ar {q:HB}{U:Hr (T×W)}(h:S[q]?=ba (.dic U))(k:Q (.ref S.length,S++[.lst (U.map λp=>p.1.w)])):wO (Bi.list.fn [.ref q] S) Q:=by
 refine ae ?_ k;have h1:uF S q=gV:=by simp[uF,h]
 have h2:gP [.ref q] S=gV:=by simp[gP,h1,fW,dL,mG h]
 simp only[Bi.fn,oF,h2,lc,cz h]
def xP (G:Gen defs){bs:Hr HM}{q b0:HB}{U:Hr (T×W)}{x y z:HM}(hb:GoodB bs)(hx:0<=x/\x < bs.length)(hy:0<=y/\y < bs.length)(hz:0<=z/\z < bs.length)(hq:S[q]?=ba (.dic U))(hm:MustE S bs.length b0 U)
  (k:∀b S',Ka S S'->Q (.bl b,S')):wO (aL (ah defs fuel (d+2)) "_law_breaks" 5 [.tup (ag bs),.ref q,.int x,.int y,.int z] S) Q:=by
 refine aw G.breaks rfl rfl λQ' hR=>?_
 replace k:∀b S',Ka S S'->Q' (.rt (.bl b),S'):=λa b c=>hR _ _ (k a b c)
 clear hR;show wZ _ _ dc [ba (.tup (ag bs)),ba (.ref q),ba (.int x),ba (.int y),ba (.int z),gV,gV,gV,gV,gV] S Q';obtain⟨a,ha1,ha⟩:=hb.rng x.toNat ∅
 obtain⟨b,hb1,hb2⟩:=hb.rng y.toNat ∅
 obtain⟨c,hc1,hc⟩:=hb.rng z.toNat ∅
 have hqt:=cq hq;unfold dc;nofun
 left;refine#[af,ae (show cV [] [.tup [.int 1,.int 0],.int x,.tup [.int 2,.int 0],.int y,.tup [.int 2,.int 1],.int z]=ba (ul x y z)from rfl) (hK _ _ ?_)]
 clear hK K;have e1:((S++[O.dic []]).set S.length (.dic (ul x y z)))[S.length]?=ba (.dic (ul x y z)):=bm af;have k1:Ka S ((S++[O.dic []]).set S.length (.dic (ul x y z))):=Ka.push.late (HE _);have l1:((S++[O.dic []]).set S.length (.dic (ul x y z))).length=S.length+1:=by simp
 generalize(S++[O.dic []]).set S.length (.dic (ul x y z))=S1 at e1 k1 l1 ⊢;nofun
 refine fu rfl rfl ?_;dsimp only[wE,wA,wV,wG];refine Ar e1 #[S1.length,[cR 1 0,cR 2 0,cR 2 1],(λk Z S'=>(∃x6,Z=[ba (.tup (ag bs)),ba (.ref q),ba (.int x),ba (.int y),ba (.int z),ba (.ref S.length),x6,gV,gV,gV])/\S'[S.length]?=ba (.dic (Aq x y z a b c k))/\S'[S1.length]?=ba (.lst [cR 1 0,cR 2 0,cR 2 1])/\Ka S S'),rfl,#[#[_,rfl],ak e1,af,k1.trans .push],λi Z S' h=>h.2.2.1,?_,?_]
 ·have step:∀(u v f g:HM) (kv kv':Hr (T×W)) (S':aa) (i:HB),bR kv (bj u v)=ba (.int f)->0<=f->bs[f.toNat]?=ba g->kv.length < 10->dY kv (bj v u) (.int g)=kv'->Aq x y z a b c (i+1)=kv'->∀x6:HA W,S'[S.length]?=ba (.dic kv)->S'[S1.length]?=ba (.lst [cR 1 0,cR 2 0,cR 2 1])->Ka S S'->
    wO (im (.nm 6) (cR u v) [ba (.tup (ag bs)),ba (.ref q),ba (.int x),ba (.int y),ba (.int z),ba (.ref S.length),x6,gV,gV,gV] S') λp=>yk (ah defs fuel (d+1)) fuel #v[.put (.v 5) (.tup #v[.ix (.v 6) (.c (.int 1)),.ix (.v 6) (.c (.int 0))]) (.ix (.v 0) (.ix (.v 5) (.v 6)))] p.1 p.2 (λZ S'=>(∃x6,Z=[ba (.tup (ag bs)),ba (.ref q),ba (.int x),ba (.int y),ba (.int z),ba (.ref S.length),x6,gV,gV,gV])/\S'[S.length]?=ba (.dic (Aq x y z a b c (i+1)))/\S'[S1.length]?=ba (.lst [cR 1 0,cR 2 0,cR 2 1])/\Ka S S') Q':=by
   clear hK k;intro u v f g kv kv' S' i h1 h2 h3 h4 h5 h6 x6 e e' k;refine ae (show im (.nm 6) (cR u v) [ba (.tup (ag bs)),ba (.ref q),ba (.int x),ba (.int y),ba (.int z),ba (.ref S.length),x6,gV,gV,gV] S'=ba ([ba (.tup (ag bs)),ba (.ref q),ba (.int x),ba (.int y),ba (.int z),ba (.ref S.length),ba (cR u v),gV,gV,gV],S')from rfl) λQ2 hn _=>?_
   refine st ?_;left;refine ae (lD (cz e) h1) (aj h2 (w:=.int g) (by unfold ag; rw[HF,h3]; rfl) (aj #v[] rfl (aj #v[] rfl ?_)))
   refine ae (xM e (by rw[IX]; omega)) (bH (hn _ _ #[#[_,rfl],?_,?_,k.late (HE _)]))
   ·rw[bm e,h5,h6]
   ·rw[bu ∅]; exact e'
  rintro i w Z S2 hw ⟨⟨x6,rfl⟩,e2,l2,k2⟩
  match i,hw,e2 with
  | 0,hw,e2=>cases hw; exact step 1 0 x a _ _ S2 0 (by rfl) hx.1 ha1 (by simp[Aq,ul]) (by rfl) (by rfl) x6 e2 l2 k2
  | 1,hw,e2=>cases hw; exact step 2 0 y b _ _ S2 1 (by rfl) hy.1 hb1 (by simp[Aq,ul]) (by rfl) (by rfl) x6 e2 l2 k2
  | 2,hw,e2=>cases hw; exact step 2 1 z c _ _ S2 2 (by rfl) hz.1 hc1 (by simp[Aq,ul]) (by rfl) (by rfl) x6 e2 l2 k2
  | n+3,hw,_=>simp at hw
 ·rintro Z S2 ⟨⟨x6,rfl⟩,e2,l2,k2⟩;have hv:=CZ hx hy hz ha hb2 hc;have e2:S2[S.length]?=ba (.dic (Aq x y z a b c 3)):=e2;refine hK _ _ ?_;clear hK K;have hlt2:=cq e2;nofun
  refine fu rfl rfl ?_;dsimp only[wE,wA,wV,wG];refine mK (d:=d) G #[S2.length,aO.map (λt=>W.tup (al t)),(λk Z S'=>(∃x7 x8 x9,Z=[ba (.tup (ag bs)),ba (.ref q),ba (.int x),ba (.int y),ba (.int z),ba (.ref S.length),x6,x7,x8,x9])/\S'[S.length]?=ba (.dic (Aq x y z a b c 3))/\S'[S2.length]?=ba (.lst (aO.map (λt=>W.tup (al t))))/\Ka S S'),rfl,#[#[_,_,_,rfl],ak e2,af,k2.trans .push],λi Z S' h=>h.2.2.1,?_,?_]
  ·rintro i w Z S3 hw ⟨⟨x7,x8,x9,rfl⟩,e3,l3,k3⟩;clear hK;rw[HF,Hy]at hw;obtain⟨t,ht,rfl⟩:=hw;obtain⟨i1,j1,h1,rfl,hi1,hj1,hh1,n1,n2,n3⟩:=xN (HZ ht);obtain⟨p1,g1,r1⟩:=hv i1 j1 hi1 hj1 n1;obtain⟨p2,g2,r2⟩:=hv j1 h1 hj1 hh1 n2;obtain⟨p3,g3,r3⟩:=hv i1 h1 hi1 hh1 n3;have q3:=k3.get _ _ hq;refine ae (show im (.tp [7,8,9]) (W.tup (al [i1,j1,h1])) [ba (.tup (ag bs)),ba (.ref q),ba (.int x),ba (.int y),ba (.int z),ba (.ref S.length),x6,x7,x8,x9] S3=ba ([ba (.tup (ag bs)),ba (.ref q),ba (.int x),ba (.int y),ba (.int z),ba (.ref S.length),x6,ba (.int i1),ba (.int j1),ba (.int h1)],S3)from rfl) λQ2 hn hr=>?_
   nofun
   dsimp only[wS,wT,wE,wA,wV,wG];refine ae (lD (cz e3) g3) #[C0 q3,ae (lD (cz e3) g1) (ae (lD (cz e3) g2) (ae (lD (cz e3) g3) ?_))];have hget:Me.get.fn (.ref q) [.tup [.int p1,.int p2],.ref S3.length] (S3++[O.lst [.int p3]])=ba ((bR U (bj p1 p2)).getD (.ref S3.length),S3++[O.lst [.int p3]]):=by
    have hk:fO (.tup [.int p1,.int p2])=ba (bj p1 p2):=ik;simp only[Me.fn,rh,cz (ak q3),hk]
   refine ae hget ?_;have hres:∃(l:HB) (ws:Hr HM),(bR U (bj p1 p2)).getD (.ref S3.length)=.ref l/\(S3++[O.lst [.int p3]])[l]?=ba (.lst (ag ws)):=by
    cases hg:bR U (bj p1 p2)with
    | none=>exact#[S3.length,[p3],rfl,af]
    | some g=>
     obtain⟨u,v,l,ws,he,_,_,_,hl,_⟩:=(hm.ka k3) _ (o4 hg);injection he with _ he
     subst he;exact#[l,ws,rfl,ak hl]
   obtain⟨l,ws,hl1,hl2⟩:=hres;dsimp only;rw[hl1];obtain⟨kb,hkb⟩:=xO (f:=p3) hl2;refine ae hkb ?_;dsimp only[wB];refine aq (Q0:=Q2) (λ_ Q3 _ hr3=>st (hr3 _ _ (hr _ _ (k _ _ (k3.trans .push))))) λ_ Q3 hn3 _=>bH (hn3 _ _ (hK _ _ (bH (hn _ _ #[#[_,_,_,rfl],ak e3,ak l3,k3.trans .push]))))
  ·rintro Z S3 ⟨⟨x7,x8,x9,rfl⟩,e3,l3,k3⟩;exact hK _ _ (st (k _ _ k3))
end
def E5 {a n:HB}{m0 m1 m2 x y z:HM}(h0:0<=m0/\m0 < a)(h1:0<=m1/\m1 < a)(h2:0<=m2/\m2 < a)(hx:0<=x/\x < n)(hy:0<=y/\y < n)(hz:0<=z/\z < n):GoodW a n [(m0,[]),(m1,[x]),(m2,[y,z])]:=by
 refine#[λk p h=>?_,λk p h=>?_,λk p h=>?_] <;> match k,h with
 | 0,h=>cases h; first|exact h0|rfl|(intro w hw; cases hw)
 | 1,h=>cases h; first|exact h1|rfl|(intro w hw; rw[HJ.mp hw]; exact hx)
 | 2,h=>cases h; first|exact h2|rfl|(intro w hw; rcases HW.mp hw with e|hw <;> first|exact e ▸ hy|(rw[HJ.mp hw]; exact hz))
 | n+3,h=>simp at h
def C3 {M:HY->FF}{Z:Fm}{S:aa}{i n:HB}{Q:QW}(hv:∀Q:W->Prop,Q (.int n)->wV Z i Q)(hn:n<=3)(k:∀j:HM,0<=j->j<=27->j=(n:HM)*n*n->Q (.int j,S)):wE M (.op .mul (.op .mul (.v i) (.v i)) (.v i)) Z S Q:=by
 have b1 : -(2 ^ 64) < (n:HM):=∅
 have b2:(n:HM) < 2 ^ 64:=∅
 have hc:(n:HM)*n*n<=27/\0<=(n:HM)*n*n:=by rcases(show n=0\/n=1\/n=2\/n=3 by omega)with h|h|h|h <;> rw[h] <;> decide
 dsimp only[wE];have em:∀m:HM,eS .mul (.int m) (.int n) S=ba (.int (m*n),S):=λm=>oN b1 b2
 generalize eS .mul=B at em ⊢;refine hv _ ?_;refine hv _ ?_;refine ae (em _) ?_;refine hv _ ?_;refine ae (em _) ?_;have:=k _ hc.2 hc.1 rfl;exact this
def xQ {M:HY->FF}{fuel:HB}{Z:Fm}{S:aa}{K:Fm->aa->Prop}{Q:QO}{i0 i n:HB}{b:Ss}(hv:∀Q:W->Prop,Q (.int n)->wV Z i Q)(hn:n<=3)(ok:hG b=true)
  (h:∀j:HM,0<=j->j<=27->j=(n:HM)*n*n->∃I:HB->Fm->aa->Prop,I 0 Z S/\(∀(i:HB) (Z:Fm) (S:aa),(i:HM) < j->I i Z S->yk M fuel b (Z.set i0 (ba (.int i))) S (I (i+1)) Q)/\∀Z S,I j.toNat Z S->K Z S) :
  Wp (fR M fuel (.loop (.nm i0) (.rng #v[.op .mul (.op .mul (.v i) (.v i)) (.v i)]) b) Z S) (r6 K Q):=
 have hw:=C3 (M:=M) (S:=S) (Q:=λp=>∃(j:HM) (I:HB->Fm->aa->Prop),p.1=.int j/\(-(2 ^ 62)<=j/\j < 2 ^ 62)/\I 0 Z p.2/\(∀(i:HB) (Z:Fm) (S:aa),(i:HM) < j->I i Z S->yk M fuel b (Z.set i0 (ba (.int i))) S (I (i+1)) Q)/\∀Z S,I j.toNat Z S->K Z S) hv hn λj j0 j27 e=>let ⟨I,h0,h1,h2⟩:=h j j0 j27 e; #[j,I,rfl,∅,h0,h1,h2]
 ii rfl ok hw
section
variable{defs:Hr (HY×Df)}{fuel d:HB}{S:aa}{r:HB}{Q:QW}
def xR (hfu:20 < fuel)(G:Gen defs)(hf:Fl S r)(k:∀w S',dD w->Fl S' r->Kp r S S'->Q (w,S')):wO (aL (ah defs fuel (d+7)) "_law_laying_rule" 1 [.ref r] S) Q:=by
 refine aw G.laying_rule rfl rfl λQ' hR=>?_
 replace k:∀w S',dD w->Fl S' r->Kp r S S'->Q' (.rt w,S'):=λz S' a b c=>hR _ _ (k z S' a b c)
 clear hR;show wZ _ _ bw [ba (.ref r),gV,gV,gV,gV,gV,gV,gV,gV,gV,gV,gV,gV,gV,gV] S Q';unfold bw;nofun
 left;refine aJ (d:=d+5) G.pick hf #v[] #v[] λv S1 v0 v7 f1 k1=>hK _ _ ?_
 clear hK K;nofun
 dsimp only[wS,wT,wE,wV,wG,gF,aH,wB];refine aq (Q0:=Q') (λ_ Q2 _ hr=>?_) (λ_ Q2 hn _=>bH (hn _ _ (hK _ _ ?_)))
 ·refine st ?_;left;exact oZ (d:=d) hfu G f1 λw S2 a b c=>hr _ _ (k w S2 a b (k1.trans c))
 clear hK K hn;nofun
 dsimp only[wS,wT,wE,wV,wG,gF,aH,wB];refine aq (Q0:=Q') (λ_ Q2 _ hr=>?_) (λ_ Q2 hn _=>bH (hn _ _ (hK _ _ ?_)))
 ·refine st ?_;left;exact uh (d:=d) hfu G f1 λw S2 a b c=>hr _ _ (k w S2 a b (k1.trans c))
 clear hK K hn;have hr1:=f1.lt;nofun
 left;refine kG (d:=d+4) G f1 λw2 S2 hw2 f2 k2=>?_
 obtain⟨bs0,q0,U0,most,rfl,hbs0,m1,m3,m6,hq0,hq0l,h40,hm0⟩:=hw2;dsimp only[wU];refine ae (show dv [2,3,4] [.tup (ag bs0),.ref q0,.int most] [ba (.ref r),ba (.int v),gV,gV,gV,gV,gV,gV,gV,gV,gV,gV,gV,gV,gV]=ba [ba (.ref r),ba (.int v),ba (.tup (ag bs0)),ba (.ref q0),ba (.int most),gV,gV,gV,gV,gV,gV,gV,gV,gV,gV]from rfl) (hK _ _ ?_)
 clear hK K;nofun
 left;refine aJ (d:=d+5) G.pick f2 ∅ ∅ λv3 S3 v30 v3m f3 k3=>?_
 dsimp only[cp,aH];obtain⟨a,ea⟩ : ∃a:HB,1+v3=a:=#[(1+v3).toNat,∅]
 rw[ea];refine hK _ _ ?_;clear hK K;nofun
 left;refine qL (d:=d+4) G (S0:=S1) hbs0 f3 hr1 (k2.trans k3) (k3.get _ _ ∅ hq0) hq0l h40 (hm0.kp hr1 k3) λbs q U S4 hb hbl hq hql hm f4 k4=>?_
 dsimp only[wU];refine ae (show dv [2,3] [.tup (ag bs),.ref q] [ba (.ref r),ba (.int v),ba (.tup (ag bs0)),ba (.ref q0),ba (.int most),ba (.int a),gV,gV,gV,gV,gV,gV,gV,gV,gV]=ba [ba (.ref r),ba (.int v),ba (.tup (ag bs)),ba (.ref q),ba (.int most),ba (.int a),gV,gV,gV,gV,gV,gV,gV,gV,gV]from rfl) (hK _ _ ?_)
 clear hK K;rw[<- hbl]at hm m6;have hn:bs.length=2\/bs.length=3:=by rw[hbl]; exact(xL bs0 hbs0).1
 have hsz:SizeOk a bs:=#[∅,hb,by
  have h1:(a:HM)*bs.length<=most*bs.length:=Int.mul_le_mul_of_nonneg_right ∅ ∅
  exact_mod_cast Int.le_trans h1 m6,∅]
 clear m6 hm0 hq0 hq0l h40 hbl hbs0 k2 k3 f2 f3;nofun
 left;refine eJ (d:=d+1) hfu G f4 ∅ ∅ λms ns S5 hml hnl hnm f5 k5=>hK _ _ ?_
 clear hK K;have kk:Kp r S S5:=k1.trans (k4.trans k5);have hrt:=f5.lt;have hq5:S5[q]?=ba (.dic U):=k5.get _ _ ∅ hq
 have hm5:MustE S5 bs.length S1.length U:=hm.kp hr1 k5;have hqn:q < S5.length:=cq hq5;clear k1 k4 k5 f4 hm hq hql f1;refine st ?_;dsimp only[wS,wE,HN];nofun
 left;refine aS ?_;rw[show(ag bs).length=bs.length from Hv ..]
 refine hK _ _ ?_;clear hK K;nofun
 refine xQ (n:=bs.length) (λQ q=>q) ∅ rfl λj j0 j27 hj=>?_
 refine#[(λ_ Z S'=>(∃x9 x10 x11 x12 x13 x14,Z=[ba (.ref r),ba (.int v),ba (.tup (ag bs)),ba (.ref q),ba (.int most),ba (.int a),ba (cZ ms ns bs []),ba (.ref S5.length),ba (.int bs.length),x9,x10,x11,x12,x13,x14])/\(∃U fs,S'[S5.length]?=ba (.dic U)/\FigD (aK a bs) U fs)/\S'[q]?=ba (.dic U)/\MustE S' bs.length S1.length U/\Fl S' r/\Kp r S S'),#[#[_,_,_,_,_,_,rfl],#[[],[],af,.nil],ak hq5,hm5.ka .push,f5.ka .push,kk.trans .push],?_,?_]
 ·rintro i Z S6 hi ⟨⟨x9,x10,x11,x12,x13,x14,rfl⟩,⟨kvd,fs,e6,hd⟩,hq6,hm6,f6,k6⟩ Q2 hn2 _;clear hK k;have hnp:(0:HM) < bs.length:=∅
  have hnb:(bs.length:HM) < 1073741824:=∅
  have y1:0<=(i:HM) % bs.length/\(i:HM) % bs.length < bs.length:=#[KF _ ∅,Kw _ hnp]
  have y2:0<=(i:HM) / bs.length % bs.length/\(i:HM) / bs.length % bs.length < bs.length:=#[KF _ ∅,Kw _ hnp]
  have y3:0<=(i:HM) / bs.length / bs.length/\(i:HM) / bs.length / bs.length < bs.length:=by
   rcases hn with h|h <;> rw[h]at hj ⊢ <;> omega
  nofun
  left;refine ae (g9 hnp) (ae (gE hnp hnb) (ae (g9 hnp) ?_));dsimp only[w2];refine hK _ _ ?_;clear hK K;nofun
  left;refine ae (gE hnp hnb) (ae (gE hnp hnb) (hK _ _ ?_));clear hK K;dsimp only;generalize(i:HM) % bs.length=z1 at y1 ⊢;generalize(i:HM) / bs.length % bs.length=z2 at y2 ⊢;generalize(i:HM) / bs.length / bs.length=z3 at y3 ⊢;nofun
  dsimp only[wS,wT,wA,wE,wV,wG];refine xP (d:=d+4) G hb y1 y2 y3 hq6 hm6 λb S7 k7=>?_
  dsimp only[ee,aH];refine aq (Q0:=Q2) (λ_ Q3 hn3 _=>?_) (λ_ Q3 hn3 _=>bH (hn3 _ _ (hK _ _ (bH (hn2 _ _ #[#[_,_,_,_,_,_,rfl],#[kvd,fs,k7.get _ _ e6,hd],k7.get _ _ hq6,hm6.ka k7,f6.ka k7,k6.trans (k7.kp r)])))))
  refine aC λK3 hK3=>?_
  refine fu rfl rfl ?_;dsimp only[wE,wA,wV,wG];have h56:S5.length < S6.length:=cq e6;have h67:=k7.len;refine xH (d:=d+5) G (a:=a) ∅ λt ts S8 e8 ht ht7 k8=>?_
  refine#[t,ts.map mP,(λ_ Z S'=>(∃x9 x13 x14,Z=[ba (.ref r),ba (.int v),ba (.tup (ag bs)),ba (.ref q),ba (.int most),ba (.int a),ba (cZ ms ns bs []),ba (.ref S5.length),ba (.int bs.length),x9,ba (.int z1),ba (.int z2),ba (.int z3),x13,x14])/\(∃U fs,S'[S5.length]?=ba (.dic U)/\FigD (aK a bs) U fs)/\S'[q]?=ba (.dic U)/\MustE S' bs.length S1.length U/\S'[t]?=ba (.lst (ts.map mP))/\Fl S' r/\Kp r S S'),rfl,#[#[_,_,_,rfl],#[kvd,fs,k8.get _ _ (k7.get _ _ e6),hd],k8.get _ _ (k7.get _ _ hq6),(hm6.ka k7).ka k8,e8,(f6.ka k7).ka k8,k6.trans ((k7.trans k8).kp r)],λi Z S' h=>h.2.2.2.2.1,?_,?_]
  ·rintro j w Z S9 hw ⟨⟨x9,x13,x14,rfl⟩,⟨kvd,fs,e9,hd⟩,hq9,hm9,ht9,f9,k9⟩;clear hK3 hn3 hK hn2;rw[HF,Hy]at hw;obtain⟨⟨tr1,tr2,tr3⟩,htr,rfl⟩:=hw;obtain⟨t1,t2,t3⟩:=ht _ (HZ htr);refine ae (show im (.nm 13) (mP (tr1,tr2,tr3)) [ba (.ref r),ba (.int v),ba (.tup (ag bs)),ba (.ref q),ba (.int most),ba (.int a),ba (cZ ms ns bs []),ba (.ref S5.length),ba (.int bs.length),x9,ba (.int z1),ba (.int z2),ba (.int z3),x13,x14] S9=ba ([ba (.ref r),ba (.int v),ba (.tup (ag bs)),ba (.ref q),ba (.int most),ba (.int a),ba (cZ ms ns bs []),ba (.ref S5.length),ba (.int bs.length),x9,ba (.int z1),ba (.int z2),ba (.int z3),ba (mP (tr1,tr2,tr3)),x14],S9)from rfl) λQ4 hn4 _=>?_
   have hu:GoodW a bs.length [(tr1,[]),(tr2,[z1]),(tr3,[z2,z3])]:=E5 t1 t2 t3 y1 y2 y3;nofun
   left;refine aj #v[] rfl (aj #v[] rfl (hK _ _ ?_))
   clear hK K;refine st ?_;left;refine aj #v[] rfl (ae (jZ (hZ rfl)) ?_)
   refine ie (d:=d+3) (m0:=.tup (ms.map W.str)) (b0:=.tup []) (u:=[(tr1,[]),(tr2,[z1]),(tr3,[z2,z3])]) G hb hnl hu rfl λS10 k10=>?_
   have e10:=k10.get _ _ e9;exact xE e10 hd hsz hu rfl λo ho=>bH (hn4 _ _ #[#[_,_,_,rfl],ho,by rw[bu ∅]; exact k10.get _ _ hq9,(hm9.ka k10).set e10,by rw[bu ∅]; exact k10.get _ _ ht9,(f9.ka k10).own hrt,(k9.trans (k10.kp r)).late kk.len])
  ·rintro Z S9 ⟨⟨x9,x13,x14,rfl⟩,hdd,hq9,hm9,ht9,f9,k9⟩;exact hK3 _ _ (bH (hn3 _ _ (hK _ _ (bH (hn2 _ _ #[#[_,_,_,_,_,_,rfl],hdd,hq9,hm9,f9,k9])))))
 ·rintro Z S6 ⟨⟨x9,x10,x11,x12,x13,x14,rfl⟩,⟨kvd,fs,e6,hd⟩,hq6,hm6,f6,k6⟩;refine hK _ _ (st ?_);left;exact xD (Q:=λp=>Q' (.rt p.1,p.2)) e6 hd hsz hml hnl hnm λw S8 hw k8=>k w S8 hw (f6.ka k8) (k6.trans (k8.kp r))
end
abbrev Tr:HB->W->Prop
 | _,.int _=>Oi
 | _,.str _=>Oi
 | _,.non=>Oi
 | n+1,.tup xs=>xs.length<=1000/\∀x∈xs,Tr n x
 | _,_=>Jt
def lE:∀n:HB,gy (II n (.bl true))=ba (II n true)
 | 0=>rfl
 | n+1=>by rw[JR,gy,lE n]; rfl
def As (n:HB):(II n true).all id=true:=by
 rw[Ig];intro x hx;rw[(List.mem_replicate.mp hx).2]; rfl
section
variable{defs:Hr (HY×Df)}{fuel:HB}
def su (hg:Is defs ("_law_alike" : HY) 2 2 bz):∀(n d:HB) (w:W) (S:aa) (Q:QW),Tr n w->(∀S',Ka S S'->Q (.bl true,S'))->wO (aL (ah defs fuel (d+n+1)) "_law_alike" 2 [w,w] S) Q:=by
 intro n
 induction n with
 | zero=>
  intro d w S Q hw k;refine aw hg rfl rfl λQ' hR=>?_
  replace k:=hR _ _ (k S .refl);clear hR;show wZ _ _ bz [ba w,ba w] S Q';dsimp only[bz];cases w with
  | int x=>
   refine aC λK hK=>cr (λQ q=>q) (hK _ _ ?_)
   refine aC λK hK=>cr (λQ q=>#[λz=>(by cases z),λ_=>q]) (hK _ _ ?_)
   refine aC λK hK=>j5 (λQ q=>q) λQ2 _ hr=>st ?_
   dsimp only[wS,wE,wV,wG];refine ae (show wf S (.int x) "int" = ba true from rfl) #[λ_=>?_,λz=>by cases z]
   dsimp only[gF,aH];rw[IS];exact hr _ _ k
  | str x=>
   refine aC λK hK=>cr (λQ q=>q) (hK _ _ ?_)
   refine aC λK hK=>cr (λQ q=>#[λz=>(by cases z),λ_=>q]) (hK _ _ ?_)
   refine aC λK hK=>cr (λQ q=>q) (hK _ _ ?_)
   refine aC λK hK=>j5 (λQ q=>q) λQ2 _ hr=>st ?_
   dsimp only[wS,wE,wV,wG];refine ae (show wf S (.str x) "str" = ba true from rfl) #[λ_=>?_,λz=>by cases z]
   dsimp only[A6,aH];rw[IS];exact hr _ _ k
  | non=>
   refine aC λK hK=>j5 (λQ q=>q) λQ2 _ hr=>st ?_
   dsimp only[wS,wE,wV,wG];exact ae (show cM .is .non .non S=ba (.bl true,S)from rfl) (hr _ _ k)
  | _=>exact hw.elim
 | succ n ih=>
  intro d w S Q hw k;refine aw hg rfl rfl λQ' hR=>?_
  replace k:∀S',Ka S S'->Q' (.rt (.bl true),S'):=λS' a=>hR _ _ (k S' a)
  clear hR;show wZ _ _ bz [ba w,ba w] S Q';dsimp only[bz];cases w with
  | int x=>
   refine aC λK hK=>cr (λQ q=>q) (hK _ _ ?_)
   refine aC λK hK=>cr (λQ q=>#[λz=>(by cases z),λ_=>q]) (hK _ _ ?_)
   refine aC λK hK=>j5 (λQ q=>q) λQ2 _ hr=>st ?_
   dsimp only[wS,wE,wV,wG];refine ae (show wf S (.int x) "int" = ba true from rfl) #[λ_=>?_,λz=>by cases z]
   dsimp only[gF,aH];rw[IS];exact hr _ _ (k _ .refl)
  | str x=>
   refine aC λK hK=>cr (λQ q=>q) (hK _ _ ?_)
   refine aC λK hK=>cr (λQ q=>#[λz=>(by cases z),λ_=>q]) (hK _ _ ?_)
   refine aC λK hK=>cr (λQ q=>q) (hK _ _ ?_)
   refine aC λK hK=>j5 (λQ q=>q) λQ2 _ hr=>st ?_
   dsimp only[wS,wE,wV,wG];refine ae (show wf S (.str x) "str" = ba true from rfl) #[λ_=>?_,λz=>by cases z]
   dsimp only[A6,aH];rw[IS];exact hr _ _ (k _ .refl)
  | tup xs=>
   obtain⟨hl,hx⟩:=hw;refine aC λK hK=>cr (λQ q=>q) (hK _ _ ?_)
   refine aC λK hK=>cr (λQ q=>#[λz=>(by cases z),λ_=>q]) (hK _ _ ?_)
   refine aC λK hK=>cr (λQ q=>q) (hK _ _ ?_)
   refine aC λK hK=>cr (λQ q=>q) (hK _ _ ?_)
   refine aC λK hK=>cr (λQ q=>#[λz=>(by cases z),λ_=>q]) (hK _ _ ?_)
   refine st ?_;left;refine aS (aS ?_);dsimp only[gF,aH,wB];rw[IS];refine#[λ_=>?_,λz=>by cases z]
   refine da (xs.length:HM) (λi ys Z2 S2=>(∃a1,Z2=[gV,a1,ba (.tup xs),ba (.tup xs)])/\ys=II i (.bl true)/\Ka S S2) rfl rfl rfl ∅ ?_ ?_ ?_
   ·dsimp only[wE,wA,wV,wG];exact aS #[rfl,#[gV,rfl],rfl,.refl]
   ·rintro i ys Z2 S2 hi ⟨⟨a1,rfl⟩,rfl,k2⟩;have hi':i < xs.length:=∅
    dsimp only[fK,wC,wE,wA,wV,wG,HN];refine#[λ_=>aj (Ip i) (by rw[HU]; exact HC hi') (aj (Ip i) (by rw[HU]; exact HC hi') (ih d _ _ _ (hx _ (IC hi')) λS3 k3=>#[#[_,rfl],?_,k2.trans k3])),λz=>by cases z]
    rw[List.replicate_succ']
   ·rintro ys Z2 S2 ⟨_,rfl,k2⟩;rw[HU];refine#[jb (by rw[NA]; exact hl),ae (a:=(.bl true,S2++[.lst (II xs.length (.bl true))])) ?_ (k _ (k2.trans .push))]
    simp only[Bi.fn,B6,ar af,lE,IK,As]
  | non=>
   refine aC λK hK=>j5 (λQ q=>q) λQ2 _ hr=>st ?_
   dsimp only[wS,wE,wV,wG];exact ae (show cM .is .non .non S=ba (.bl true,S)from rfl) (hr _ _ (k _ .refl))
  | _=>exact hw.elim
end
abbrev sv:Ss:=
 #v[.ite (.cmp .gt (.v 2) (.v 3)) #v[.ret (.ix (.ix (.ix (.v 1) (.v 2)) (.c (.int 1))) (.v 3))] .nil,.ret (.ix (.ix (.ix (.v 0) (.c (.int 1))) (.ix (.ix (.ix (.v 1) (.v 3)) (.c (.int 1))) (.v 2))) (.c (.int 1)))]
abbrev dg:Ss:=
 #v[.ret (.tup #v[.ix (.ix (.v 1) (.v 3)) (.c (.int 0)),.bi .tuple #v[.comp (.own "way" 4 #v[.v 3,.v 4,.v 2,.v 1]) (.nm 1) (.seq (.v 2)) .nil [gV,gV,ba 3,ba 0,ba 1]]])]
abbrev aV:Ss:=
 #v[.set 3 (.bi .list #v[.bi .range #v[.v 1]]),.set 4 (.lst .nil),.whl (.cmp .lt (.bi .len #v[.v 4]) (.v 2)) #v[.ex (.me .append (.v 4) #v[.me .pop (.v 3) #v[.own "_law_pick" 2 #v[.v 0,.bi .len #v[.v 3]]]])],.ret (.bi .tuple #v[.v 4])]
abbrev bF:Ss:=
 #v[.set 2 (.lst #v[.tup .nil]),.loop (.nm 3) (.rng #v[.v 1]) #v[.set 2 (.comp (.op .add (.ix (.v 3) (.op .fdiv (.v 1) (.v 2))) (.tup #v[.op .mod (.v 1) (.v 2)])) (.nm 1) (.rng #v[.op .mul (.bi .len #v[.v 2]) (.v 0)]) .nil [gV,gV,ba 0,ba 2])],.ret (.v 2)]
abbrev cf:Ss:=
 #v[.set 2 (.lst #v[.tup .nil]),.loop (.nm 3) (.rng #v[.v 1]) #v[.set 4 (.lst .nil),.loop (.nm 5) (.rng #v[.bi .len #v[.ix (.v 0) (.c (.int 0))]]) #v[.ex (.me .extend (.v 4) #v[.comp (.tup #v[.v 2,.v 1]) (.nm 1) (.seq (.own "_law_digits" 2 #v[.bi .len #v[.ix (.v 0) (.c (.int 1))],.v 3])) .nil [gV,gV,ba 5]])],.set 2 (.comp (.op .add (.ix (.v 3) (.op .fdiv (.v 1) (.bi .len #v[.v 2]))) (.tup #v[.ix (.v 2) (.op .mod (.v 1) (.bi .len #v[.v 2]))])) (.nm 1) (.rng #v[.op .mul (.bi .len #v[.v 2]) (.bi .len #v[.v 4])]) .nil [gV,gV,ba 4,ba 2])],.ret (.v 2)]
section
variable{defs:Hr (HY×Df)}{fuel d:HB}{S:aa}{r:HB}{Q:QW}
def xS {M:HY->FF}{m0 b0:W}{ns:Hr HY}{bs:Hr HM}{a:HB}{u:Wd}{i j:HB}{Q:QO}(hb:GoodB bs)(hl:ns.length=bs.length)(hu:GoodW a bs.length u)(hi:i < u.length)(hj:j < u.length)(hij:i≠j)(k:Q (.rt (.int (d6 bs u i j)),S)) :
  wZ M fuel sv [ba (.tup [m0,.tup (HR aE ns bs),b0]),ba (az u),ba (.int i),ba (.int j)] S Q:=by
 have hpi:=aF (d:=(0,[])) hi;have hpj:=aF (d:=(0,[])) hj;unfold d6 at k;dsimp only[sv];nofun
 dsimp only[wS,wT,wE,wV,wG,uc,wO,wB,az];refine aq (Q0:=Q) (λh Q2 _ hr=>?_) (λh Q2 hn _=>?_)
 ·have hji:j < i:=by have:=IQ h; omega
  rw[Ic hji]at k;have hw:j < (u.getD i (0,[])).2.length:=by rw[hu.len i _ hpi]; exact hji
  refine st ?_;dsimp only[wS,wE,wV,wG];refine aj (Ip i) (ki hi) (aj #v[] rfl (aj (Ip j) ?_ (hr _ _ k)))
  rw[HU,HF,aF (d:=0) hw]; rfl
 ·have hji:¬ j < i:=by have:=JO h; omega
  rw[Im hji]at k;refine bH (hn _ _ (hK _ _ ?_));clear hn hK;have hw:i < (u.getD j (0,[])).2.length:=by rw[hu.len j _ hpj]; omega
  have hg:=aF (d:=0) hw;obtain⟨g1,g2⟩:=hu.way j _ hpj _ (HZ hg);obtain⟨b,hb1,hb2,hb3⟩:=hb.rng ((u.getD j (0,[])).2.getD i 0).toNat ∅
  have hn:((u.getD j (0,[])).2.getD i 0).toNat < ns.length:=∅
  rw[getD_some hb1]at k;refine st ?_;dsimp only[wS,wE,wV,wG];refine aj #v[] rfl (aj (Ip j) (ki hj) (aj #v[] rfl (aj (Ip i) ?_ (aj g1 (gH (HC hn) hb1) (aj #v[] rfl k)))))
  rw[HU,HF,hg]; rfl
structure Parts (defs:Hr (HY×Df)):Prop where
 way:Is defs ("way" : HY) 4 4 sv
 over:Is defs ("point_over" : HY) 4 4 dg
def E6 (P:Parts defs){m0 b0:W}{ns:Hr HY}{bs:Hr HM}{a:HB}{u:Wd}{i j:HB}(hb:GoodB bs)(hl:ns.length=bs.length)(hu:GoodW a bs.length u)(hi:i < u.length)(hj:j < u.length)(hij:i≠j)(k:Q (.int (d6 bs u i j),S)) :
  wO (aL (ah defs fuel (d+1)) "way" 4 [.tup [m0,.tup (HR aE ns bs),b0],az u,.int i,.int j] S) Q:=
 aw P.way rfl rfl λQ' hR=>xS hb hl hu hi hj hij (hR _ _ k)
end
section
variable{S:aa}{Q:QW}
def pc:∀(xs:Hr HB) (i:HB),(al xs).eraseIdx i=al (xs.eraseIdx i)
 | [],i=>by cases i <;> rfl
 | x::xs,0=>rfl
 | x::xs,i+1=>by
  show W.int (x:HB)::(al xs).eraseIdx i=W.int (x:HB)::al (xs.eraseIdx i);rw[pc xs i]
def um (n:HB):ze 0 ((n:HM) - 0).toNat=al (Ix n):=by
 unfold ze al;rw[show((n:HM) - 0).toNat=n by omega]
 exact J7 λk _=>by rw[Ms]
def sw {i n:HB}(h:S[i]?=ba (.rng 0 n))(hn:n<=1000)(q:Q (.ref S.length,S++[.lst (al (Ix n))])):wO (Bi.list.fn [.ref i] S) Q:=by
 refine ae ?_ q;have h1:uF S i=ba (0,(n:HM)):=by simp[uF,h]
 have h2:gP [.ref i] S=ba (.ref S.length,S++[.lst (al (Ix n))]):=by
  simp only[gP,h1];rw[Ic #[∅,∅,∅,∅,by rw[IX]; omega],um]
 simp only[Bi.fn,oF,h2]
def uq {M:HY->FF}{fuel:HB}{Z:Fm}{K:Fm->aa->Prop}{Q:QO}{i j n:HB}{m:HM}(hm:m=n)(hv:∀Q:W->Prop,Q (.int m)->wV Z i Q)(hn:n<=1000)(k:∀(t:HB) (S':aa),t=S.length+1->S'=S++[O.rng 0 n]++[.lst (al (Ix n))]->K (Z.set j (ba (.ref t))) S') :
  wS M fuel (.set j (.bi .list #v[.bi .range #v[.v i]])) Z S K Q:=by
 have e:Bi.range.fn [.int m] S=ba (.ref S.length,S++[.rng 0 m]):=by
  simp only[Bi.fn,jA];rw[Ic #[∅,∅]]
 have h:wO (Bi.list.fn [.ref S.length] (S++[O.rng 0 m])) λp=>K (Z.set j (ba p.1)) p.2:=by
  subst hm;exact sw af hn (k _ _ (by simp) rfl)
 have g:wO (Bi.range.fn [.int m] S) λp=>wO (Bi.list.fn [p.1] p.2) λp=>K (Z.set j (ba p.1)) p.2:=by
  rw[e];exact h
 dsimp only[wS,wE,wA];exact hv _ g
def E7 {t:HB}{xs:Hr W}{v:HM}{w:W}(h:S[t]?=ba (.lst xs))(h0:0<=v)(hw:xs[v.toNat]?=ba w)(hl:xs.length<=1000)(q:Q (w,S.set t (.lst (xs.eraseIdx v.toNat)))):wO (Me.pop.fn (.ref t) [.int v] S) Q:=by
 refine ae ?_ q;have hv:=(HH.mp hw).1;have hs:seqIndex? v xs.length=ba v.toNat:=by
  unfold seqIndex?;rw[Im (show ¬ v < 0 by omega)]
  exact Ic (by rw[Hz]; exact#[JL h0,JL ∅])
 simp only[Me.fn,zd,cy h];rw[Ic #[∅,∅]]
 simp only[hs,hw]
end
section
variable{defs:Hr (HY×Df)}{fuel d:HB}{S:aa}{r:HB}{Q:QW}
def At (G:Gen defs)(hg:Is defs ("_law_drawn_points" : HY) 3 5 aV){many size:HB}(hf:Fl S r)(hm:many<=900)(hs:size<=many)(hfu:size < fuel)(k:∀(ps:Hr HB) S',ps.length=size->ps.Nodup->(∀p∈ps,p < many)->Fl S' r->Kp r S S'->Q (.tup (al ps),S')) :
  wO (aL (ah defs fuel (d+2)) "_law_drawn_points" 3 [.ref r,.int many,.int size] S) Q:=by
 refine aw hg rfl rfl λQ' hR=>?_
 replace k:∀(ps:Hr HB) S',ps.length=size->ps.Nodup->(∀p∈ps,p < many)->Fl S' r->Kp r S S'->Q' (.rt (.tup (al ps)),S'):=λa b c e f g h=>hR _ _ (k a b c e f g h)
 clear hR;show wZ _ _ aV [ba (.ref r),ba (.int many),ba (.int size),gV,gV] S Q';have hrt:=hf.lt;dsimp only[aV];nofun
 generalize hM:(many:HM)=tx at hK ⊢;refine uq hM.symm (λQ q=>q) ∅ λt S1 ht hS1=>hK _ _ ?_
 clear hK K;subst hM;dsimp only[HN];have e1:S1[t]?=ba (.lst (al (Ix many))):=by
  rw[hS1,show t=(S++[O.rng 0 many]).length by rw[ht]; simp]; exact af
 have l1:S.length < t:=∅
 have f1:Fl S1 r:=by rw[hS1]; exact(hf.ka .push).ka .push
 have k1:Kp r S S1:=by rw[hS1]; exact Kp.push.trans .push
 have l2:=cq e1;clear hS1 ht;refine st ?_;dsimp only[wS,wE,wA,HN];nofun
 have nl:∀xs:Hr HB,(al xs).length=xs.length:=λxs=>Hv ..
 refine Be (λm Z S'=>Z=[ba (.ref r),ba (.int many),ba (.int size),ba (.ref t),ba (.ref S1.length)]/\∃ls ps:Hr HB,S'[t]?=ba (.lst (al ls))/\S'[S1.length]?=ba (.lst (al ps))/\(ls++ps).Nodup/\(∀p∈ls++ps,p < many)/\ls.length+ps.length=many/\ps.length+m=size/\Fl S' r/\Kp r S S') size rfl rfl hfu #[rfl,Ix many,[],ak e1,af,by rw[Jp]; exact Pa,λp hp=>by rw[Jp]at hp; exact IU.mp hp,by simp,by simp,f1.ka .push,k1.trans .push] ?_
 rintro m Z S2 ⟨rfl,ls,ps,e2,e3,nd,lt,hl,hsz,f2,k2⟩;dsimp only[wT,wE,wA,wV,wG];refine dR e3 ?_;rw[nl];dsimp only[z8,aH,wB];refine#[λh=>?_,λh=>?_]
 ·have h:(ps.length:HM) < size:=IQ h;refine#[m - 1,∅,λQ2 hn _=>?_]
  clear hK k;refine st ?_;left;refine#[cW e3,cW e2,dR e2 ?_];rw[nl];refine aJ (d:=d) G.pick f2 ∅ ∅ λv S3 v0 v1 f3 k3=>?_
  have e2':=k3.get _ _ ∅ e2
  have e3':=k3.get _ _ ∅ e3
  have hv:v.toNat < ls.length:=∅
  refine E7 e2' v0 (jl (HC hv)) (by rw[nl]; omega) ?_
  have e3s:(S3.set t (.lst ((al ls).eraseIdx v.toNat)))[S1.length]?=ba (.lst (al ps)):=by rw[bu ∅]; exact e3'
  refine i5 e3s (by rw[nl]; omega) (bH (hn _ _ #[rfl,ls.eraseIdx v.toNat,ps++[ls[v.toNat]],?_,?_,?_,?_,?_,?_,(f3.own ∅).own ∅,((k2.trans k3).late ∅).late (by have:=k1.len; omega)]))
  ·rw[bu ∅,bm e2']
   rw[pc]
  ·rw[bm e3s];unfold al;rw[Ir]; rfl
  ·have hp:(ls.eraseIdx v.toNat++(ps++[ls[v.toNat]])).Perm (ls++ps):=by
    have h1:(ls[v.toNat]::ls.eraseIdx v.toNat).Perm ls:=gN hv;have h2:(ls.eraseIdx v.toNat++(ps++[ls[v.toNat]])).Perm (ls[v.toNat]::(ls.eraseIdx v.toNat++ps)):=by
     rw[<- Ja]; exact List.perm_append_singleton _ _
    exact h2.trans ((h1.append_right ps))
   exact hp.nodup_iff.mpr nd
  ·intro p hp;refine lt p ?_;rcases Io.mp hp with h|h
   ·exact Jr _ (List.mem_of_mem_eraseIdx h)
   ·rcases Io.mp h with h|h
    ·exact Iq _ h
    ·rw[HJ.mp h]; exact Jr _ (IC hv)
  ·rw[Li hv,HK,JG]; omega
  ·rw[HK,JG]; omega
 ·have h:¬ (ps.length:HM) < size:=JO h;refine hK _ _ (st ?_);left;exact cQ e3 (k ps _ ∅ (Kk.mp nd).2.1 (λp hp=>lt p (Iq _ hp)) f2 k2)
end
abbrev bx (n:HB):HB->Hr (Hr HM)
 | 0=>[[]]
 | k+1=>(Ix ((bx n k).length*n)).map λi=>(bx n k).getD (i / n) []++[((i % n:HB):HM)]
abbrev bA (a n k:HB):Hr Pt:=(Ix a).flatMap λ(m:HB)=>(bx n k).map λds=>(((m:HB):HM),ds)
abbrev bX (a n:HB):HB->Hr Wd
 | 0=>[[]]
 | k+1=>(Ix ((bX a n k).length*(bA a n k).length)).map λi=>(bX a n k).getD (i / (bA a n k).length) []++[(bA a n k).getD (i % (bA a n k).length) (0,[])]
def Au {n k:HB}{ds:Hr HM}:ds∈bx n k->ds.length<=k:=by
 induction k generalizing ds with
 | zero=>intro h; cases HJ.mp h; exact HE _
 | succ k ih=>
  intro h;obtain⟨i,hi,rfl⟩:=HX.mp h;have hi:=IU.mp hi;have hn:0 < n:=by
   rcases MP n with h|h
   ·rw[h,No]at hi; omega
   ·exact h
  have hlt:i / n < (bx n k).length:=Kh (by rw[Lr]; exact hi)
  have:=ih (HZ (aF (d:=[]) hlt));rw[HK,JG]; omega
def Bg {M:HY->FF}{Z:Fm}{S:aa}{a b:E}{x y:HM}{Q:QW}(ha:∀Q:QW,Q (.int x,S)->wE M a Z S Q)(hb:∀Q:QW,Q (.int y,S)->wE M b Z S Q)(h1 : -(2 ^ 64) < y)(h2:y < 2 ^ 64)(q:Q (.int (x*y),S)):wE M (.op .mul a b) Z S Q:=by
 have em:eS .mul (.int x) (.int y) S=ba (.int (x*y),S):=oN h1 h2;dsimp only[wE];refine ha _ ?_;refine hb _ ?_;dsimp only;rw[em];exact q
def gI {n:HB}:∀k:HB,(bx n k).length=n ^ k
 | 0=>rfl
 | k+1=>by rw[bx,Hv,IL,gI k,QA]
def xT {n k:HB}(hn:n<=3)(hk:k<=5):(bx n k).length<=243/\(k<=4->(bx n k).length<=81):=by
 rw[gI];exact#[ID (N7 hn k) (Lp (n:=3) #v[] hk),λh=>ID (N7 hn k) (Lp (n:=3) #v[] h)]
section
variable{defs:Hr (HY×Df)}{fuel d:HB}{S:aa}{r:HB}{Q:QW}
def xU (hg:Is defs ("_law_digits" : HY) 2 4 bF){n k:HB}(hn1:1<=n)(hn3:n<=3)(hk5:k<=5)(kk:∀(q:HB) (S':aa),S'[q]?=ba (.lst ((bx n k).map λds=>.tup (ag ds)))->S.length<=q->Ka S S'->Q (.ref q,S')) :
  wO (aL (ah defs fuel (d+1)) "_law_digits" 2 [.int n,.int k] S) Q:=by
 refine aw hg rfl rfl λQ' hR=>?_
 replace kk:∀(q:HB) (S':aa),S'[q]?=ba (.lst ((bx n k).map λds=>.tup (ag ds)))->S.length<=q->Ka S S'->Q' (.rt (.ref q),S'):=λa b c e f=>hR _ _ (kk a b c e f)
 clear hR;show wZ _ _ bF [ba (.int n),ba (.int k),gV,gV] S Q';dsimp only[bF];refine st ?_;dsimp only[wS,wE,wA,HN];nofun
 refine b6 (k:HM) (λi Z S'=>∃(q:HB) (a3:HA W),Z=[ba (.int n),ba (.int k),ba (.ref q),a3]/\S'[q]?=ba (.lst ((bx n i).map λds=>.tup (ag ds)))/\S.length<=q/\Ka S S') rfl rfl ∅ #[rfl,_,_,rfl,af,HE _,.push] ?_ ?_
 ·rintro i Z S1 hi ⟨q,a3,rfl,e1,hq,k1⟩ Q2 hn _;clear hK kk;obtain⟨b9,b3⟩:=xT (n:=n) (k:=i) hn3 ∅
  have b3:=b3 ∅
  have hP:(bx n i).length*n<=243:=PZ b3 hn3;have hPz:(((bx n i).length:HM)*(n:HM))=(((bx n i).length*n:HB):HM):=(Nt ..).symm;refine st ?_;dsimp only[wS,wE,HN];refine da ((((bx n i).length*n:HB)):HM) (λj ys Z2 S2=>(∃a1,Z2=[gV,a1,ba (.int n),ba (.ref q)])/\ys=((bx n (i+1)).take j).map (λds=>.tup (ag ds))/\S2=S1) rfl rfl rfl ∅ ?_ ?_ ?_
  ·refine Bg (x:=(bx n i).length) (y:=n) (λQ q=>?_) (λQ q=>q) ∅ ∅ #[by rw[hPz],#[gV,rfl],rfl,rfl]
   dsimp only[wE,wA,wV,wG];refine dR e1 ?_;rw[Hv];exact q
  ·rintro j ys Z2 S2 hj ⟨⟨a1,rfl⟩,rfl,rfl⟩;have hj':j < (bx n i).length*n:=∅
   have hlt:j / n < (bx n i).length:=Kh (by rw[Lr]; exact hj')
   have hg:=aF (d:=[]) hlt;have hdl:=Au (HZ hg);dsimp only[fK,wC,wE,wA,wV,wG,HN];refine#[λ_=>ae (gE ∅ ∅) ?_,λz=>by cases z]
   refine gf e1 (w:=.tup (ag ((bx n i).getD (j / n) []))) (Mj ∅ ∅) (by rw[show((j:HM) / (n:HM)).toNat=j / n from rfl,HF,hg]; rfl) ?_
   refine ae (g9 ∅) (ae (jZ (jb (by rw[HK,show(ag ((bx n i).getD (j / n) [])).length=((bx n i).getD (j / n) []).length from Hv ..]; show _+1<=1000; omega))) #[#[_,rfl],?_,rfl])
   have ed:(bx n (i+1))[j]?=ba ((bx n i).getD (j / n) []++[((j % n:HB):HM)]):=by
    rw[bx,HF,Kl hj']; rfl
   rw[IG,ed];simp[ag]
  ·rintro ys Z2 S2 ⟨_,rfl,rfl⟩;have hl:(bx n (i+1)).length=(bx n i).length*n:=by rw[bx,Hv,IL]
   rw[HU,<- hl,Jk];refine#[jb (by rw[Hv,hl]; omega),bH (hn _ _ #[_,_,rfl,af,k1.len,k1.trans .push])]
 ·rintro Z S1 ⟨q,a3,rfl,e1,hq,k1⟩;exact hK _ _ (st (kk q S1 (by rw[HU]at e1; exact e1) hq k1))
end
def Av {a n k:HB}{u:Wd}:u∈bX a n k->u.length<=k:=by
 induction k generalizing u with
 | zero=>intro h; cases HJ.mp h; exact HE _
 | succ k ih=>
  intro h;obtain⟨i,hi,rfl⟩:=HX.mp h;have hi:=IU.mp hi;have hlt:i / (bA a n k).length < (bX a n k).length:=Kh (by rw[Lr]; exact hi)
  have:=ih (HZ (aF (d:=[]) hlt));rw[HK,JG]; omega
def km {a n k:HB}:(bA a n k).length=a*n ^ k:=by
 unfold bA
 induction a with
 | zero=>simp
 | succ a ih=>rw[Mk,Mp,HK,ih]; simp[gI,OL]
def dE {a n:HB}(k:HB):(bX a n (k+1)).length=(bX a n k).length*(bA a n k).length:=by rw[bX,Hv,IL]
def pd {a n k:HB}(ha1:1<=a)(ha:a<=3)(hn1:1<=n)(hn:n<=3)(han:a*n<=6)(hk:k<=2):1<=(bA a n k).length/\(bA a n k).length<=27/\(bX a n k).length*(bA a n k).length<=216:=by
 have w0:(bX a n 0).length=1:=rfl;have w1:=dE (a:=a) (n:=n) 0;have w2:=dE (a:=a) (n:=n) 1;simp only[km]at w1 w2 ⊢;rcases(show k=0\/k=1\/k=2 by omega)with rfl|rfl|rfl <;> rcases(show a=1\/a=2\/a=3 by omega)with rfl|rfl|rfl <;> rcases(show n=1\/n=2\/n=3 by omega)with rfl|rfl|rfl <;> simp_all
def kn {M:HY->FF}{Z:Fm}{S:aa}{elt e:E}{tg:Tg}{cs:Es}{cap:Hr (HA HB)}{Q:QW}(oi:dG e=true)(oe:dG elt=true)(oc:mY cs=true)(he:wE M e Z S λp=>∃(t:HB) (xs:Hr W) (I:HB->Hr W->Fm->aa->Prop),p.1=.ref t/\I 0 [] (eE cap Z) p.2/\(∀i ys Z S,I i ys Z S->S[t]?=ba (.lst xs))/\
  (∀(i:HB) (w:W) (ys:Hr W) (Z:Fm) (S:aa),xs[i]?=ba w->I i ys Z S->wO (im tg w Z S) λq=>fK M elt cs q.1 q.2 (λy=>I (i+1) (ys++[y])) (I (i+1) ys))/\
  ∀ys Z S,I xs.length ys Z S->ys.length<=sizeLine/\Q (.ref S.length,S++[.lst ys])):Wp (au M (.comp elt tg (.seq e) cs cap) Z S) Q:=by
 obtain⟨w,S1,e1,t,xs,I,rfl,h0,hat,hstep,hend⟩:=bT oi he;exact j4 (mi:=.live t) (S1:=S1) I oe oc (by simp only[kB,eQ,e1,ar (hat _ _ _ _ h0)]) (λi ys Z S h=>by simp only[MI.at,ar (hat _ _ _ _ h)]) (by simp only[MI.len,ar (hat _ _ _ _ h0),IK]) h0 hstep hend
section
variable{defs:Hr (HY×Df)}{fuel d:HB}{S:aa}{r:HB}{Q:QW}
def E8 {t l:HB}{xs ys:Hr W}(h:S[t]?=ba (.lst xs))(h2:S[l]?=ba (.lst ys))(hl:xs.length+ys.length<=1000)(q:Q (.non,S.set t (.lst (xs++ys)))):wO (Me.extend.fn (.ref t) [.ref l] S) Q:=by
 refine ae ?_ q;simp only[Me.fn,je,cy h,cy h2];rw[Ic (jb hl)]
def xV (hd:Is defs ("_law_digits" : HY) 2 4 bF)(hg:Is defs ("_law_worlds" : HY) 2 6 cf){a n:HB}{tx N:Hr W}{b0:W}(hM:tx.length=a)(hN:N.length=n)(ha1:1<=a)(ha3:a<=3)(hn1:1<=n)(hn3:n<=3)(han:a*n<=6)
  (kk:∀(q:HB) (S':aa),S'[q]?=ba (.lst ((bX a n 3).map az))->S.length<=q->Ka S S'->Q (.ref q,S')) :
  wO (aL (ah defs fuel (d+2)) "_law_worlds" 2 [.tup [.tup tx,.tup N,b0],.int 3] S) Q:=by
 refine aw hg rfl rfl λQ' hR=>?_
 replace kk:∀(q:HB) (S':aa),S'[q]?=ba (.lst ((bX a n 3).map az))->S.length<=q->Ka S S'->Q' (.rt (.ref q),S'):=λa b c e f=>hR _ _ (kk a b c e f)
 clear hR;show wZ _ _ cf [ba (.tup [.tup tx,.tup N,b0]),ba (.int 3),gV,gV,gV,gV] S Q';generalize hR0:W.tup [.tup tx,.tup N,b0]=R;dsimp only[cf];refine st ?_;dsimp only[wS,wE,wA,HN];nofun
 refine b6 3 (λi Z S'=>∃(q:HB) (a3 a4 a5:HA W),Z=[ba R,ba (.int 3),ba (.ref q),a3,a4,a5]/\S'[q]?=ba (.lst ((bX a n i).map az))/\S.length<=q/\Ka S S') rfl rfl #v[] #[rfl,_,_,_,_,rfl,af,HE _,.push] ?_ ?_
 ·rintro i Z S1 hi ⟨q,a3,a4,a5,rfl,e1,hq,k1⟩ Q2 hn _;clear hK kk;have hi2:i<=2:=∅
  obtain⟨p1,p27,hP⟩:=pd (k:=i) ha1 ha3 hn1 hn3 han hi2;have hq1:=cq e1;refine st ?_;dsimp only[wS,wE,wA,HN];nofun
  refine ii rfl rfl ?_;dsimp only[wE,wA,wV,wG];subst hR0;refine aj #v[] rfl (aS ?_)
  rw[hM];refine#[(a:HM),λm Z S'=>∃a5,Z=[ba (.tup [.tup tx,.tup N,b0]),ba (.int 3),ba (.ref q),ba (.int i),ba (.ref S1.length),a5]/\S'[S1.length]?=ba (.lst ((bA m n i).map gg))/\S'[q]?=ba (.lst ((bX a n i).map az))/\Ka S S',rfl,∅,#[a5,rfl,af,ak e1,k1.trans .push],?_,?_]
  ·rintro m Z S2 hm ⟨a5,rfl,e2,e2q,k2⟩ Q3 hn3' _;clear hK hn;have hS12:=cq e2;refine st ?_;left;refine#[cW e2,?_];refine kn rfl rfl rfl ?_;dsimp only[wE,wA,wV,wG];refine aj #v[] rfl (aS ?_)
   rw[hN];refine xU (d:=d) hd hn1 hn3 ∅ λl S3 e3 hl k3=>?_
   refine#[l,(bx n i).map λds=>.tup (ag ds),λj ys Z2 S4=>(∃a1,Z2=[gV,a1,ba (.int m)])/\ys=((bx n i).take j).map (λds=>gg ((m:HM),ds))/\S4=S3,rfl,#[#[gV,rfl],rfl,rfl],λj ys Z2 S4 h=>by rw[h.2.2]; exact e3,?_,?_]
   ·rintro j w ys Z2 S4 hw ⟨⟨a1,rfl⟩,rfl,rfl⟩;rw[HF,Hy]at hw;obtain⟨ds,hds,rfl⟩:=hw;refine ae (show im (.nm 1) (.tup (ag ds)) [gV,a1,ba (.int m)] S4=ba ([gV,ba (.tup (ag ds)),ba (.int m)],S4)from rfl) ?_
    refine#[λ_=>#[#[_,rfl],?_,rfl],λz=>by cases z]
    rw[IG,hds];simp[gg,ag]
   ·rintro ys Z2 S4 ⟨_,rfl,rfl⟩;rw[show((bx n i).map λds=>W.tup (ag ds)).length=(bx n i).length from Hv ..,Jk]
    have hdl:=(xT (n:=n) (k:=i) hn3 ∅).1
    have e2':=ak (u:=O.lst ((bx n i).map λds=>gg ((m:HM),ds))) (k3.get _ _ e2)
    have hpm:(bA m n i).length<=27:=by
     rw[km]at p27 ⊢;exact ID (Nat.mul_le_mul_right _ ∅) p27
    refine#[jb (by rw[Hv]; omega),E8 e2' af (by rw[Hv,Hv]; omega) (bH (hn3' _ _ #[_,rfl,?_,?_,((k2.trans k3).trans .push).late k1.len]))]
    ·rw[bm e2'];unfold bA;rw[Mk,Mp,Ir];simp
    ·rw[bu ∅]; exact ak (k3.get _ _ e2q)
  ·rintro Z S2 ⟨a5,rfl,e2,e2q,k2⟩;rw[HU]at e2;refine hK _ _ ?_;clear hK K;have hPz:(((bX a n i).length:HM)*((bA a n i).length:HM))=(((bX a n i).length*(bA a n i).length:HB):HM):=(Nt ..).symm;refine st ?_;dsimp only[wS,wE,HN];refine da (((bX a n i).length*(bA a n i).length:HB):HM) (λj ys Z2 S3=>(∃a1,Z2=[gV,a1,ba (.ref S1.length),ba (.ref q)])/\ys=((bX a n (i+1)).take j).map az/\S3=S2) rfl rfl rfl ∅ ?_ ?_ ?_
   ·refine Bg (x:=(bX a n i).length) (y:=(bA a n i).length) (λQ q'=>?_) (λQ q'=>?_) ∅ ∅ #[by rw[hPz],#[gV,rfl],rfl,rfl]
    ·dsimp only[wE,wA,wV,wG];refine dR e2q ?_;rw[Hv];exact q'
    ·dsimp only[wE,wA,wV,wG];refine dR e2 ?_;rw[Hv];exact q'
   ·rintro j ys Z2 S3 hj ⟨⟨a1,rfl⟩,rfl,rfl⟩;have hj':j < (bX a n i).length*(bA a n i).length:=∅
    have hlt:j / (bA a n i).length < (bX a n i).length:=Kh (by rw[Lr]; exact hj')
    have hg:=aF (d:=[]) hlt;have hwl:=Av (HZ hg);have hmod:j % (bA a n i).length < (bA a n i).length:=Nl _ p1;have hp:=aF (d:=(0,[])) hmod;dsimp only[fK,wC,wE,wA,wV,wG,HN];refine#[λ_=>dR e2 ?_,λz=>by cases z]
    rw[Hv];refine ae (gE ∅ ∅) ?_
    refine gf e2q (w:=az ((bX a n i).getD (j / (bA a n i).length) [])) (Mj ∅ ∅) (by rw[show((j:HM) / ((bA a n i).length:HM)).toNat=j / (bA a n i).length from rfl,HF,hg]; rfl) (dR e2 ?_)
    rw[Hv];refine ae (g9 ∅) (gf e2 (w:=gg ((bA a n i).getD (j % (bA a n i).length) (0,[]))) (KF _ ∅) (by rw[show((j:HM) % ((bA a n i).length:HM)).toNat=j % (bA a n i).length from rfl,HF,hp]; rfl) ?_)
    refine ae (jZ (jb (by rw[HK,Hv]; show _+1<=1000; omega))) #[#[_,rfl],?_,rfl]
    have ed:(bX a n (i+1))[j]?=ba ((bX a n i).getD (j / (bA a n i).length) []++[(bA a n i).getD (j % (bA a n i).length) (0,[])]):=by
     rw[bX,HF,Kl hj']; rfl
    rw[IG,ed];simp[az]
   ·rintro ys Z2 S3 ⟨_,rfl,rfl⟩;rw[HU,<- dE,Jk];exact#[jb (by rw[Hv,dE]; omega),bH (hn _ _ #[_,_,_,_,rfl,af,k2.len,k2.trans .push])]
 ·rintro Z S1 ⟨q,a3,a4,a5,rfl,e1,hq,k1⟩;exact hK _ _ (st (kk q S1 e1 hq k1))
end
abbrev cX (a:HB)(bs:Hr HM):Hr Wd:=(bX a bs.length 3).map (jc bs)
abbrev bB (a:HB)(bs:Hr HM):Il:=match iW ((cX a bs).map cG)with
 | some ks=>decide ks.Nodup && !ks.isEmpty
 | none=>false
def GL:bB 1 [0]=true/\bB 2 [0]=true/\bB 3 [0]=true:=by decide +kernel
def Fv:bB 1 [0,1]=true/\bB 2 [0,1]=true/\bB 1 [1,0]=true/\bB 2 [1,0]=true:=by decide +kernel
def GM:bB 1 [0,1,2]=true/\bB 1 [1,0,2]=true/\bB 1 [0,2,1]=true:=by decide +kernel
def GN:bB 3 [0,1]=true:=by decide +kernel
def GP:bB 3 [1,0]=true:=by decide +kernel
def GQ:bB 2 [0,1,2]=true:=by decide +kernel
def GR:bB 2 [1,0,2]=true:=by decide +kernel
def GU:bB 2 [0,2,1]=true:=by decide +kernel
abbrev cu (bs:Hr HM)(v:Wd)(ps:Hr HB)(i:HB):Pt:=((v.getD i (0,[])).1,ps.map λq=>d6 bs v i q)
def dk (bs:Hr HM)(v:Wd)(o:Hr HB)(p:HB):aD bs v (o++[p])=aD bs v o++[cu bs v o p]:=by
 unfold aD cu;rw[HK,JG,Mk,Ir];congr 1
 ·refine J7 λk hk=>?_
  have hk:=IU.mp hk;rw[show(o++[p]).getD k 0=o.getD k 0 by simp[IN hk],List.take_append_of_le_length ∅]
 ·simp
def xW {α:Type}{a b:Hr α}{x y:α}(h:a=b):(a++[x]=b++[y])=(y=x):=by
 subst h; simp[eq_comm]
def iO {S:aa}{d:HB}:∀xs ys:Hr HM,gq (iq S d) (xs.map W.int) (ys.map W.int)=ba (decide (xs=ys))
 | [],[]=>rfl
 | [],_::_=>rfl
 | _::_,[]=>rfl
 | x::xs,y::ys=>by
  have e:iq S d (.int x) (.int y)=ba (x==y):=by cases d <;> rfl
  simp only[IZ,gq,e,iO xs ys]
  by_cases h:x=y
  ·subst h; by_cases h2:xs=ys <;> simp[h2]
  ·have h':(x==y)=false:=by simpa using h
   simp[h,h']
def xX {S:aa}{d:HB}(p q:Pt):iq S (d+2) (gg p) (gg q)=ba (decide (p=q)):=by
 obtain⟨m,ws⟩:=p;obtain⟨m',ws'⟩:=q;show gq (iq S (d+1)) [.int m,.tup (ws.map W.int)] [.int m',.tup (ws'.map W.int)]=_;have e:iq S (d+1) (.int m) (.int m')=ba (m==m'):=rfl;have e2:iq S (d+1) (.tup (ws.map W.int)) (.tup (ws'.map W.int))=ba (decide (ws=ws')):=iO ws ws';simp only[gq,e,e2]
 by_cases h:m=m'
 ·subst h; by_cases h2:ws=ws' <;> simp[h2]
 ·have h':(m==m')=false:=by simpa using h
  simp[h,h']
def pe {S:aa}{d:HB}:∀u v:Wd,gq (iq S (d+2)) (u.map gg) (v.map gg)=ba (decide (u=v))
 | [],[]=>rfl
 | [],_::_=>rfl
 | _::_,[]=>rfl
 | x::xs,y::ys=>by
  simp only[IZ,gq,xX,pe xs ys]
  by_cases h:x=y
  ·subst h; by_cases h2:xs=ys <;> simp[h2]
  ·simp[h]
def E9 {S:aa}{p q:Pt}:cM .eq (gg p) (gg q) S=ba (.bl (decide (p=q)),S):=by
 show(iq S (18+2) (gg p) (gg q)).map _=_;rw[xX]; rfl
def C4 {S:aa}{u v:Wd}:cM .eq (az u) (az v) S=ba (.bl (decide (u=v)),S):=by
 show(gq (iq S (17+2)) (u.map gg) (v.map gg)).map _=_;rw[pe]; rfl
def ur (ps:Hr HB):al ps=(ps.map λ(p:HB)=>(p:HM)).map W.int:=by unfold al; rw[J6]; rfl
def pf {p:HB}:∀ps:Hr HB,((al ps).any λz=>yi z (.int p))=decide (p∈ps)
 | []=>rfl
 | q::ps=>by
  show((q:HM)==(p:HM)||(al ps).any _)=_
  rw[pf ps]
  by_cases h:q=p
  ·subst h; simp
  ·have h1:((q:HM)==(p:HM))=false:=by simp; omega
   have h2:¬ p=q:=λe=>h e.symm
   rw[h1]; simp[h2]
def ut (ps:Hr HB):(al ps).all bG=true:=by
 rw[Ig];intro x hx;obtain⟨p,_,rfl⟩:=HX.mp hx;rfl
section
variable{defs:Hr (HY×Df)}{fuel d:HB}{S:aa}{Q:QW}
def uu {n:HB}(h:n<=1000000):n<=sizeLine:=by rw[IX]; omega
end
abbrev bh:Ss:=
 #v[.set 1 (.bi .list #v[.bi .range #v[.bi .len #v[.ix (.v 0) (.c (.int 1))]]]),.ite (.and (.cmp .eq (.comp (.v 2) (.tp [1,2]) (.seq (.ix (.v 0) (.c (.int 1)))) .nil [gV,gV,gV]) (.v 1)) (.cmp .gt (.bi .len #v[.v 1]) (.c (.int 1)))) #v[.set 1 (.op .add (.lst #v[.c (.int 1),.c (.int 0)]) (.sl (.v 1) (.yes (.c (.int 2))) .no))] .nil,.ret (.tup #v[.ix (.v 0) (.c (.int 0)),.bi .tuple #v[.comp (.tup #v[.ix (.ix (.ix (.v 3) (.c (.int 1))) (.v 1)) (.c (.int 0)),.ix (.v 2) (.v 1)]) (.nm 1) (.rng #v[.bi .len #v[.v 1]]) .nil [gV,gV,ba 1,ba 0]],.tup .nil])]
abbrev gj (bs:Hr HM):Hr HM:=if bs=d7 bs.length/\1 < bs.length then[1,0]++(d7 bs.length).drop 2 else d7 bs.length
def lF {bs:Hr HM}(h:GoodB bs):GoodB (gj bs)/\(gj bs).length=bs.length:=by
 rcases h with rfl|rfl|rfl|rfl|rfl|rfl
 ·exact#[.inl #v[],#v[]]
 ·exact#[.inr (.inr (.inl #v[])),#v[]]
 ·exact#[.inr (.inl #v[]),#v[]]
 ·exact#[.inr (.inr (.inr (.inr (.inl #v[])))),#v[]]
 ·exact#[.inr (.inr (.inr (.inl #v[]))),#v[]]
 ·exact#[.inr (.inr (.inr (.inl #v[]))),#v[]]
def uw (n:HB):al (Ix n)=(d7 n).map W.int:=by rw[ur]; rfl
def C5 {S:aa}{i j:HB}{xs ys:Hr HM}(h1:S[i]?=ba (.lst (xs.map W.int)))(h2:S[j]?=ba (.lst (ys.map W.int))):cM .eq (.ref i) (.ref j) S=ba (.bl (decide (xs=ys)),S):=by
 show(iq S (19+1) (.ref i) (.ref j)).map _=_;simp only[iq,cy h1,cy h2,iO];split
 ·rfl
 ·rename_i h;have:xs≠ys:=λe=>h (by rw[e])
  simp[this]
section
variable{defs:Hr (HY×Df)}{fuel d:HB}{S:aa}{Q:QW}
def xY {M:HY->FF}{Z:Fm}{K:Fm->aa->Prop}{Q:QO}{e:E}{j n:HB}{m:HM}(hm:m=n)(he:∀Q:QW,Q (.int m,S)->wE M e Z S Q)(hn:n<=1000)(k:∀(t:HB) (S':aa),t=S.length+1->S'=S++[O.rng 0 n]++[.lst (al (Ix n))]->K (Z.set j (ba (.ref t))) S') :
  wS M fuel (.set j (.bi .list #v[.bi .range #v[e]])) Z S K Q:=by
 have e1:Bi.range.fn [.int m] S=ba (.ref S.length,S++[.rng 0 m]):=by
  simp only[Bi.fn,jA];rw[Ic #[∅,∅]]
 have h:wO (Bi.list.fn [.ref S.length] (S++[O.rng 0 m])) λp=>K (Z.set j (ba p.1)) p.2:=by
  subst hm;exact sw af hn (k _ _ (by simp) rfl)
 have g:wO (Bi.range.fn [.int m] S) λp=>wO (Bi.list.fn [p.1] p.2) λp=>K (Z.set j (ba p.1)) p.2:=by
  rw[e1];exact h
 dsimp only[wS,wE,wA];exact he _ g
def Aw (hg:Is defs ("_law_other_rule" : HY) 1 2 bh){m0 b0:W}{ns:Hr HY}{bs:Hr HM}(hb:GoodB bs)(hnl:ns.length=bs.length)
  (k:∀S',Ka S S'->Q (.tup [m0,.tup (HR aE ns (gj bs)),.tup []],S')) :
  wO (aL (ah defs fuel (d+1)) "_law_other_rule" 1 [.tup [m0,.tup (HR aE ns bs),b0]] S) Q:=by
 refine aw hg rfl rfl λQ' hR=>?_
 replace k:∀S',Ka S S'->Q' (.rt (.tup [m0,.tup (HR aE ns (gj bs)),.tup []]),S'):=λS' a=>hR _ _ (k S' a)
 clear hR;obtain⟨gb,gl⟩:=lF hb;have hb3:bs.length<=3:=by rcases hb with rfl|rfl|rfl|rfl|rfl|rfl <;> decide
 have zl:(HR aE ns bs).length=bs.length:=by rw[JS,hnl]; omega
 show wZ _ _ bh [ba (.tup [m0,.tup (HR aE ns bs),b0]),gV] S Q';generalize hB:W.tup [m0,.tup (HR aE ns bs),b0]=R;dsimp only[bh];nofun
 have he:∀Q:QW,Q (.int ((HR aE ns bs).length:HB),S)->wE (ah defs fuel d) (.bi .len #v[.ix (.v 0) (.c (.int 1))]) [ba R,gV] S Q:=λQ q=>by
  dsimp only[wE,wA,wV,wG];subst hB;exact aj #v[] rfl (aS q)
 generalize hρ:[ba R,gV]=Z0 at he hK ⊢;rw[zl]at he;refine xY rfl he ∅ λt S1 ht hS1=>hK _ _ ?_
 clear he hK K;subst hρ;dsimp only[HN];have e1:S1[t]?=ba (.lst ((d7 bs.length).map W.int)):=by
  rw[hS1,show t=(S++[O.rng 0 bs.length]).length by rw[ht]; simp,<- uw]; exact af
 have k1:Ka S S1:=by rw[hS1]; exact Ka.push.trans .push
 have l1:S.length<=t:=∅
 clear hS1 ht;have tl:∀(t2:HB) (S2:aa),S2[t2]?=ba (.lst ((gj bs).map W.int))->Ka S S2->wZ (ah defs fuel d) fuel #v[.ret (.tup #v[.ix (.v 0) (.c (.int 0)),.bi .tuple #v[.comp (.tup #v[.ix (.ix (.ix (.v 3) (.c (.int 1))) (.v 1)) (.c (.int 0)),.ix (.v 2) (.v 1)]) (.nm 1) (.rng #v[.bi .len #v[.v 1]]) .nil [gV,gV,ba 1,ba 0]],.tup .nil])] [ba R,ba (.ref t2)] S2 Q':=λt2 S2 e2 k2=>by
  refine st ?_;left;subst hB;refine aj #v[] rfl ?_
  refine da (bs.length:HM) (λi ys Z2 S3=>(∃a1,Z2=[gV,a1,ba (.ref t2),ba (.tup [m0,.tup (HR aE ns bs),b0])])/\ys=(HR aE ns (gj bs)).take i/\S3=S2) rfl rfl rfl ∅ ?_ ?_ ?_
  ·dsimp only[wE,wA,wV,wG];refine dR e2 ?_;rw[Hv,gl];exact#[rfl,#[gV,rfl],rfl,rfl]
  ·rintro i ys Z2 S3 hi ⟨⟨a1,rfl⟩,rfl,rfl⟩;have hi':i < bs.length:=∅
   have hn:ns[i]?=ba (ns[i]'∅):=HC ∅
   have hbk:(gj bs)[i]?=ba ((gj bs)[i]'∅):=HC ∅
   have hbb:bs[i]?=ba bs[i]:=HC hi';dsimp only[fK,wC,wE,wA,wV,wG,HN];refine#[λ_=>aj #v[] rfl (aj (Ip i) (by rw[HU]; exact gH hn hbb) (aj #v[] rfl (gf e2 (Ip i) (by rw[HU,HF,hbk]; rfl) #[#[_,rfl],?_,rfl]))),λz=>by cases z]
   rw[IG,gH hn hbk]; rfl
  ·rintro ys Z2 S3 ⟨_,rfl,rfl⟩;rw[HU,Kn (by rw[JS]; omega)]
   exact#[uu (by rw[JS]; omega),cQ af (k _ (k2.trans .push))]
 nofun
 dsimp only[wS,wT,wE,wA,wV,wG];refine r8 (HR aE ns bs) (λi ys Z2 S2=>(∃a1 a2,Z2=[gV,a1,a2])/\ys=(bs.map W.int).take i/\S2=S1) rfl rfl rfl ?_ ?_ ?_
 ·dsimp only[wE,wV,wG];subst hB;exact aj #v[] rfl #[rfl,#[gV,gV,rfl],rfl,rfl]
 ·rintro i w ys Z2 S2 hw ⟨⟨a1,a2,rfl⟩,rfl,rfl⟩;have hi:i < bs.length:=by
   have:=(HH.mp hw).1;omega
  have hn:ns[i]?=ba (ns[i]'∅):=HC ∅
  have hbb:bs[i]?=ba bs[i]:=HC hi;cases(gH hn hbb).symm.trans hw;refine ae (show im (.tp [1,2]) (aE (ns[i]'∅) bs[i]) [gV,a1,a2] S2=ba ([gV,ba (.str (ns[i]'∅)),ba (.int bs[i])],S2)from rfl) ?_
  dsimp only[fK,wC,wE,wV,wG];refine#[λ_=>#[#[_,_,rfl],?_,rfl],λz=>by cases z]
  rw[IG,HF,hbb]; rfl
 ·rintro ys Z2 S2 ⟨_,rfl,rfl⟩;rw[zl,Kn (by rw[Hv]; exact HE _)]
  refine#[uu (by rw[Hv]; omega),?_]
  have e1':=ak (u:=O.lst (bs.map W.int)) e1;refine ae (C5 af e1') ?_;dsimp only[wB];have no:¬ (bs=d7 bs.length/\1 < bs.length)->gj bs=d7 bs.length:=λh=>Im h
  refine#[λh=>?_,λh=>?_]
  ·have h:bs=d7 bs.length:=IQ h;refine dR e1' ?_;rw[Hv,show(d7 bs.length).length=bs.length by rw[<- h]]
   refine ae uc ?_;dsimp only[wB];refine aq (Q0:=Q') (λh2 Q2 hn2 _=>?_) (λh2 Q2 hn2 _=>?_)
   ·have h2:(1:HM) < bs.length:=IQ h2;refine st ?_;dsimp only[wS,wE,wA,wP,wV,wG,wN];refine ae (a:=(.ref (S2++[O.lst (bs.map W.int)]++[O.lst [.int 1,.int 0]]).length,S2++[O.lst (bs.map W.int)]++[O.lst [.int 1,.int 0]]++[O.lst (((d7 bs.length).drop 2).map W.int)])) ?_ ?_
    ·simp only[uE,ar (ak (u:=O.lst [W.int 1,W.int 0]) e1')];rw[show(ba (2:HM))=ba (((2:HB)):HM)from rfl,oQ,List.map_drop]
    ·dsimp only;refine ae (qG (ak af) af (uu ?_)) (bH (hn2 _ _ (hK _ _ (tl _ _ (by rw[show gj bs=[1,0]++(d7 bs.length).drop 2 from Ic #[h,∅],Ir]; exact af) ((((k1.trans .push).trans .push).trans .push).trans .push)))))
     rw[HK,Hv,KS,<- h]; simp; omega
   ·have h2:¬ (1:HM) < bs.length:=JO h2;exact bH (hn2 _ _ (hK _ _ (tl _ _ (by rw[no λz=>h2 ∅]; exact e1') (k1.trans .push))))
  ·exact aq (Q0:=Q') (λz=>by cases z) (λ_ Q2 hn2 _=>bH (hn2 _ _ (hK _ _ (tl _ _ (by rw[no λz=>JO h z.1]; exact e1') (k1.trans .push)))))
end
def Ax {a:HB}{bs:Hr HM}(h:SizeOk a bs):bB a bs=true:=by
 obtain⟨h0,hb,hm,h3⟩:=h;have ha:a=1\/a=2\/a=3:=∅
 rcases hb with rfl|rfl|rfl|rfl|rfl|rfl <;> rcases ha with rfl|rfl|rfl
 ·exact GL.1
 ·exact GL.2.1
 ·exact GL.2.2
 ·exact Fv.1
 ·exact Fv.2.1
 ·exact GN
 ·exact Fv.2.2.1
 ·exact Fv.2.2.2
 ·exact GP
 ·exact GM.1
 ·exact GQ
 ·exact absurd hm #v[]
 ·exact GM.2.1
 ·exact GR
 ·exact absurd hm #v[]
 ·exact GM.2.2
 ·exact GU
 ·exact absurd hm #v[]
def pg:∀ {us vs:Hr Wd},us.map cG=vs.map cG->us=vs
 | [],[],_=>rfl
 | [],_::_,h=>by cases h
 | _::_,[],h=>by cases h
 | x::xs,y::ys,h=>by
  simp only[IZ,Nz]at h;rw[mO h.1,pg h.2]
def ph:∀xs:Hr HM,bV (xs.map T.int)=true
 | []=>rfl
 | _::xs=>ph xs
def sx:∀u:Wd,bV (u.map mJ)=true
 | []=>rfl
 | p::u=>by
  simp only[IZ,bV,Hz];refine#[?_,sx u];simp[mJ,dH,bV,ph]
def xZ (u:Wd):dH (cG u)=true:=sx u
def Bh:∀ {ks:Hr T} {L:Hr Wd},(∀k∈ks,k∈L.map cG)->∃us:Hr Wd,ks=us.map cG/\∀u∈us,u∈L
 | [],_,_=>#[[],rfl,λ_ h=>nomatch h]
 | k::ks,L,h=>by
  obtain⟨u,hu,rfl⟩:=HX.mp (h k (.head _));obtain⟨us,rfl,h2⟩:=Bh λk hk=>h k (.tail _ hk)
  exact#[u::us,rfl,λv hv=>(HW.mp hv).elim (λe=>e ▸ hu) (h2 v)]
def i6:∀ {us:Hr Wd},(us.map cG).Nodup->us.Nodup
 | [],_=>.nil
 | u::us,h=>by
  rw[IZ,KC]at h;exact KC.mpr #[λz=>h.1 (HX.mpr #[u,z,rfl]),i6 h.2]
def C6 {n k:HB}{ds:Hr HM}:ds∈bx n k->ds.length=k/\∀w∈ds,0<=w/\w < (n:HM):=by
 induction k generalizing ds with
 | zero=>intro h; cases HJ.mp h; exact#[rfl,λw hw=>nomatch hw]
 | succ k ih=>
  intro h;obtain⟨i,hi,rfl⟩:=HX.mp h;have hi:=IU.mp hi;have hn:0 < n:=by
   rcases MP n with h|h
   ·rw[h,No]at hi; omega
   ·exact h
  have hlt:i / n < (bx n k).length:=Kh (by rw[Lr]; exact hi)
  obtain⟨h1,h2⟩:=ih (HZ (aF (d:=[]) hlt));refine#[by rw[HK,h1]; rfl,λw hw=>?_]
  rcases Io.mp hw with h|h
  ·exact h2 w h
  ·rw[HJ.mp h];have:=Nl i hn;omega
def po {a n k:HB}{u:Wd}:u∈bX a n k->GoodW a n u/\u.length=k:=by
 induction k generalizing u with
 | zero=>intro h; cases HJ.mp h; exact#[.nil,rfl]
 | succ k ih=>
  intro h;obtain⟨i,hi,rfl⟩:=HX.mp h;have hi:=IU.mp hi;have hpos:0 < (bA a n k).length:=by
   rcases MP (bA a n k).length with h|h
   ·rw[h,No]at hi; omega
   ·exact h
  have hlt:i / (bA a n k).length < (bX a n k).length:=Kh (by rw[Lr]; exact hi)
  obtain⟨h1,h2⟩:=ih (HZ (aF (d:=[]) hlt));have hp:=HZ (aF (d:=(0,[])) (Nl i hpos));obtain⟨m,hm,hp⟩:=Nd.mp hp;obtain⟨ds,hds,e⟩:=HX.mp hp;obtain⟨g1,g2⟩:=C6 hds;have hm:=IU.mp hm;rw[<- e];exact#[h1.snoc #[∅,∅] (by rw[g1,h2]) g2,by rw[HK,h2]; rfl]
def Ay {a:HB}{bs:Hr HM}(h:SizeOk a bs):∃us:Hr Wd,iW ((cX a bs).map cG)=ba (us.map cG)/\us.Nodup/\us.length < 64/\(∀u∈us,u∈aK a bs)/\cX a bs≠[]:=by
 have p:=Ax h;unfold bB at p;split at p
 ·rename_i ks hk;simp only[Hz,HQ]at p;have hm0:=vN hk;obtain⟨us,rfl,hm⟩:=Bh (L:=aK a bs) λk hk=>by
   obtain⟨f,hf,rfl⟩:=HX.mp (hm0 k hk);obtain⟨u,hu,rfl⟩:=HX.mp hf;obtain⟨g1,g2⟩:=po hu;exact HX.mpr #[_,sj g1 g2,rfl]
  have nd:=i6 p.1;refine#[us,hk,nd,MO (mI us _ nd hm) (mN h),hm,λz=>?_]
  rw[z]at hk;have e:ba (us.map cG)=ba []:=hk.symm;rw[Je e]at p;exact absurd p.2 #v[]
 ·cases p
def pr {us:Hr Wd}(h:us.Nodup):Nice (us.map cG):=by
 refine#[λx hx=>?_,iM us,?_]
 ·obtain⟨u,_,rfl⟩:=HX.mp hx;exact xZ u
 ·rw[Kx,LX];exact h.imp λhne e=>hne (mO e)
def iP {us:Hr Wd}:(b8 us).map cG=dN (us.map cG):=by
 unfold b8 dN;rw[oU (d:=[])]
def uy {us vs:Hr Wd}(h:us.Nodup)(hs:vs.Sublist (b8 us)):b8 vs=vs:=by
 apply pg;rw[iP];refine vM (pr h) ?_;rw[<- iP];exact hs.map _
abbrev cH:Ss:=
 #v[.ret (.bi .sorted #v[.bi .set #v[.comp (.own "_law_figure" 2 #v[.v 2,.v 1]) (.nm 1) (.seq (.own "_law_worlds" 2 #v[.v 0,.c (.int 3)])) .nil [gV,gV,ba 0]]])]
abbrev bQ:Ss:=
 #v[.set 1 (.own "_law_pick" 2 #v[.v 0,.c (.int 4)]),.ite (.cmp .eq (.v 1) (.c (.int 0))) #v[.ret (.own "_law_laying_rule" 1 #v[.v 0])] .nil,.ite (.cmp .lt (.v 1) (.c (.int 3))) #v[.ret (.own "_law_any_rule" 1 #v[.v 0])] .nil,.asg [2,3] (.own "_law_sizes" 1 #v[.v 0]),.set 4 (.own "_law_rule_of" 4 #v[.v 0,.v 2,.own "_law_backs" 2 #v[.v 0,.v 3],.tup .nil]),.ret (.tup #v[.ix (.v 4) (.c (.int 0)),.ix (.v 4) (.c (.int 1)),.bi .tuple #v[.comp (.v 1) (.nm 1) (.seq (.own "_law_figures" 1 #v[.v 4])) #v[.cmp .eq (.own "_law_pick" 2 #v[.v 2,.c (.int 3)]) (.c (.int 0))] [gV,gV,ba 0]]])]
section
variable{defs:Hr (HY×Df)}{fuel d:HB}{S:aa}{r:HB}{Q:QW}
def C7 {l:HB}{us ks:Hr Wd}(h:S[l]?=ba (.lst (us.map az)))(hne:us≠[])(hk:iW (us.map cG)=ba (ks.map cG))(q:Q (.ref S.length,S++[.stt (ks.map cG)])):wO (Bi.set.fn [.ref l] S) Q:=by
 refine ae ?_ q;have e2:gA [.ref l] S=ba (.ref S.length,S++[.stt (ks.map cG)]):=by
  simp only[gA,ar h,xq];rw[Ic,hk]
  ·rfl
  ·rw[Ig];intro x hx;obtain⟨u,_,rfl⟩:=HX.mp hx;have:=kh u;have kl:ap=6:=rfl;simp only[rG,xZ,LF,Hz,HQ];exact#[rfl,∅]
 simp only[Bi.fn,oF,show jO [.ref l] S=gV from rfl,e2]
def Az {l:HB}{us:Hr Wd}(h:S[l]?=ba (.stt (us.map cG)))(h64:us.length < 64)(hnd:us.Nodup)(hne:∀u∈us,u≠[])(q:Q (.ref S.length,S++[.lst ((b8 us).map az)])):wO (Bi.sorted.fn [.ref l] S) Q:=by
 refine ae ?_ q;have hr:Dq S l=ba (us.map cG):=by simp[Dq,h]
 have N:=pr hnd;have ok:jL (us.map cG)=true:=by
  simp only[jL,gx,Hz,HQ,JY,Hv];refine#[#[#[Ig.mpr N.num,N.lt],N.nd],#[#[h64,by have:=fL us; unfold bC; omega],.inr #[xu us hne,N.lt]]]
 have e1:bZ [.ref l] S=ba (.ref S.length,S++[.lst ((b8 us).map az)]):=by
  simp only[bZ,hr];rw[Ic ok,<- iP,qH]
 show oF bZ eD [.ref l] S=_;unfold oF;simp only[e1]
structure Full (defs:Hr (HY×Df)):Prop where
 digits:Is defs ("_law_digits" : HY) 2 4 bF
 worlds:Is defs ("_law_worlds" : HY) 2 6 cf
 figures:Is defs ("_law_figures" : HY) 1 1 cH
 full:Is defs ("_law_full_rule" : HY) 1 5 bQ
def uz (G:Gen defs)(F:Full defs){ms ns:Hr HY}{a:HB}{bs:Hr HM}{b0:W}(hs:SizeOk a bs)(hml:ms.length=a)(hnl:ns.length=bs.length)
  (k:∀(us:Hr Wd) (q:HB) (S':aa),us.Nodup->us.length < 64->(∀u∈us,u∈aK a bs)->S'[q]?=ba (.lst ((b8 us).map az))->S.length<=q->Ka S S'->Q (.ref q,S')) :
  wO (aL (ah defs fuel (d+4)) "_law_figures" 1 [.tup [.tup (ms.map W.str),.tup (HR aE ns bs),b0]] S) Q:=by
 refine aw F.figures rfl rfl λQ' hR=>?_
 replace k:∀(us:Hr Wd) (q:HB) (S':aa),us.Nodup->us.length < 64->(∀u∈us,u∈aK a bs)->S'[q]?=ba (.lst ((b8 us).map az))->S.length<=q->Ka S S'->Q' (.rt (.ref q),S'):=λa b c e f g h i j=>hR _ _ (k a b c e f g h i j)
 clear hR;obtain⟨us,hk,hnd,h64,hmem,hne⟩:=Ay hs;have hb3:=hs.n3;have hpos:=hs.pos;have h3:=hs.a3;have hmost:=hs.most;show wZ _ _ cH [ba (.tup [.tup (ms.map W.str),.tup (HR aE ns bs),b0])] S Q';generalize hB:W.tup [.tup (ms.map W.str),.tup (HR aE ns bs),b0]=R;dsimp only[cH];refine st ?_;left;refine kn rfl rfl rfl ?_;dsimp only[wE,wA,wV,wG];subst hB;refine xV (d:=d+1) F.digits F.worlds (a:=a) (n:=bs.length) (by rw[Hv,hml]) (by rw[JS,hnl]; omega) hpos h3 hb3.1 hb3.2 hmost λl S1 e1 hl k1=>?_
 generalize hB:W.tup [.tup (ms.map W.str),.tup (HR aE ns bs),b0]=R;refine#[l,(bX a bs.length 3).map az,λj ys Z2 S2=>(∃a1,Z2=[gV,a1,ba R])/\ys=((cX a bs).take j).map az/\S2[l]?=ba (.lst ((bX a bs.length 3).map az))/\Ka S S2,rfl,#[#[gV,rfl],rfl,e1,k1],λj ys Z2 S2 h=>h.2.2.1,?_,?_]
 ·rintro j w ys Z2 S2 hw ⟨⟨a1,rfl⟩,rfl,e2,k2⟩;rw[HF,Hy]at hw;obtain⟨u,hu,rfl⟩:=hw;obtain⟨gu,hu3⟩:=po (HZ hu);refine ae (show im (.nm 1) (az u) [gV,a1,ba R] S2=ba ([gV,ba (az u),ba R],S2)from rfl) ?_
  dsimp only[fK,wC,wE,wA,wV,wG];subst hB;refine#[λ_=>ie (d:=d) G hs.good hnl gu hu3 λS3 k3=>#[#[_,rfl],?_,k3.get _ _ e2,k2.trans k3],λz=>by cases z]
  have:(cX a bs)[j]?=ba (jc bs u):=by unfold cX; rw[HF,hu]; rfl
  rw[IG,this];simp
 ·rintro ys Z2 S2 ⟨_,rfl,e2,k2⟩;have hfl:(cX a bs).length=((bX a bs.length 3).map az).length:=by unfold cX; rw[Hv,Hv]
  rw[<- hfl,Jk];have hl216:(cX a bs).length<=216:=by
   unfold cX;rw[Hv,dE];exact(pd (k:=2) hpos h3 hb3.1 hb3.2 hmost #v[]).2.2
  refine#[uu (by rw[Hv]; omega),C7 af hne hk (Az af h64 hnd (λu hu=>oW (hmem u hu)) ?_)]
  have kk:=((k2.trans (Ka.push (o:=O.lst ((cX a bs).map az)))).trans (Ka.push (o:=O.stt (us.map cG)))).trans (Ka.push (o:=O.lst ((b8 us).map az)));exact k us _ _ hnd h64 hmem af (((k2.trans (Ka.push (o:=O.lst ((cX a bs).map az)))).trans (Ka.push (o:=O.stt (us.map cG)))).len) kk
def C8 (hfu:20 < fuel)(G:Gen defs)(F:Full defs)(hf:Fl S r)(k:∀w S',dD w->Fl S' r->Kp r S S'->Q (w,S')):wO (aL (ah defs fuel (d+8)) "_law_full_rule" 1 [.ref r] S) Q:=by
 refine aw F.full rfl rfl λQ' hR=>?_
 replace k:∀w S',dD w->Fl S' r->Kp r S S'->Q' (.rt w,S'):=λz S' a b c=>hR _ _ (k z S' a b c)
 clear hR;show wZ _ _ bQ [ba (.ref r),gV,gV,gV,gV] S Q';dsimp only[bQ];nofun
 left;refine aJ (d:=d+6) G.pick hf #v[] #v[] λv S1 v0 v7 f1 k1=>hK _ _ ?_
 clear hK K;nofun
 dsimp only[wS,wT,wE,wV,wG,gF,aH,wB];refine aq (Q0:=Q') (λ_ Q2 _ hr=>?_) (λ_ Q2 hn _=>bH (hn _ _ (hK _ _ ?_)))
 ·refine st ?_;left;exact xR (d:=d) hfu G f1 λw S2 hw f2 k2=>hr _ _ (k w S2 hw f2 (k1.trans k2))
 clear hK K hn;nofun
 dsimp only[wS,wT,wE,wV,wG,z8,aH,wB];refine aq (Q0:=Q') (λ_ Q2 _ hr=>?_) (λ_ Q2 hn _=>bH (hn _ _ (hK _ _ ?_)))
 ·refine st ?_;left;exact qJ (d:=d+1) hfu G f1 λw S2 hw f2 k2=>hr _ _ (k w S2 hw f2 (k1.trans k2))
 clear hK K hn;nofun
 left;refine mL (d:=d+5) G f1 λa n S2 a1 a3 n1 n3 an f2 k2=>?_
 dsimp only[wU];refine ae (show dv [2,3] [.int a,.int n] [ba (.ref r),ba (.int v),gV,gV,gV]=ba [ba (.ref r),ba (.int v),ba (.int a),ba (.int n),gV]from rfl) (hK _ _ ?_)
 clear hK K;nofun
 left;refine mM (d:=d+5) G f2 n1 n3 λbs S3 hb hbl f3 k3=>?_
 have hsz:SizeOk a bs:=#[∅,hb,by rw[hbl]; exact an,a3]
 refine eJ (d:=d+2) hfu G f3 a3 ∅ λms ns S4 hml hnl hnm f4 k4=>hK _ _ ?_
 clear hK K;have k14:Kp r S S4:=k1.trans (k2.trans (k3.trans k4));clear k1 k2 k3 k4;refine st ?_;left;refine aj #v[] rfl (aj #v[] rfl ?_)
 refine kn rfl rfl rfl ?_;dsimp only[wE,wA,wV,wG];refine uz (d:=d+3) G F hsz hml hnl λus q S5 hnd h64 hmem e5 hq k5=>?_
 have f5:=f4.ka k5;have hrq:r < q:=Iu f4.lt hq;refine#[q,(b8 us).map az,λj ys Z2 S6=>(∃a1,Z2=[gV,a1,ba (.ref r)])/\(∃vs:Hr Wd,ys=vs.map az/\vs.Sublist ((b8 us).take j))/\S6[q]?=ba (.lst ((b8 us).map az))/\Fl S6 r/\Kp r S S6,rfl,#[#[gV,rfl],#[[],rfl,by simp],e5,f5,k14.trans (k5.kp r)],λj ys Z2 S6 h=>h.2.2.1,?_,?_]
 ·rintro j w ys Z2 S6 hw ⟨⟨a1,rfl⟩,⟨vs,rfl,hsub⟩,e6,f6,k6⟩;rw[HF,Hy]at hw;obtain⟨u,hu,rfl⟩:=hw;refine ae (show im (.nm 1) (az u) [gV,a1,ba (.ref r)] S6=ba ([gV,ba (az u),ba (.ref r)],S6)from rfl) ?_
  dsimp only[fK,wC,wE,wA,wV,wG];refine aJ (d:=d+6) G.pick f6 #v[] #v[] λv S7 _ _ f7 k7=>?_
  dsimp only[gF,aH,wB];have e7:=k7.get _ _ ∅ e6
  refine#[λ_=>#[#[_,rfl],#[vs++[u],by rw[Ir]; rfl,?_],e7,f7,k6.trans k7],λ_=>#[#[_,rfl],#[vs,rfl,?_],e7,f7,k6.trans k7]]
  ·rw[IG,hu];exact hsub.append (Rh _)
  ·rw[IG];exact hsub.trans (List.sublist_append_left _ _)
 ·rintro ys Z2 S6 ⟨_,⟨vs,rfl,hsub⟩,e6,f6,k6⟩;rw[Hv,Jk]at hsub;have pu:(b8 us).Perm us:=eh;have hvl:vs.length<=us.length:=by rw[<- pu.length_eq]; exact hsub.length_le
  have hvs:=uy hnd hsub;refine#[uu (by rw[Hv]; omega),cQ af (k _ _ #[a,bs,ms,ns,vs,by rw[hvs]; rfl,hsz,hml,hnl,hnm,hsub.nodup (pu.nodup_iff.mpr hnd),λg hg=>hmem g (pu.mem_iff.mp (hsub.subset hg))] (f6.ka .push) (k6.trans .push))]
end
section
variable{M:HY->FF}{Z:Fm}{S:aa}
def qM {α:Type}{elt:E}{it:Ie}{cs:Es}{cap:Hr (HA HB)}{mi:MI}{S1:aa}{Q:QW}(L:Hr α)(f:α->W)(p:α->Il)(g:α->W)(R:Fm)(oe:dG elt=true)(oc:mY cs=true)(hc:eE cap Z=gV::gV::R)(hl:L.length<=1000000)(hi:kB M it Z S=ba (mi,S1))(k1:Ka S S1)(hat:∀i S',Ka S1 S'->mi.at S' i=ba (L.map f)[i]?)(hn:mi.len S1=ba (L.map f).length)
  (hstep:∀x∈L,∀S',Ka S S'->fK M elt cs (gV::ba (f x)::R) S' (λy _ S2=>p x=true/\y=g x/\Ka S' S2) (λ_ S2=>p x=false/\Ka S' S2))
  (k:∀S',Ka S S'->Q (.ref S'.length,S'++[.lst ((L.filter p).map g)])):Wp (au M (.comp elt (.nm 1) it cs cap) Z S) Q:=by
 rw[w9];refine#[_,hi,_,hn,?_];refine(c9 (xs:=L.map f) (Q:=λq=>q.1.length<=sizeLine/\Q (.ref q.2.length,q.2++[.lst q.1])) (λi ys Z' S'=>(∃a1,Z'=gV::a1::R)/\ys=((L.take i).filter p).map g/\Ka S1 S') (λi ys Z' S' h=>hat i S' h.2.2) (λi w ys Z' S' hw h=>?_) (λys Z' S' h=>?_) (L.map f).length 0 [] _ S1 ∅ #[#[gV,hc],rfl,.refl]).mono λq hq=>by simpa using hq
 ·obtain⟨⟨a1,rfl⟩,rfl,k2⟩:=h;rw[HF,Hy]at hw;obtain⟨x,hx,rfl⟩:=hw;refine Gs.mpr ?_;refine(Bf oc (hstep x (HZ hx) S' (k1.trans k2))).mono λc hc=>#[λz=>(aT elt oe (hc.1 z)).mono λy hy=>#[#[_,rfl],?_,k2.trans hy.2.2],λz=>#[#[_,rfl],?_,k2.trans (hc.2 z).2]]
  ·rw[IG,hx,MQ,show(Qj (ba x)).filter p=[x]from List.filter_cons_of_pos hy.1,Ir,hy.2.1]; rfl
  ·rw[IG,hx,MQ,show(Qj (ba x)).filter p=[]from List.filter_cons_of_neg (by rw[(hc.2 z).1]; exact Ih),Jp]
 ·obtain⟨_,rfl,k2⟩:=h;dsimp only;rw[show(L.map f).length=L.length from Hv ..,Jk]
  refine#[uu ?_,k S' (k1.trans k2)];rw[Hv];exact ID (Lc _ _) hl
def ko {α:Type}{elt e:E}{cs:Es}{cap:Hr (HA HB)}{Q:QW}(L:Hr α)(f:α->W)(p:α->Il)(g:α->W)(R:Fm)(oi:dG e=true)(oe:dG elt=true)(oc:mY cs=true)(hc:eE cap Z=gV::gV::R)(hl:L.length<=1000000)
  (he:wE M e Z S λq=>∃t,q.1=.ref t/\q.2[t]?=ba (.lst (L.map f))/\Ka S q.2)
  (hstep:∀x∈L,∀S',Ka S S'->fK M elt cs (gV::ba (f x)::R) S' (λy _ S2=>p x=true/\y=g x/\Ka S' S2) (λ_ S2=>p x=false/\Ka S' S2))
  (k:∀S',Ka S S'->Q (.ref S'.length,S'++[.lst ((L.filter p).map g)])):Wp (au M (.comp elt (.nm 1) (.seq e) cs cap) Z S) Q:=by
 obtain⟨w,S1,e1,t,rfl,ht,k1⟩:=bT oi he;exact qM (mi:=.live t) L f p g R oe oc hc hl (by simp only[kB,eQ,e1,ar ht]) k1 (λi S' h=>by simp only[MI.at,ar (h.get _ _ ht)]) (by simp only[MI.len,ar ht,IK]) hstep k
def mS {α:Type}{elt e:E}{cs:Es}{cap:Hr (HA HB)}{Q:QW}(L:Hr α)(f:α->W)(p:α->Il)(g:α->W)(R:Fm)(oi:dG e=true)(oe:dG elt=true)(oc:mY cs=true)(hc:eE cap Z=gV::gV::R)(hl:L.length<=1000000)
  (he:wE M e Z S λq=>q.1=.tup (L.map f)/\Ka S q.2)
  (hstep:∀x∈L,∀S',Ka S S'->fK M elt cs (gV::ba (f x)::R) S' (λy _ S2=>p x=true/\y=g x/\Ka S' S2) (λ_ S2=>p x=false/\Ka S' S2))
  (k:∀S',Ka S S'->Q (.ref S'.length,S'++[.lst ((L.filter p).map g)])):Wp (au M (.comp elt (.nm 1) (.seq e) cs cap) Z S) Q:=by
 obtain⟨w,S1,e1,rfl,k1⟩:=bT oi he;exact qM (mi:=.its (L.map f)) L f p g R oe oc hc hl (by simp only[kB,eQ,e1]) k1 (λ_ _ _=>rfl) rfl hstep k
def pA (n:HB):cg 0 n=(Ix n).map λi=>W.int (i:HB):=by
 unfold cg;refine J7 λi _=>?_
 rw[Ms]
def C9 {elt e:E}{cs:Es}{cap:Hr (HA HB)}{Q:QW}(n:HB)(p:HB->Il)(g:HB->W)(R:Fm)(oi:dG e=true)(oe:dG elt=true)(oc:mY cs=true)(hc:eE cap Z=gV::gV::R)(hl:n<=1000000)
  (he:wE M e Z S λq=>q.1=.int n/\Ka S q.2)
  (hstep:∀x < n,∀S',Ka S S'->fK M elt cs (gV::ba (.int (x:HB))::R) S' (λy _ S2=>p x=true/\y=g x/\Ka S' S2) (λ_ S2=>p x=false/\Ka S' S2))
  (k:∀S',Ka S S'->Q (.ref S'.length,S'++[.lst (((Ix n).filter p).map g)])):Wp (au M (.comp elt (.nm 1) (.rng #v[e]) cs cap) Z S) Q:=by
 obtain⟨w,S1,e1,rfl,k1⟩:=bT oi he;refine qM (mi:=.its (cg 0 n)) (Ix n) (λi=>W.int (i:HB)) p g R oe oc hc (by rw[IL]; exact hl) ?_ k1 (λi S' _=>by rw[<- pA]; rfl) (by rw[<- pA]; rfl) (λx hx=>hstep x (IU.mp hx)) k
 simp only[kB,cm,dO,i9,qt,e1];rw[Ic #[∅,∅]]; rfl
def dF {α:Type}(L:Hr α):L.filter (λ_=>true)=L:=List.filter_eq_self.mpr λ_ _=>rfl
end
def sy:∀p:Hr HB,W.ts (al p)=ba (p.map λ(n:HB)=>T.int (n:HM))
 | []=>rfl
 | n::p=>by
  show(match W.t (.int n),W.ts (al p)with
   | some y,ba ys=>ba (y::ys)
   | _,_=>gV)=_
  rw[sy p]; rfl
def Da {bs:Hr HM}{a:HB}{v:Wd}{i j:HB}(hb:GoodB bs)(hv:GoodW a bs.length v)(hi:i < v.length)(hj:j < v.length)(hij:i≠j):0<=d6 bs v i j/\d6 bs v i j < (bs.length:HM):=by
 unfold d6
 by_cases h:j < i
 ·rw[Ic h];have hp:=aF (d:=(0,[])) hi;have hw:j < (v.getD i (0,[])).2.length:=by rw[hv.len i _ hp]; exact h
  exact hv.way i _ hp _ (HZ (aF (d:=0) hw))
 ·rw[Im h];have hp:=aF (d:=(0,[])) hj;have hw:i < (v.getD j (0,[])).2.length:=by rw[hv.len j _ hp]; omega
  obtain⟨g1,g2⟩:=hv.way j _ hp _ (HZ (aF (d:=0) hw));exact(hb.at g1 g2).2
def uA {bs:Hr HM}{a:HB}{v:Wd}{ps:Hr HB}(hb:GoodB bs)(hv:GoodW a bs.length v)(hps:∀p∈ps,p < v.length)(hnd:ps.Nodup):GoodW a bs.length (aD bs v ps):=by
 have at':∀(k:HB) (q:Pt),(aD bs v ps)[k]?=ba q->∃hk:k < ps.length,q=((v.getD ps[k] (0,[])).1,(ps.take k).map λj=>d6 bs v ps[k] j):=λk q e=>by
  have hk:k < ps.length:=by
   have:=(HH.mp e).1;rw[fM]at this; exact this
  refine#[hk,?_];unfold aD at e;rw[HF,Kl hk,IK,show ps.getD k 0=ps[k] by simp[hk]]at e
  exact(Je e).symm
 refine#[λk q e=>?_,λk q e=>?_,λk q e=>?_]
 ·obtain⟨hk,rfl⟩:=at' k q e;have:=hv.mark _ _ (aF (d:=(0,[])) (hps _ (IC hk)));exact this
 ·obtain⟨hk,rfl⟩:=at' k q e;dsimp only;rw[Hv,Jj]; omega
 ·obtain⟨hk,rfl⟩:=at' k q e;intro w hw;obtain⟨j,hj,rfl⟩:=HX.mp hw;have hjm:=Kf hj;refine Da hb hv (hps _ (IC hk)) (hps _ hjm) λe=>?_
  obtain⟨m,hm,e2⟩:=JM.mp hj;rw[Jj]at hm;rw[Le]at e2;have:=(Lq hnd).mp (e.trans e2.symm);omega
section
variable{defs:Hr (HY×Df)}{fuel d:HB}{S:aa}{Q:QW}
def Db (hd:Is defs ("_law_flow" : HY) 1 1 dA){ns:Hr HM}{u:HB}(hu:S[u]?=ba (.fro (ns.map W.int)))(k:∀r S',Ka S S'->Fl S' r->Q (.ref r,S')) :
  wO (aL (ah defs fuel (d+1)) "_law_flow" 1 [.ref u] S) Q:=by
 refine aw hd rfl rfl λQ' hR=>?_
 show wZ _ _ dA [ba (.ref u)] S Q';dsimp only[dA];refine st ?_;left;have e:Bi.list.fn [.ref u] S=ba (.ref S.length,S++[.lst (ns.map W.int)]):=by
  have h1:uF S u=gV:=by simp[uF,hu]
  simp only[Bi.fn,oF,gP,h1,fW,dL,z9 hu]
 refine ae e (hR _ _ (k _ _ (Ka.push.trans .push) #[S.length,ns,0,0,1,0,?_,?_,?_,#v[],#v[],#v[],#v[]]))
 ·exact af
 ·exact ak af
 ·simp
end
def fA {bt:HB->HB->Il}{N:HB}(ir:∀i < N,bt i i=false)(tr:∀i j k,i < N->j < N->k < N->bt i j=true->bt j k=true->bt i k=true):∀n,n < N->∀j≤n,bt j (argBest bt n)=false
 | 0,hn,j,hj=>by
  obtain rfl:j=0:=∅
  exact ir 0 hn
 | n+1,hn,j,hj=>by
  have ih:=fA ir tr n ∅
  have hb:=dC bt n;simp only[argBest];cases c:bt (n+1) (argBest bt n)with
  | true=>
   rw[Ic rfl]
   by_cases e:j=n+1
   ·subst e; exact ir _ hn
   ·cases c2:bt j (n+1)with
    | false=>rfl
    | true=>
     have:=tr j (n+1) (argBest bt n) ∅ hn ∅ c2 c
     rw[ih j ∅]at this; cases this
  | false=>
   rw[Im (by exact Ih)]
   by_cases e:j=n+1
   ·subst e; exact c
   ·exact ih j ∅
def x4 {ks:Hr T}(hn:∀x∈ks,dH x=true)(hl:eg ks=true)(hne:ks≠[]):∃x,ks[jH ks]?=ba x/\x∈ks/\∀y∈ks,gw y x=ba false:=by
 have hp:0 < ks.length:=N8.mpr hne;have hm:jH ks < ks.length:=by
  unfold jH;have:=dC (kz ks) (ks.length - 1);omega
 have ltk:∀i j (hi:i < ks.length) (hj:j < ks.length),gw ks[i] ks[j]=ba (kz ks i j):=λi j hi hj=>cU hl hi hj
 have ir:∀i < ks.length,kz ks i i=false:=λi hi=>by
  cases c:kz ks i i with
  | false=>rfl
  | true=>
   have e:=ltk i i hi hi;rw[c]at e;have:=iD _ _ (hn _ (IC hi)) e;rw[e]at this; cases this
 have mn:=fA (bt:=kz ks) (N:=ks.length) ir (λi j k hi hj hk h1 h2=>by
  have e1:=ltk i j hi hj;have e2:=ltk j k hj hk;rw[h1]at e1;rw[h2]at e2;have:=qf _ _ _ (hn _ (IC hi)) (hn _ (IC hj)) e1 e2;rw[ltk i k hi hk]at this;exact Je this) (ks.length - 1) ∅
 refine#[ks[jH ks],HC hm,IC hm,λy hy=>?_]
 obtain⟨j,hj,rfl⟩:=JM.mp hy;rw[ltk j _ hj hm];congr 1;exact mn j ∅
def pB:∀ {xs ys as bs:Hr T},xs.length=ys.length->bK xs ys=ba true->bK (xs++as) (ys++bs)=ba true
 | [],[],_,_,_,h=>by cases h
 | x::xs,y::ys,as,bs,hl,h=>by
  simp only[Pf,bK]at h ⊢
  by_cases e:x=y
  ·rw[Ic e]at h ⊢;exact pB (by simpa using hl) h
  ·rw[Im e]at h ⊢;exact h
 | [],_::_,_,_,hl,_=>by simp at hl
 | _::_,[],_,_,hl,_=>by simp at hl
def pE {as bs:Hr T}:∀xs:Hr T,bK (xs++as) (xs++bs)=bK as bs
 | []=>rfl
 | x::xs=>by
  simp only[Pf,bK,JP];exact pE xs
section
variable{defs:Hr (HY×Df)}{fuel d:HB}{S:aa}{Q:QW}
def sA (G:Gen defs){m0 b0:W}{ns:Hr HY}{bs:Hr HM}{a l:HB}{u:Wd}{ps:Hr HB}(hb:GoodB bs)(hl:ns.length=bs.length)(hu:GoodW a bs.length u)(hps:∀p∈ps,p < u.length)(hnd:ps.Nodup)(hsz:ps.length < 1000)(el:S[l]?=ba (.lst (al ps)))(k:∀S',Ka S S'->Q (az (aD bs u ps),S')) :
  wO (aL (ah defs fuel (d+2)) "_law_part" 3 [.tup [m0,.tup (HR aE ns bs),b0],az u,.ref l] S) Q:=by
 refine aw G.part rfl rfl λQ' hR=>?_
 replace k:∀S',Ka S S'->Q' (.rt (az (aD bs u ps)),S'):=λS' a=>hR _ _ (k S' a)
 clear hR;show wZ _ _ cx [ba (.tup [m0,.tup (HR aE ns bs),b0]),ba (az u),ba (.ref l),gV,gV,gV] S Q';generalize hR0:W.tup [m0,.tup (HR aE ns bs),b0]=R;have hlS:=cq el;dsimp only[cx];refine st ?_;dsimp only[wS,wE,wA,HN];nofun
 have nl:(al ps).length=ps.length:=Hv ..;refine b6 (ps.length:HM) (λk Z S'=>(∃a4 a5,Z=[ba R,ba (az u),ba (.ref l),ba (.ref S.length),a4,a5])/\S'[S.length]?=ba (.lst (((aD bs u ps).take k).map gg))/\S'[l]?=ba (.lst (al ps))/\Ka S S') rfl rfl ∅ ?_ ?_ ?_
 ·dsimp only[wE,wA,wV,wG];refine dR (ak el) ?_;rw[nl];exact#[rfl,#[gV,gV,rfl],af,ak el,.push]
 ·rintro i Z S1 hi ⟨⟨a4,a5,rfl⟩,e1,l1,k1⟩ Q2 hn _;clear hK;have hi':i < ps.length:=∅
  have hp:ps[i]?=ba ps[i]:=HC hi';have hpu:ps[i] < u.length:=hps _ (IC hi');dsimp only[HN];refine st ?_;dsimp only[wS,wE,wV,wG,HN];refine dB l1 (jl hp) ?_;refine st ?_;left;refine#[cW e1,aj (Ip _) (ki hpu) (aj #v[] rfl ?_)]
  refine ko (ps.take i) (λ(q:HB)=>W.int (q:HM)) (λ_=>true) (λq=>W.int (d6 bs u ps[i] q)) [ba (.int ps[i]),ba R,ba (az u)] rfl rfl rfl rfl (by rw[Jj]; omega) ?_ (λq hq S2 k2=>?_) λS2 k2=>?_
  ·dsimp only[wE,wP,wV,wG,wN];refine ae (a:=(.ref S1.length,S1++[.lst (al (ps.take i))])) ?_ #[_,rfl,af,.push];simp only[uE,ar l1,j9];unfold al;rw[Of]
  ·dsimp only[fK,wC,wE,wA,wV,wG];subst hR0;have hqm:=Kf hq;refine#[λ_=>lz (d:=d) G hb hl hu hpu (hps _ hqm) (λe=>?_) #[rfl,rfl,.refl],λz=>by cases z]
   obtain⟨j,hj,ej⟩:=JM.mp hq;rw[Jj]at hj;rw[Le]at ej;have:=(Lq hnd).mp (ej.trans e.symm);omega
  ·rw[dF];refine cQ af ?_;have e2:=ak (u:=O.lst ((ps.take i).map λq=>W.int (d6 bs u ps[i] q))) (k2.get _ _ e1)
   have l2:=ak (u:=O.lst ((ps.take i).map λq=>W.int (d6 bs u ps[i] q))) (k2.get _ _ l1)
   refine i5 e2 (by rw[Hv,Jj]; omega) (bH (hn _ _ #[#[_,_,rfl],?_,?_,((k1.trans k2).trans .push).late (HE _)]))
   ·rw[bm e2];have ep:(aD bs u ps)[i]?=ba ((u.getD ps[i] (0,[])).1,(ps.take i).map λq=>d6 bs u ps[i] q):=by
     unfold aD;rw[HF,Kl hi',IK,getD_some hp]
    rw[IG,ep];simp[gg,M2]
   ·rw[bu ∅]; exact l2
 ·rintro Z S1 ⟨⟨a4,a5,rfl⟩,e1,_,k1⟩;rw[HU,<- fM bs u ps,Jk]at e1;refine hK _ _ (st ?_);left;exact cQ e1 (k _ k1)
end
structure Cmn (bs:Hr HM)(u v:Wd)(e:Hr (HB×HB)):Prop where
 up:(e.map (·.1)).Pairwise (· < ·)
 l1:∀p∈e,p.1 < u.length
 nd:(e.map (·.2)).Nodup
 l2:∀p∈e,p.2 < v.length
 prt:aD bs u (e.map (·.1))=aD bs v (e.map (·.2))
abbrev eR (bs:Hr HM)(u v:Wd)(e:Hr (HB×HB))(i:HB):Hr HB:=((Ix v.length).filter λf=>decide (f∉e.map (·.2))).filter λf=>decide (cu bs v (e.map (·.2)) f=cu bs u (e.map (·.1)) i)
def fB {bs:Hr HM}{u v:Wd}{e:Hr (HB×HB)}{i f:HB}:f∈eR bs u v e i↔f < v.length/\f∉e.map (·.2)/\cu bs v (e.map (·.2)) f=cu bs u (e.map (·.1)) i:=by
 unfold eR;rw[JB,JB,IU,HQ,HQ,and_assoc]
def Cmn.nil {bs:Hr HM}{u v:Wd}:Cmn bs u v []:=#[.nil,λ_ h=>by simp at h,.nil,λ_ h=>by simp at h,by simp[aD]]
def ev {bs:Hr HM}{u v:Wd}{e:Hr (HB×HB)}{i f:HB}:Cmn bs u v (e++[(i,f)])↔Cmn bs u v e/\(∀p∈e,p.1 < i)/\i < u.length/\f∈eR bs u v e i:=by
 constructor
 ·intro h;have up:=h.up;have nd:=h.nd;have prt:=h.prt;rw[Ir,Lo]at up;rw[Ir,Kk]at nd;rw[Ir,Ir,Kd,Kd,dk,dk]at prt;obtain⟨p1,p2⟩:=List.append_inj' prt rfl;have p3:cu bs u (e.map (·.1)) i=cu bs v (e.map (·.2)) f:=by simpa using p2
  refine#[#[up.1,λp hp=>h.l1 p (Jr _ hp),nd.1,λp hp=>h.l2 p (Jr _ hp),p1],λp hp=>up.2.2 p.1 (LB hp) i (by simp),h.l1 (i,f) (by simp),fB.mpr #[h.l2 (i,f) (by simp),λz=>nd.2.2 f z f (by simp) rfl,p3.symm]]
 ·rintro⟨h,h1,h2,h3⟩;obtain⟨g1,g2,g3⟩:=fB.mp h3;refine#[?_,λp hp=>?_,?_,λp hp=>?_,?_]
  ·rw[Ir,Lo];refine#[h.up,by simp,λx hx y hy=>?_]
   obtain⟨p,hp,rfl⟩:=HX.mp hx;rw[Kd,HJ]at hy;subst hy;exact h1 p hp
  ·rcases Io.mp hp with z|z
   ·exact h.l1 p z
   ·cases HJ.mp z; exact h2
  ·rw[Ir,Kk];refine#[h.nd,by simp,λx hx y hy z=>?_]
   rw[Kd,HJ]at hy;subst hy;subst z;exact g2 hx
  ·rcases Io.mp hp with z|z
   ·exact h.l2 p z
   ·cases HJ.mp z; exact g1
  ·rw[Ir,Ir,Kd,Kd,dk,dk,h.prt];show _++[cu bs u (e.map (·.1)) i]=_++[cu bs v (e.map (·.2)) f]
   rw[g3]
def Cmn.init {bs:Hr HM}{u v:Wd}{e:Hr (HB×HB)}:∀(n:HB) (t:Hr (HB×HB)),t.length=n->Cmn bs u v (e++t)->Cmn bs u v e
 | 0,t,h,H=>by
  cases Jo.mp h;rw[Jp]at H; exact H
 | n+1,t,h,H=>by
  obtain⟨t',p,rfl,h'⟩ : ∃t' p,t=t'++[p]/\t'.length=n:=by
   have hne:t≠[]:=λz=>by rw[z]at h; cases h
   exact#[t.dropLast,t.getLast hne,(Ml hne).symm,by rw[NW,h]; rfl]
  rw[<- Ja]at H;exact Cmn.init n t' h' (ev (i:=p.1) (f:=p.2).mp H).1
def x5 {n:HB}:∀ {l:Hr HB} {a:HB},(a::l).Pairwise (· < ·)->(∀x∈a::l,x < n)->(a::l).length+a<=n
 | [],a,_,h=>by have:=h a (by simp); simp; omega
 | b::l,a,hp,h=>by
  rw[MM]at hp;have:=x5 hp.2 λx hx=>h x (Ji _ hx)
  have:=hp.1 b (by simp)
  simp only[IW]at *
  omega
def Cmn.most {bs:Hr HM}{u v:Wd}{e t:Hr (HB×HB)}{p:HB×HB}(h:Cmn bs u v (e++p::t)):(e++p::t).length+p.1<=e.length+u.length:=by
 have up:=h.up;rw[Ir,Lo]at up;have:=x5 (n:=u.length) (l:=t.map λ(q:HB×HB)=>q.1) (a:=p.1) up.2.1 λx hx=>by
  obtain⟨q,hq,rfl⟩:=HX.mp (show x∈(p::t).map (·.1)from hx)
  exact h.l1 q (Iq _ hq)
 rw[HK];simp only[IW,Hv]at *
 omega
def Cmn.len {bs:Hr HM}{u v:Wd}{e:Hr (HB×HB)}(h:Cmn bs u v e):e.length<=u.length:=by
 cases e with
 | nil=>exact Jx _
 | cons p t=>have:=Cmn.most (e:=[]) h; simp at this ⊢; omega
def Cmn.next {bs:Hr HM}{u v:Wd}{e t:Hr (HB×HB)}{p:HB×HB}(h:Cmn bs u v (e++p::t)):(∀q∈e,q.1 < p.1)/\p.1 < u.length/\p.2∈eR bs u v e p.1:=by
 have h':Cmn bs u v ((e++[p])++t):=by rw[Ja]; exact h
 exact(ev (i:=p.1) (f:=p.2).mp (Cmn.init _ t rfl h')).2
abbrev dS:Ss:=
 #v[.ret (.own "best_behind" 4 #v[.v 0,.tup #v[.v 1,.v 2],.tup .nil,.tup .nil])]
abbrev cJ:Ss:=
 #v[.ite (.cmp .gt (.bi .len #v[.v 2]) (.bi .len #v[.v 3])) #v[.set 3 (.v 2)] .nil,.set 4 (.ite (.v 2) (.op .add (.ix (.ix (.v 2) (.neg (.c (.int 1)))) (.c (.int 0))) (.c (.int 1))) (.c (.int 0))),.loop (.nm 5) (.rng2 #v[.v 4,.bi .len #v[.ix (.v 1) (.c (.int 0))]]) #v[.ite (.cmp .gt (.op .sub (.op .add (.bi .len #v[.v 2]) (.bi .len #v[.ix (.v 1) (.c (.int 0))])) (.v 5)) (.bi .len #v[.v 3])) #v[.loop (.nm 6) (.seq (.own "pairs_with" 4 #v[.v 0,.v 1,.v 2,.v 5])) #v[.set 3 (.own "best_behind" 4 #v[.v 0,.v 1,.op .add (.v 2) (.tup #v[.v 6]),.v 3])]] .nil],.ret (.v 3)]
abbrev dh:Ss:=
 #v[.set 4 (.comp (.ix (.v 1) (.c (.int 1))) (.nm 1) (.seq (.v 2)) .nil [gV,gV]),.set 5 (.own "point_over" 4 #v[.v 0,.ix (.v 1) (.c (.int 0)),.comp (.ix (.v 1) (.c (.int 0))) (.nm 1) (.seq (.v 2)) .nil [gV,gV],.v 3]),.set 6 (.comp (.v 1) (.nm 1) (.rng #v[.bi .len #v[.ix (.v 1) (.c (.int 1))]]) #v[.cmp .notin (.v 1) (.v 2)] [gV,gV,ba 4]),.ret (.comp (.tup #v[.v 3,.v 1]) (.nm 1) (.seq (.v 6)) #v[.cmp .eq (.own "point_over" 4 #v[.v 4,.ix (.v 6) (.c (.int 1)),.v 5,.v 1]) (.v 2)] [gV,gV,ba 5,ba 3,ba 0,ba 4,ba 1])]
abbrev mZ (p:HB×HB):W:=.tup [.int p.1,.int p.2]
abbrev aI (e:Hr (HB×HB)):W:=.tup (e.map mZ)
structure Icm (defs:Hr (HY×Df)):Prop where
 com:Is defs ("in_common" : HY) 3 3 dS
 best:Is defs ("best_behind" : HY) 4 7 cJ
 withp:Is defs ("pairs_with" : HY) 4 7 dh
section
variable{defs:Hr (HY×Df)}{fuel d:HB}{S:aa}{Q:QW}
def uB {l p:HB}{ps:Hr HB}(h:S[l]?=ba (.lst (al ps))):cM .notin (.int p) (.ref l) S=ba (.bl (decide (p∉ps)),S):=by
 have hf:(bG (.int p)&&(al ps).all bG)=true:=by rw[ut]; rfl
 simp only[cM,jk h,iu,Dp,AO,dL,ar h,hf,JP,IK,pf];congr 3
 by_cases h:p∈ps <;> simp[h]
def sB (P:Parts defs){m0 b0:W}{ns:Hr HY}{bs:Hr HM}{a l:HB}{u:Wd}{ps:Hr HB}{i:HB}(hb:GoodB bs)(hl:ns.length=bs.length)(hu:GoodW a bs.length u)(hps:∀p∈ps,p < u.length/\i≠p)(hi:i < u.length)(hsz:ps.length<=1000)(el:S[l]?=ba (.lst (al ps)))(k:∀S',Ka S S'->Q (gg (cu bs u ps i),S')) :
  wO (aL (ah defs fuel (d+2)) "point_over" 4 [.tup [m0,.tup (HR aE ns bs),b0],az u,.ref l,.int i] S) Q:=by
 refine aw P.over rfl rfl λQ' hR=>?_
 replace k:∀S',Ka S S'->Q' (.rt (gg (cu bs u ps i)),S'):=λS' a=>hR _ _ (k S' a)
 clear hR;show wZ _ _ dg [ba (.tup [m0,.tup (HR aE ns bs),b0]),ba (az u),ba (.ref l),ba (.int i)] S Q';dsimp only[dg];refine st ?_;left;refine aj (Ip i) (ki hi) (aj #v[] rfl ?_)
 refine ko ps (λq=>W.int (q:HB)) (λ_=>true) (λq=>W.int (d6 bs u i q)) _ rfl rfl rfl rfl ∅ #[l,rfl,el,.refl] (λq hq S' k'=>?_) λS' k'=>?_
 ·dsimp only[fK,wC,wT,wE,wA,wV,wG];exact#[λ_=>E6 (d:=d) P hb hl hu hi (hps q hq).1 (hps q hq).2 #[rfl,rfl,.refl],λz=>by cases z]
 ·rw[dF];refine cQ af ?_;have:=k _ (k'.trans (Ka.push (o:=O.lst (ps.map λq=>W.int (d6 bs u i q)))))
  unfold cu gg at this;rw[J6]at this;exact this
def AA (P:Parts defs)(I:Icm defs){m0 b0:W}{ns:Hr HY}{bs:Hr HM}{a i:HB}{u v:Wd}{e:Hr (HB×HB)}(hb:GoodB bs)(hl:ns.length=bs.length)(hu:GoodW a bs.length u)(hv:GoodW a bs.length v)(hu5:u.length<=100)(hv5:v.length<=100)(hC:Cmn bs u v e)(hi:i < u.length)(hup:∀p∈e,p.1 < i)
  (k:∀(q:HB) (S':aa),S'[q]?=ba (.lst ((eR bs u v e i).map λf=>mZ (i,f)))->Ka S S'->Q (.ref q,S')) :
  wO (aL (ah defs fuel (d+3)) "pairs_with" 4 [.tup [m0,.tup (HR aE ns bs),b0],.tup [az u,az v],aI e,.int (i:HB)] S) Q:=by
 refine aw I.withp rfl rfl λQ' hR=>?_
 replace k:∀(q:HB) (S':aa),S'[q]?=ba (.lst ((eR bs u v e i).map λf=>mZ (i,f)))->Ka S S'->Q' (.rt (.ref q),S'):=λq S' a b=>hR _ _ (k q S' a b)
 clear hR;show wZ _ _ dh [ba (.tup [m0,.tup (HR aE ns bs),b0]),ba (.tup [az u,az v]),ba (aI e),ba (.int (i:HB)),gV,gV,gV] S Q';have hel:=hC.len;dsimp only[dh];nofun
 left;refine mS e mZ (λ_=>true) (λp=>W.int (p.2:HB)) [] rfl rfl rfl rfl ∅ #[rfl,.refl] (λp hp S' k'=>?_) λS1 k1=>?_
 ·dsimp only[fK,wC,wT,wE,wA,wV,wG];exact#[λ_=>aj #v[] rfl #[rfl,rfl,.refl],λz=>by cases z]
 rw[dF];have e4:(S1++[O.lst (e.map λp=>W.int (p.2:HB))])[S1.length]?=ba (.lst (al (e.map (·.2)))):=by
  rw[af]; unfold al; rw[J6]; rfl
 replace k1:=k1.trans (Ka.push (o:=O.lst (e.map λp=>W.int (p.2:HB))))
 generalize S1++[O.lst (e.map λp=>W.int (p.2:HB))]=S2 at k1 e4 ⊢
 generalize S1.length=l4 at e4 ⊢;refine hK _ _ ?_;clear hK K;nofun
 left;refine aj #v[] rfl ?_
 refine mS e mZ (λ_=>true) (λp=>W.int (p.1:HB)) [] rfl rfl rfl rfl ∅ #[rfl,.refl] (λp hp S' k'=>?_) λS3 k3=>?_
 ·dsimp only[fK,wC,wT,wE,wA,wV,wG];exact#[λ_=>aj #v[] rfl #[rfl,rfl,.refl],λz=>by cases z]
 rw[dF];have e5:(S3++[O.lst (e.map λp=>W.int (p.1:HB))])[S3.length]?=ba (.lst (al (e.map (·.1)))):=by
  rw[af]; unfold al; rw[J6]; rfl
 replace k3:=k3.trans (Ka.push (o:=O.lst (e.map λp=>W.int (p.1:HB))))
 refine sB (d:=d) P hb hl hu (λp hp=>?_) hi (by rw[Hv]; omega) e5 λS4 k4=>hK _ _ ?_
 ·obtain⟨q,hq,rfl⟩:=HX.mp hp;exact#[hC.l1 q hq,λz=>by have:=hup q hq; omega]
 clear hK K e5;replace k4:=k3.trans k4;replace e4:=k4.get _ _ e4;replace k1:=k1.trans k4;clear k3 k4 S3;nofun
 left;refine C9 v.length (λx=>decide (x∉e.map (·.2))) (λx=>W.int (x:HB)) [ba (.ref l4)] rfl rfl rfl rfl ∅ ?_ (λx hx S' k'=>?_) λS5 k5=>?_
 ·dsimp only[wE,wA,wV,wG];exact aj #v[] rfl (aS #[by rw[Hv],.refl])
 ·dsimp only[fK,wC,wT,wE,wA,wV,wG];refine ae (uB (k'.get _ _ e4)) ?_;dsimp only[wB];exact#[λz=>#[z,rfl,.refl],λz=>#[z,.refl]]
 generalize hL:(Ix v.length).filter (λx=>decide (x∉e.map (·.2)))=L
 have hLm:∀x∈L,x < v.length/\x∉e.map (·.2):=λx hx=>by
  rw[<- hL,JB,IU,HQ]at hx; exact hx
 have hLl:L.length<=100:=by
  rw[<- hL];exact ID (Lc _ _) (by rw[IL]; exact hv5)
 refine hK _ _ ?_;clear hK K;have e6:(S5++[O.lst (L.map λx=>W.int (x:HB))])[S5.length]?=ba (.lst (L.map λx=>W.int (x:HB))):=af
 replace k5:=k5.trans (Ka.push (o:=O.lst (L.map λx=>W.int (x:HB))))
 replace e4:=k5.get _ _ e4;replace k1:=k1.trans k5;generalize S5++[O.lst (L.map λx=>W.int (x:HB))]=S6 at e6 e4 k1 ⊢
 generalize S5.length=l6 at e6 ⊢;clear k5;refine st ?_;left;refine ko L (λx=>W.int (x:HB)) (λf=>decide (cu bs v (e.map (·.2)) f=cu bs u (e.map (·.1)) i)) (λf=>mZ (i,f)) [ba (gg (cu bs u (e.map (·.1)) i)),ba (.int (i:HB)),ba (.tup [m0,.tup (HR aE ns bs),b0]),ba (.ref l4),ba (.tup [az u,az v])] rfl rfl rfl rfl ∅ #[l6,rfl,e6,.refl] (λf hf S' k'=>?_) λS7 k7=>?_
 ·dsimp only[fK,wC,wT,wE,wA,wV,wG];refine aj #v[] rfl ?_
  refine sB (d:=d) P hb hl hv (λp hp=>?_) (hLm f hf).1 (by rw[Hv]; omega) (k'.get _ _ e4) λS8 k8=>?_
  ·obtain⟨q,hq,rfl⟩:=HX.mp hp;exact#[hC.l2 q hq,λz=>(hLm f hf).2 (z ▸ LB hq)]
  ·refine ae (E9 (p:=cu bs v (e.map (·.2)) f) (q:=cu bs u (e.map (·.1)) i)) ?_
   dsimp only[wB];exact#[λz=>#[z,rfl,k8],λz=>#[z,k8]]
 ·subst hL;exact k _ _ af ((k1.trans k7).trans .push)
end
def ya {S:aa}{e:Hr (HB×HB)}{p:HB×HB}:mX (aI (e++[p])) (.int (-1)) S=ba (mZ p,S):=by
 have hl:((e++[p]).map mZ).length=e.length+1:=by simp
 have hs:qT ((e++[p]).map mZ).length (-1)=ba e.length:=by
  rw[hl];unfold qT;rw[Im #v[]]
  exact(Ic ∅).trans (by congr 1; omega)
 have hg:((e++[p]).map mZ)[e.length]?=ba (mZ p):=by simp
 unfold aI;simp only[mX,sS,nr,hs,hg,Option.bind_some,IK]
abbrev Fst (e:Hr (HB×HB))(n:HB):Prop:=(e=[]/\n=0)\/∃e' p,e=e'++[p]/\n=p.1+1
def Fst.up {bs:Hr HM}{u v:Wd}{e:Hr (HB×HB)}{n i:HB}(h:Fst e n)(hC:Cmn bs u v e)(hi:n<=i):∀q∈e,q.1 < i:=by
 rcases h with⟨rfl,_⟩|⟨e',p,rfl,rfl⟩
 ·exact λq hq=>by simp at hq
 ·intro q hq;rcases Io.mp hq with z|z
  ·have:=(ev (i:=p.1) (f:=p.2).mp hC).2.1 q z; omega
  ·cases HJ.mp z; omega
def Fst.le {e:Hr (HB×HB)}{n i:HB}(h:Fst e n)(hi:∀q∈e,q.1 < i):n<=i:=by
 rcases h with⟨_,rfl⟩|⟨e',p,rfl,rfl⟩
 ·exact Jx _
 ·exact hi p (by simp)
abbrev fS (p:HB×HB):T:=.tup [.int p.1,.int p.2]
abbrev eN (e:Hr (HB×HB)):T:=.tup (e.map fS)
abbrev LtE (r x:Hr (HB×HB)):Prop:=gw (eN r) (eN x)=ba true
abbrev GV (p q:HB×HB):Prop:=p.1 < q.1\/(p.1=q.1/\p.2 < q.2)
def Dc {p q:HB×HB}(h:GV p q):bK [fS p] [fS q]=ba true:=by
 have hne:fS p≠fS q:=λz=>by
  simp only[fS,T.tup.injEq,Nz,T.int.injEq,and_true]at z;rcases h with h|⟨_,h⟩ <;> omega
 have:gw (fS p) (fS q)=ba true:=by
  rcases h with h|⟨h,h2⟩
  ·have e1:(T.int (p.1:HM))≠.int (q.1:HM):=λz=>by simp only[T.int.injEq]at z; omega
   simp[fS,gw,bK,e1]; omega
  ·have e2:(T.int (p.2:HM))≠.int (q.2:HM):=λz=>by simp only[T.int.injEq]at z; omega
   simp[fS,gw,bK,h,e2]; omega
 simp[bK,hne,this]
def AB {e t t':Hr (HB×HB)}{p q:HB×HB}(h:GV p q):LtE (e++p::t) (e++q::t'):=by
 unfold LtE eN;show bK ((e++p::t).map fS) ((e++q::t').map fS)=ba true;rw[Ir,Ir,pE];exact pB (xs:=[fS p]) (ys:=[fS q]) rfl (Dc h)
abbrev Ing (bs:Hr HM)(u v:Wd)(b1 b2 e:Hr (HB×HB))(A:HB×HB->Prop):Prop:=
 b2=b1\/(b1.length < b2.length/\(∃p t,b2=e++p::t/\A p)/\∀p t,Cmn bs u v (e++p::t)->A p->(e++p::t).length=b2.length->b2=e++p::t\/LtE b2 (e++p::t))
def Ing.le {bs:Hr HM}{u v:Wd}{b1 b2 e:Hr (HB×HB)}{A:HB×HB->Prop}(h:Ing bs u v b1 b2 e A):b1.length<=b2.length:=by
 rcases h with rfl|⟨h,_⟩
 ·exact HE _
 ·exact K4 h
def Ing.comp {bs:Hr HM}{u v:Wd}{b1 b2 b3 e:Hr (HB×HB)}{A B A':HB×HB->Prop}(h1:Ing bs u v b1 b2 e A)(h2:Ing bs u v b2 b3 e B)(hA:∀p t,Cmn bs u v (e++p::t)->A p->(e++p::t).length<=b2.length)(hs:∀p,A p\/B p->A' p)(hp:∀p t,Cmn bs u v (e++p::t)->A' p->A p\/B p)(hl:∀p q,A p->B q->GV p q):Ing bs u v b1 b3 e A':=by
 rcases h2 with rfl|⟨g1,⟨p,t,g2,g3⟩,g4⟩
 ·rcases h1 with rfl|⟨k1,⟨p,t,k2,k3⟩,k4⟩
  ·exact .inl rfl
  ·refine .inr #[k1,#[p,t,k2,hs p (.inl k3)],λq t' hC hq hlen=>?_]
   rcases hp q t' hC hq with z|z
   ·exact k4 q t' hC z hlen
   ·exact .inr (by rw[k2]; exact AB (hl p q k3 z))
 ·refine .inr #[MO h1.le g1,#[p,t,g2,hs p (.inr g3)],λq t' hC hq hlen=>?_]
  rcases hp q t' hC hq with z|z
  ·have:=hA q t' hC z; omega
  ·exact g4 q t' hC z hlen
def AC {bs:Hr HM}{u v:Wd}{e:Hr (HB×HB)}{i:HB}:(eR bs u v e i).Pairwise (· < ·):=by
 unfold eR;exact(List.pairwise_lt_range.filter _).filter _
def AD {L:Hr HB}(h:L.Pairwise (· < ·)){x f g:HB}(hf:L[x]?=ba f)(hg:g∈L.take x):g < f:=by
 obtain⟨j,hj,rfl⟩:=JM.mp hg;rw[Jj]at hj;obtain⟨hx,rfl⟩:=HH.mp hf;rw[Le];exact Kz.mp h j x ∅ hx ∅
section
variable{defs:Hr (HY×Df)}{fuel d:HB}{S:aa}{Q:QW}
def AE (P:Parts defs)(I:Icm defs){m0 b0:W}{ns:Hr HY}{bs:Hr HM}{a:HB}{u v:Wd}(hb:GoodB bs)(hl:ns.length=bs.length)(hu:GoodW a bs.length u)(hv:GoodW a bs.length v)(hu5:u.length<=100)(hv5:v.length<=100) :
  ∀(m d:HB) (S:aa) (Q:QW) (e b:Hr (HB×HB)) (n:HB),Cmn bs u v e->Cmn bs u v b->Fst e n->u.length<=n+m->
  (∀r S',Cmn bs u v r->b.length<=r.length->(∀t,Cmn bs u v (e++t)->(e++t).length<=r.length)->(r=b\/(b.length < r.length/\(∃t,r=e++t)/\∀t,Cmn bs u v (e++t)->(e++t).length=r.length->r=e++t\/LtE r (e++t)))->Ka S S'->Q (aI r,S'))->
  wO (aL (ah defs fuel (d+m+4)) "best_behind" 4 [.tup [m0,.tup (HR aE ns bs),b0],.tup [az u,az v],aI e,aI b] S) Q:=by
 intro m
 induction m using Nat.strongRecOn with
 | _ m ih=>
 intro d S Q e b n hC hB hF hm k;refine aw I.best rfl rfl λQ' hR=>?_
 replace k:∀r S',Cmn bs u v r->b.length<=r.length->(∀t,Cmn bs u v (e++t)->(e++t).length<=r.length)->(r=b\/(b.length < r.length/\(∃t,r=e++t)/\∀t,Cmn bs u v (e++t)->(e++t).length=r.length->r=e++t\/LtE r (e++t)))->Ka S S'->Q' (.rt (aI r),S'):=λr S' x y z l w=>hR _ _ (k r S' x y z l w)
 clear hR;show wZ _ _ cJ [ba (.tup [m0,.tup (HR aE ns bs),b0]),ba (.tup [az u,az v]),ba (aI e),ba (aI b),gV,gV,gV] S Q';have hel:=hC.len;have hbl:=hB.len;generalize hR0:W.tup [m0,.tup (HR aE ns bs),b0]=R;dsimp only[cJ];nofun
 have tl:∀b1:Hr (HB×HB),Cmn bs u v b1->(b1=b\/(b.length < b1.length/\b1=e))->e.length<=b1.length->K [ba R,ba (.tup [az u,az v]),ba (aI e),ba (aI b1),gV,gV,gV] S:=by
  intro b1 hB1 h1 h2;refine hK _ _ ?_;clear hK K hB hbl;nofun
  have t2:K [ba R,ba (.tup [az u,az v]),ba (aI e),ba (aI b1),ba (.int (n:HM)),gV,gV] S:=by
   refine hK _ _ ?_;clear hK K;nofun
   refine oY (n:HM) (u.length:HM) (λj Z S'=>∃(b2:Hr (HB×HB)) (a5 a6:HA W),Z=[ba R,ba (.tup [az u,az v]),ba (aI e),ba (aI b2),ba (.int (n:HM)),a5,a6]/\Cmn bs u v b2/\Ing bs u v b1 b2 e (λp=>p.1 < n+j)/\(∀p t,Cmn bs u v (e++p::t)->p.1 < n+j->(e++p::t).length<=b2.length)/\Ka S S') rfl rfl rfl ?_ ?_ ?_ ?_
   ·have:n<=101:=by
     rcases hF with⟨_,rfl⟩|⟨e',p,rfl,rfl⟩
     ·omega
     ·have:=hC.l1 p (by simp); omega
    omega
   ·dsimp only[wE,wA,wV,wG];refine#[rfl,aj #v[] rfl (aS #[by rw[Hv],b1,gV,gV,rfl,hB1,.inl rfl,λp t h z=>?_,.refl])]
    have:=hF.le h.next.1;omega
   ·rintro j Z S1 hj ⟨b2,a5,a6,rfl,hB2,h3,h4,k1⟩;clear hK;have ei:(n:HM)+(j:HM)=((n+j:HB):HM):=∅
    rw[ei];have hi:n+j < u.length:=∅
    have hup:=hF.up hC (Kc n j);have hb2:=hB2.len;have h3':∀b3,Ing bs u v b2 b3 e (λp=>p.1=n+j)->Ing bs u v b1 b3 e (λp=>p.1 < n+(j+1)):=λb3 h=>h3.comp h h4 (λp z=>∅) (λp _ _ z=>∅) λp q z1 z2=>.inl ∅
    intro Q2 hn2 _;dsimp only[HN];nofun
    replace hK:∀Z' S',Q2 (.nx Z',S')->K Z' S':=λZ' S' h=>hK _ _ (bH h)
    dsimp only[wS,wT,wE,wA,wV,wG,aI];refine aS (aj #v[] rfl (aS ?_))
    refine ae cp (ae xf (aS (ae uc ?_)));dsimp only[wB];rw[Hv,Hv,Hv];refine aq (Q0:=Q2) (λz Q3 hn3 _=>?_) (λz Q3 hn3 _=>bH (hn3 _ _ (hK _ _ (hn2 _ _ #[b2,_,_,rfl,hB2,h3' b2 (.inl rfl),λp t h w=>?_,k1]))))
    ·refine aC λK2 hK2=>?_
     replace hK2:∀Z' S',Q3 (.nx Z',S')->K2 Z' S':=λZ' S' h=>hK2 _ _ (bH h)
     refine fu rfl rfl ?_;dsimp only[wE,wA,wV,wG];subst hR0;refine AA (d:=d+m) P I hb hl hu hv hu5 hv5 hC hi hup λq S2 e2 k2=>?_
     have hcm:∀f∈eR bs u v e (n+j),Cmn bs u v (e++[(n+j,f)]):=λf hf=>ev.mpr #[hC,hup,hi,hf]
     have hall:∀p t,Cmn bs u v (e++p::t)->p.1=n+j->p.2∈eR bs u v e (n+j):=λp t h z=>z ▸ h.next.2.2
     have hLu:=AC (bs:=bs) (u:=u) (v:=v) (e:=e) (i:=n+j);generalize eR bs u v e (n+j)=L at e2 hcm hall hLu;refine#[q,L.map λf=>mZ (n+j,f),λx Z S3=>∃(b3:Hr (HB×HB)) (a6:HA W),Z=[ba (.tup [m0,.tup (HR aE ns bs),b0]),ba (.tup [az u,az v]),ba (aI e),ba (aI b3),ba (.int (n:HM)),ba (.int ((n+j:HB):HM)),a6]/\Cmn bs u v b3/\Ing bs u v b2 b3 e (λp=>∃f∈L.take x,p=(n+j,f))/\(∀f∈L.take x,∀t,Cmn bs u v (e++(n+j,f)::t)->(e++(n+j,f)::t).length<=b3.length)/\S3[q]?=ba (.lst (L.map λf=>mZ (n+j,f)))/\Ka S S3,rfl,#[b2,a6,rfl,hB2,.inl rfl,λf hf=>by simp at hf,e2,k1.trans k2],λ_ _ _ #[_,_,_,_,_,_,h,_]=>h,?_,?_]
     ·rintro x w Z S3 hw ⟨b3,a6',rfl,hB3,h5,h6,e3,k3⟩;clear hK hK2 hn2 hn3;rw[HF,Hy]at hw;obtain⟨f,hf,rfl⟩:=hw;refine ae (show im (.nm 6) (mZ (n+j,f)) [ba (.tup [m0,.tup (HR aE ns bs),b0]),ba (.tup [az u,az v]),ba (aI e),ba (aI b3),ba (.int (n:HM)),ba (.int ((n+j:HB):HM)),a6'] S3=ba ([ba (.tup [m0,.tup (HR aE ns bs),b0]),ba (.tup [az u,az v]),ba (aI e),ba (aI b3),ba (.int (n:HM)),ba (.int ((n+j:HB):HM)),ba (mZ (n+j,f))],S3)from rfl) ?_
      intro Q4 hn4 _;refine st ?_;left;refine ae (show eS .add (aI e) (.tup [mZ (n+j,f)]) S3=ba (aI (e++[(n+j,f)]),S3)from ?_) ?_
      ·unfold aI;rw[jZ (jb (by simp; omega)),Ir]; rfl
      dsimp only;have hC':=hcm f (HZ hf);cases m with
      | zero=>omega
      | succ m'=>
       refine ih m' (Jq _) d S3 _ (e++[(n+j,f)]) b3 (n+j+1) hC' hB3 (.inr #[e,_,rfl,rfl]) ∅ λr S4 g1 g2 g3 g5 g4=>bH (hn4 _ _ #[r,_,rfl,g1,?_,λf' hf' t ht=>?_,g4.get _ _ e3,k3.trans g4])
       ·refine h5.comp (B:=λp=>p=(n+j,f)) ?_ (λp t ht #[f',hf',z]=>by subst z; exact h6 f' hf' t ht) (λp z=>?_) (λp t _ z=>?_) λp q z1 z2=>?_
        ·rcases g5 with g5|⟨w1,⟨t,w2⟩,w3⟩
         ·exact .inl g5
         ·refine .inr #[w1,#[_,t,by rw[w2,Ja]; rfl,rfl],λp t' ht z hlen=>?_]
          subst z;have:=w3 t' (by rw[Ja]; exact ht) (by rw[Ja]; exact hlen)
          rw[Ja]at this;exact this
        ·rw[IG,hf];rcases z with⟨f',hf',z⟩|z
         ·exact#[f',Jr _ hf',z]
         ·exact#[f,Iq _ (by simp),z]
        ·rw[IG,hf]at z;obtain⟨f',hf',z⟩:=z;rcases Io.mp hf' with y|y
         ·exact .inl #[f',y,z]
         ·have:f'=f:=by simpa using y
          subst this;exact .inr z
        ·obtain⟨f',hf',rfl⟩:=z1;subst z2;exact .inr #[rfl,AD hLu hf hf']
       ·rw[IG,hf]at hf';rcases Io.mp hf' with z|z
        ·exact ID (h6 f' z t ht) g2
        ·have:f'=f:=by simpa using z
         subst this;have:=g3 t (by rw[Ja]; exact ht)
         rw[Ja]at this;exact this
     ·rintro Z S3 ⟨b3,a6',rfl,hB3,h5,h6,e3,k3⟩;rw[Hv,Jk]at h6 h5;have h5le:=h5.le;refine hK2 _ _ (hn3 _ _ (hK _ _ (hn2 _ _ #[b3,_,_,rfl,hB3,h3' b3 ?_,λp t h w=>?_,k3])))
      ·rcases h5 with h5|⟨w1,⟨p,t,w2,f,hf,w4⟩,w3⟩
       ·exact .inl h5
       ·refine .inr #[w1,#[p,t,w2,by rw[w4]],λp t h z hlen=>w3 p t h #[p.2,hall p t h z,by rw[<- z]] hlen]
      ·by_cases w2:p.1 < n+j
       ·exact ID (h4 p t h w2) h5le
       ·have w3:p.1=n+j:=∅
        have:=h6 p.2 (hall p t h w3) t (by rw[<- w3]; exact h)
        rw[<- w3]at this;exact this
    ·by_cases w2:p.1 < n+j
     ·exact h4 p t h w2
     ·have:=h.most;have:=JO z;omega
   ·rintro Z S1 ⟨b2,a5,a6,rfl,hB2,h3,h4,k1⟩;have h3le:=h3.le;have h1le:b.length<=b1.length:=by
     rcases h1 with rfl|⟨z,_⟩ <;> omega
    refine hK _ _ (st (k b2 S1 hB2 ∅ (λt ht=>?_) ?_ k1))
    ·cases t with
     | nil=>rw[Jp]; omega
     | cons p t=>exact h4 p t ht (by have:=ht.next.2.1; omega)
    ·rcases h3 with rfl|⟨w1,⟨p,t,w2,_⟩,w3⟩
     ·rcases h1 with z|⟨z,rfl⟩
      ·exact .inl z
      ·refine .inr #[z,#[[],(Jp _).symm],λt _ hlen=>.inl ?_]
       have:t=[]:=by
        rw[HK]at hlen;exact Jo.mp ∅
       rw[this,Jp]
     ·refine .inr #[∅,#[_,w2],λt ht hlen=>?_]
      cases t with
      | nil=>rw[Jp]at hlen; omega
      | cons p t=>exact w3 p t ht (by have:=ht.next.2.1; omega) hlen
  dsimp only[wS,wE,wT,wA,wV,wG,HN];rcases hF with⟨rfl,rfl⟩|⟨e',p,rfl,rfl⟩
  ·exact ae (show ee S (aI [])=ba false from rfl) #[λz=>(by cases z),λ_=>t2]
  ·refine ae (show ee S (aI (e'++[p]))=ba true by simp[aI,ee]) #[λ_=>?_,λz=>by cases z]
   dsimp only[wN];refine ae ya (aj #v[] rfl (ae cp ?_))
   exact t2
 dsimp only[wS,wT,wE,wA,wV,wG,aI];refine aS (aS (ae uc ?_));dsimp only[wB];rw[Hv,Hv];refine aq (Q0:=Q') (λz Q2 hn2 _=>?_) (λz Q2 hn2 _=>bH (hn2 _ _ (tl b hB (.inl rfl) ?_)))
 ·refine st ?_;dsimp only[wS,wE,wV,wG,HN];have:=IQ z;exact bH (hn2 _ _ (tl e hC (.inr #[∅,rfl]) (HE _)))
 ·have:=JO z;omega
abbrev Top (bs:Hr HM)(u v:Wd)(r:Hr (HB×HB)):Prop:=Cmn bs u v r/\∀t,Cmn bs u v t->t.length<=r.length/\(t.length=r.length->r=t\/LtE r t)
def lG (P:Parts defs)(I:Icm defs){m0 b0:W}{ns:Hr HY}{bs:Hr HM}{a:HB}{u v:Wd}(hb:GoodB bs)(hl:ns.length=bs.length)(hu:GoodW a bs.length u)(hv:GoodW a bs.length v)(hu5:u.length<=5)(hv5:v.length<=100)
  (k:∀r S',Top bs u v r->Ka S S'->Q (aI r,S')) :
  wO (aL (ah defs fuel (d+10)) "in_common" 3 [.tup [m0,.tup (HR aE ns bs),b0],az u,az v] S) Q:=by
 refine aw I.com rfl rfl λQ' hR=>?_
 replace k:∀r S',Top bs u v r->Ka S S'->Q' (.rt (aI r),S'):=λr S' x y=>hR _ _ (k r S' x y)
 clear hR;show wZ _ _ dS [ba (.tup [m0,.tup (HR aE ns bs),b0]),ba (az u),ba (az v)] S Q';dsimp only[dS];refine st ?_;left;refine AE P I hb hl hu hv ∅ hv5 5 d S _ [] [] 0 .nil .nil (.inl #[rfl,rfl]) ∅ λr S' h1 _ h3 h5 h4=>k r S' #[h1,λt ht=>#[h3 t ht,λhlen=>?_]] h4
 rcases h5 with rfl|⟨_,_,w⟩
 ·exact .inl (Jo.mp hlen).symm
 ·exact w t ht hlen
end
abbrev aY:Ss:=
 #v[.set 3 (.lst #v[.tup .nil]),.loop (.nm 4) (.rng #v[.bi .len #v[.v 1]]) #v[.loop (.nm 5) (.seq (.bi .list #v[.v 3])) #v[.loop (.nm 6) (.rng #v[.bi .len #v[.v 2]]) #v[.set 7 (.op .add (.v 5) (.tup #v[.tup #v[.v 4,.v 6]])),.set 8 (.comp (.ix (.v 1) (.c (.int 0))) (.nm 1) (.seq (.v 7)) .nil [gV,gV]),.set 9 (.comp (.ix (.v 1) (.c (.int 1))) (.nm 1) (.seq (.v 7)) .nil [gV,gV]),.ite (.and (.cmp .eq (.bi .len #v[.bi .set #v[.v 9]]) (.bi .len #v[.v 9])) (.cmp .eq (.own "_law_part" 3 #v[.v 0,.v 1,.v 8]) (.own "_law_part" 3 #v[.v 0,.v 2,.v 9]))) #v[.ex (.me .append (.v 3) #v[.v 7])] .nil]]],.ret (.v 3)]
abbrev ey:Ss:=
 #v[.set 3 (.own "_law_all_pairs" 3 #v[.v 0,.v 1,.v 2]),.set 4 (.bi .max #v[.comp (.bi .len #v[.v 1]) (.nm 1) (.seq (.v 3)) .nil [gV,gV]]),.ret (.bi .min #v[.comp (.v 1) (.nm 1) (.seq (.v 3)) #v[.cmp .eq (.bi .len #v[.v 1]) (.v 2)] [gV,gV,ba 4]])]
abbrev dU (bs:Hr HM)(u v:Wd)(e:Hr (HB×HB))(i f:HB):Il:=decide (f∉e.map (·.2))&&decide (aD bs u (e.map (·.1)++[i])=aD bs v (e.map (·.2)++[f]))
abbrev iQ (bs:Hr HM)(u v:Wd)(i:HB)(e:Hr (HB×HB)):Hr (Hr (HB×HB)):=((Ix v.length).filter (dU bs u v e i)).map λf=>e++[(i,f)]
abbrev dI (bs:Hr HM)(u v:Wd):HB->Hr (Hr (HB×HB))
 | 0=>[[]]
 | i+1=>dI bs u v i++(dI bs u v i).flatMap (iQ bs u v i)
def pG {bs:Hr HM}{u v:Wd}{e:Hr (HB×HB)}{i f:HB}(hC:Cmn bs u v e)(hf:f < v.length):dU bs u v e i f=true↔f∈eR bs u v e i:=by
 unfold dU;rw[fB,Hz,HQ,HQ,dk,dk,xW hC.prt];exact#[λh=>#[hf,h.1,h.2],λh=>#[h.2.1,h.2.2]]
def mT {bs:Hr HM}{u v:Wd}:∀ {i:HB},i<=u.length->∀e,e∈dI bs u v i↔Cmn bs u v e/\∀p∈e,p.1 < i
 | 0,_,e=>by
  unfold dI;rw[HJ];constructor
  ·rintro rfl;exact#[.nil,λp hp=>by simp at hp]
  ·rintro⟨_,h⟩;cases e with
   | nil=>rfl
   | cons p t=>exact absurd (h p (by simp)) (Nat.not_lt_zero _)
 | i+1,hi,e=>by
  have ih:=λe=>mT (bs:=bs) (u:=u) (v:=v) (i:=i) ∅ e
  unfold dI;rw[Io,Nd,ih];constructor
  ·rintro(⟨h1,h2⟩|⟨e',he',h⟩)
   ·exact#[h1,λp hp=>by have:=h2 p hp; omega]
   ·obtain⟨h1,h2⟩:=(ih e').mp he';unfold iQ at h;obtain⟨f,hf,rfl⟩:=HX.mp h;obtain⟨g1,g2⟩:=JB.mp hf;refine#[ev.mpr #[h1,h2,∅,(pG h1 (IU.mp g1)).mp g2],λp hp=>?_]
    rcases Io.mp hp with z|z
    ·have:=h2 p z; omega
    ·cases HJ.mp z; exact Jq _
  ·rintro⟨h1,h2⟩
   by_cases h:∀p∈e,p.1 < i
   ·exact .inl #[h1,h]
   ·cases hh:e with
    | nil=>rw[hh]at h; exact absurd (λp hp=>by simp at hp) h
    | cons a t=>
     obtain⟨e',p,rfl,_⟩ : ∃e' p,e=e'++[p]/\e'.length=t.length:=by
      have hne:e≠[]:=λz=>by rw[z]at hh; cases hh
      exact#[e.dropLast,e.getLast hne,(Ml hne).symm,by rw[NW,hh]; rfl]
     obtain⟨c1,c2,c3,c4⟩:=ev (i:=p.1) (f:=p.2).mp h1;have hp:p.1=i:=by
      have l1:=h2 p (by simp)
      by_cases z:p.1 < i
      ·refine absurd (λq hq=>?_) h
       rcases Io.mp hq with y|y
       ·have:=c2 q y; omega
       ·cases HJ.mp y; exact z
      ·omega
     rw[<- hh];refine .inr #[e',(ih e').mpr #[c1,λq hq=>by have:=c2 q hq; omega],?_]
     unfold iQ;refine HX.mpr #[p.2,JB.mpr #[IU.mpr (fB.mp c4).1,(pG c1 (fB.mp c4).1).mpr (hp ▸ c4)],by rw[<- hp]]
def AF {bs:Hr HM}{u v:Wd}{i:HB}{e:Hr (HB×HB)}:(iQ bs u v i e).length<=v.length:=by
 unfold iQ;rw[Hv];exact ID (Lc _ _) (by rw[IL]; exact HE _)
def iR {bs:Hr HM}{u v:Wd}{i:HB}:∀L:Hr (Hr (HB×HB)),(L.flatMap (iQ bs u v i)).length<=L.length*v.length
 | []=>by simp
 | e::L=>by
  rw[List.flatMap_cons,HK,IW,OL];have:=iR (bs:=bs) (u:=u) (v:=v) (i:=i) L;have:=AF (bs:=bs) (u:=u) (v:=v) (i:=i) (e:=e);omega
def mU {bs:Hr HM}{u v:Wd}(hv:v.length<=4):∀i,(dI bs u v i).length<=5 ^ i
 | 0=>HE _
 | i+1=>by
  have h1:=mU (bs:=bs) (u:=u) hv i;have h2:=iR (bs:=bs) (u:=u) (v:=v) (i:=i) (dI bs u v i);have h3:(dI bs u v i).length*v.length<=(dI bs u v i).length*4:=Nat.mul_le_mul_left _ hv;unfold dI;rw[HK,QA];omega
def qN {zs:Hr HM}{z:HM}(h:zs.Nodup):iZ (zs++[z])=if z∈zs then zs.length else zs.length+1:=by
 have key:∀i,i<=zs.length->firstMet (λj=>(zs++[z]).getD j 0) i=zs.take i:=by
  intro i
  induction i with
  | zero=>intro _; simp[firstMet_zero]
  | succ i ih=>
   intro hi;rw[Qk,ih ∅,IG,HC hi]
   have e:(zs++[z]).getD i 0=zs[i]:=by rw[Kv,IN hi,HC hi]; rfl
   have hn:((zs.take i).any λx=>x==zs[i])=false:=by
    rw[List.any_eq_false];intro x hx hxe;obtain⟨j,hj,rfl⟩:=JM.mp hx;rw[Jj]at hj;rw[Le]at hxe;have:=(Lq h).mp (eq_of_beq hxe);omega
   show P0 _ ((zs++[z]).getD i 0)=_;rw[e];unfold P0;rw[Im (by rw[hn]; exact Ih)]
   rfl
 unfold iZ;have e:(zs++[z]).getD zs.length 0=z:=by simp[Kv]
 rw[HK,JG,Qk,key _ (HE _),Jk];show(P0 zs ((zs++[z]).getD zs.length 0)).length=_;rw[e,step_length]
 by_cases hz:z∈zs
 ·have ha:(zs.any λx=>x==z)=true:=Pg.mpr #[z,hz,by simp]
  rw[Ic hz,Ic ha]
 ·rw[Im hz,Im (λy=>hz (by obtain⟨x,hx,hy⟩:=Pg.mp y; rw[<- eq_of_beq hy]; exact hx))]
def AG {zs:Hr HM}{z:HM}(hz:z∈zs):z<=mx zs:=by
 obtain⟨j,hj,rfl⟩:=JM.mp hz;have:=fA (bt:=λi j=>decide (zs.getD i 0 > zs.getD j 0)) (N:=zs.length) (λi _=>by simp) (λi j k _ _ _ h1 h2=>by simp at *; omega) (zs.length - 1) ∅ j ∅
 have e:zs.getD j 0=zs[j]:=by rw[Kv,HC hj]; rfl
 rw[e]at this;have:=JO this;unfold mx;omega
def uC (ps:Hr HB):fX (al ps)=ba (ps.map λ(p:HB)=>(p:HM)):=by
 induction ps with
 | nil=>rfl
 | cons p ps ih=>show(fX (al ps)).map _=_; rw[ih]; rfl
def De {S:aa}{l n:HB}{Q:QW}(h:S[l]?=ba (.sti n))(hn:n<=1000)(q:Q (.int n,S)):wO (Bi.len.fn [.ref l] S) Q:=by
 refine ae (a:=(.int n,S)) ?_ q;have e:nU [.ref l] S=gV:=by simp[nU,iA,eO,ny,h]
 simp only[Bi.fn,oF,e,zQ,h,Ic hn]
def Dg {S:aa}{l f:HB}{ps:Hr HB}{Q:QW}(h:S[l]?=ba (.lst (al (ps++[f]))))(hn:ps.Nodup)(hl:ps.length < 1000)(q:Q (.ref S.length,S++[.sti (if f∈ps then ps.length else ps.length+1)])):wO (Bi.set.fn [.ref l] S) Q:=by
 have h0:(ps.map λ(p:HB)=>(p:HM)).Nodup:=by
  rw[Kx,LX];exact Ri (λh z=>h (RB z)) (Kx.mp hn)
 refine ae (a:=(.ref S.length,S++[.sti (if f∈ps then ps.length else ps.length+1)])) ?_ q
 have e1:gA [.ref l] S=gV:=by
  simp only[gA,ar h,sy];rw[Im λz=>?_]
  have:=Ig.mp z (T.int (f:HB)) (by simp)
  simp[rG,T.isTup]at this
 have e2:jP [.ref l] S=ba (.ref S.length,S++[.sti (if f∈ps then ps.length else ps.length+1)]):=by
  simp only[jP,ar h,uC];rw[Ic (by rw[Hv,HK,JG]; omega),Ir,Kd,qN h0,Hv]
  congr 5;simp[HX,Int.ofNat_inj]
 simp only[Bi.fn,oF,show jO [.ref l] S=gV from rfl,e1,e2]
def AH {S:aa}{l:HB}{xs:Hr W}{Q:QW}(h:S[l]?=ba (.lst xs))(q:Q (.ref S.length,S++[.lst xs])):wO (Bi.list.fn [.ref l] S) Q:=by
 refine ae (a:=(.ref S.length,S++[.lst xs])) ?_ q;simp[Bi.fn,oF,gP,uF,h,fW,dL,ar h]
section
variable{defs:Hr (HY×Df)}{fuel d:HB}{S:aa}{Q:QW}
def pH (G:Gen defs)(hg:Is defs ("_law_all_pairs" : HY) 3 10 aY){m0 b0:W}{ns:Hr HY}{bs:Hr HM}{a:HB}{u v:Wd}(hb:GoodB bs)(hl:ns.length=bs.length)(hu:GoodW a bs.length u)(hv:GoodW a bs.length v)(hu4:u.length<=4)(hv4:v.length<=4)
  (k:∀(q:HB) (S':aa),S'[q]?=ba (.lst ((dI bs u v u.length).map aI))->Ka S S'->Q (.ref q,S')) :
  wO (aL (ah defs fuel (d+3)) "_law_all_pairs" 3 [.tup [m0,.tup (HR aE ns bs),b0],az u,az v] S) Q:=by
 refine aw hg rfl rfl λQ' hR=>?_
 replace k:∀(q:HB) (S':aa),S'[q]?=ba (.lst ((dI bs u v u.length).map aI))->Ka S S'->Q' (.rt (.ref q),S'):=λq S' a b=>hR _ _ (k q S' a b)
 clear hR;show wZ _ _ aY [ba (.tup [m0,.tup (HR aE ns bs),b0]),ba (az u),ba (az v),gV,gV,gV,gV,gV,gV,gV] S Q';generalize hR0:W.tup [m0,.tup (HR aE ns bs),b0]=R;dsimp only[aY];refine st ?_;dsimp only[wS,wE,wA,HN];nofun
 refine b6 (u.length:HM) (λi Z S'=>(∃a4 a5 a6 a7 a8 a9,Z=[ba R,ba (az u),ba (az v),ba (.ref S.length),a4,a5,a6,a7,a8,a9])/\S'[S.length]?=ba (.lst ((dI bs u v i).map aI))/\Ka S S') rfl rfl ∅ ?_ ?_ ?_
 ·dsimp only[wE,wA,wV,wG];exact aS #[by rw[Hv],#[_,_,_,_,_,_,rfl],af,.push]
 ·rintro i Z S1 hi ⟨⟨a4,a5,a6,a7,a8,a9,rfl⟩,e1,k1⟩ Q2 hn2 _;clear hK k;have hi':i < u.length:=∅
  have hal:=mT (bs:=bs) (u:=u) (v:=v) (i:=i) ∅
  have h625:(dI bs u v i).length*5<=625:=by
   have h1:=mU (bs:=bs) (u:=u) hv4 i;have h2:5 ^ i<=5 ^ 3:=Lp #v[] ∅
   have h3:(5:HB) ^ 3=125:=by decide
   omega
  generalize hT0:S.length=t at e1 hn2 ⊢;have htS:t < S1.length:=cq e1;have ea:dI bs u v (i+1)=dI bs u v i++(dI bs u v i).flatMap (iQ bs u v i):=rfl;dsimp only at hn2;rw[ea]at hn2;generalize hA:dI bs u v i=A at *
  clear ea;dsimp only[HN];nofun
  replace hK:∀Z' S',Q2 (.nx Z',S')->K Z' S':=λZ' S' h=>hK _ _ (bH h)
  refine fu rfl rfl ?_;dsimp only[wE,wA,wV,wG];refine AH e1 ?_;refine#[S1.length,A.map aI,λx Z S2=>(∃a5 a6 a7 a8 a9,Z=[ba R,ba (az u),ba (az v),ba (.ref t),ba (.int i),a5,a6,a7,a8,a9])/\S2[t]?=ba (.lst ((A++(A.take x).flatMap (iQ bs u v i)).map aI))/\S2[S1.length]?=ba (.lst (A.map aI))/\Ka S S2,rfl,#[#[_,_,_,_,_,rfl],?_,af,k1.trans .push],λ_ _ _ h=>h.2.2.1,?_,?_]
  ·rw[List.take_zero,List.flatMap_nil,Jp]; exact ak e1
  ·rintro x w Z S2 hw ⟨⟨a5,a6,a7,a8,a9,rfl⟩,e2,l2,k2⟩;clear hK;rw[HF,Hy]at hw;obtain⟨e,he,rfl⟩:=hw;have hx:x < A.length:=(HH.mp he).1;obtain⟨hC,hup⟩:=(hal e).mp (HZ he);have hel:=hC.len;have htl:=iR (bs:=bs) (u:=u) (v:=v) (i:=i) (A.take x);have htx:(A.take x).length*v.length<=x*4:=PZ (by rw[Jj]; omega) hv4
   refine ae (show im (.nm 5) (aI e) [ba R,ba (az u),ba (az v),ba (.ref t),ba (.int (i:HM)),a5,a6,a7,a8,a9] S2=ba ([ba R,ba (az u),ba (az v),ba (.ref t),ba (.int (i:HM)),ba (aI e),a6,a7,a8,a9],S2)from rfl) ?_
   intro Q3 hn3 _;nofun
   replace hK:∀Z' S',Q3 (.nx Z',S')->K Z' S':=λZ' S' h=>hK _ _ (bH h)
   have ex:(A.take (x+1)).flatMap (iQ bs u v i)=(A.take x).flatMap (iQ bs u v i)++iQ bs u v i e:=by
    rw[IG,he,Mp]; simp
   dsimp only at hn3;rw[ex,<- Ja]at hn3;have hB:(A++(A.take x).flatMap (iQ bs u v i)).length<=A.length+x*4:=by rw[HK]; omega
   generalize A++(A.take x).flatMap (iQ bs u v i)=B at e2 hn3 hB;clear ex htl htx;refine b6 (v.length:HM) (λy Z S3=>(∃a6 a7 a8 a9,Z=[ba R,ba (az u),ba (az v),ba (.ref t),ba (.int i),ba (aI e),a6,a7,a8,a9])/\S3[t]?=ba (.lst ((B++((Ix y).filter (dU bs u v e i)).map λf=>e++[(i,f)]).map aI))/\S3[S1.length]?=ba (.lst (A.map aI))/\Ka S S3) rfl rfl ∅ ?_ ?_ ?_
   ·dsimp only[wE,wA,wV,wG];exact aS #[by rw[Hv],#[_,_,_,_,rfl],by simpa using e2,l2,k2]
   ·rintro y Z S3 hy ⟨⟨a6,a7,a8,a9,rfl⟩,e3,l3,k3⟩ Q4 hn4 _;clear hK hn3 hn2;have hy':y < v.length:=∅
    have htl:((Ix y).filter (dU bs u v e i)).length<=4:=ID (Lc _ _) (by rw[IL]; omega)
    have er:(Ix (y+1)).filter (dU bs u v e i)=(Ix y).filter (dU bs u v e i)++(if dU bs u v e i y then[y]else[]):=by
     rw[Mk,MQ];congr 1;cases hfb:dU bs u v e i y <;> simp[hfb]
    dsimp only at hn4;rw[er]at hn4;have hl3:=cq e3;have hl3':=cq l3;generalize(Ix y).filter (dU bs u v e i)=F at e3 hn4 htl;clear er;dsimp only[HN];nofun
    left;refine ae (show eS .add (aI e) (.tup [.tup [.int i,.int y]]) S3=ba (aI (e++[(i,y)]),S3)from ?_) (hK _ _ ?_)
    ·unfold aI;rw[jZ (jb (by simp; omega)),Ir]; rfl
    clear hK K;nofun
    left;refine mS (e++[(i,y)]) mZ (λ_=>true) (λp=>W.int (p.1:HB)) [] rfl rfl rfl rfl (by simp; omega) #[rfl,.refl] (λp hp S' k'=>?_) λS4 k4=>hK _ _ ?_
    ·dsimp only[fK,wC,wE,wA,wV,wG];exact#[λ_=>aj #v[] rfl #[rfl,rfl,.refl],λz=>by cases z]
    clear hK K;rw[dF];have e4:(S4++[O.lst ((e++[(i,y)]).map λp=>W.int (p.1:HB))])[S4.length]?=ba (.lst (al (e.map (·.1)++[i]))):=by
     rw[af]; unfold al; simp
    replace k4:=k4.trans (Ka.push (o:=O.lst ((e++[(i,y)]).map λp=>W.int (p.1:HB))))
    generalize S4++[O.lst ((e++[(i,y)]).map λp=>W.int (p.1:HB))]=S5 at k4 e4 ⊢
    generalize S4.length=l8 at e4 ⊢;nofun
    left;refine mS (e++[(i,y)]) mZ (λ_=>true) (λp=>W.int (p.2:HB)) [] rfl rfl rfl rfl (by simp; omega) #[rfl,.refl] (λp hp S' k'=>?_) λS6 k6=>hK _ _ ?_
    ·dsimp only[fK,wC,wE,wA,wV,wG];exact#[λ_=>aj #v[] rfl #[rfl,rfl,.refl],λz=>by cases z]
    clear hK K;rw[dF];have e6:(S6++[O.lst ((e++[(i,y)]).map λp=>W.int (p.2:HB))])[S6.length]?=ba (.lst (al (e.map (·.2)++[y]))):=by
     rw[af]; unfold al; simp
    replace k6:=k6.trans (Ka.push (o:=O.lst ((e++[(i,y)]).map λp=>W.int (p.2:HB))))
    replace e4:=k6.get _ _ e4;replace k4:=k4.trans k6;generalize S6++[O.lst ((e++[(i,y)]).map λp=>W.int (p.2:HB))]=S7 at k4 e6 e4 ⊢
    generalize S6.length=l9 at e6 ⊢;clear k6;nofun
    replace hK:∀Z' S',Q4 (.nx Z',S')->K Z' S':=λZ' S' h=>hK _ _ (bH h)
    dsimp only[wS,wT,wE,wA,wV,wG];refine Dg e6 hC.nd (by rw[Hv]; omega) ?_
    refine De af (by rw[Hv]; split <;> omega) ?_
    refine dR (ak e6) (ae gF ?_);rw[show(al (e.map (·.2)++[y])).length=e.length+1 by unfold al; simp,Hv]
    replace k4:=k4.trans (Ka.push (o:=O.sti (if y∈e.map (·.2)then e.length else e.length+1)))
    replace e4:=ak (u:=O.sti (if y∈e.map (·.2)then e.length else e.length+1)) e4
    replace e6:=ak (u:=O.sti (if y∈e.map (·.2)then e.length else e.length+1)) e6
    generalize S7++[O.sti (if y∈e.map (·.2)then e.length else e.length+1)]=S8 at k4 e4 e6 ⊢
    by_cases hyn:y∈e.map (·.2)
    ·have hf:dU bs u v e i y=false:=by unfold dU; rw[Iz (λz=>z hyn),Pz]
     rw[hf]at hn4;rw[Ic hyn,show(((e.length:HB):HM)==((e.length+1:HB):HM))=false from by rw[Ly]; omega]
     dsimp only[wB];refine#[λz=>(by cases z),λ_=>?_]
     refine aq (Q0:=Q4) (λz=>by cases z) (λ_ Q5 hn5 _=>bH (hn5 _ _ (hK _ _ (hn4 _ _ #[#[_,_,_,_,rfl],?_,k4.get _ _ l3,k3.trans k4]))))
     have:=k4.get _ _ e3
     simpa using this
    ·rw[Im hyn,IS];dsimp only[wB];refine#[λ_=>?_,λz=>by cases z]
     have n1:(e.map (·.1)++[i]).Nodup:=by
      rw[Kk];refine#[Kx.mpr (hC.up.imp λh=>HV h),by simp,λp hp q hq z=>?_]
      rw[HJ]at hq;obtain⟨x,hx,rfl⟩:=HX.mp hp;have:=hup x hx;omega
     have n2:(e.map (·.2)++[y]).Nodup:=by
      rw[Kk];refine#[hC.nd,by simp,λp hp q hq z=>?_]
      rw[HJ]at hq;subst hq;subst z;exact hyn hp
     have m1:∀p∈e.map (·.1)++[i],p < u.length:=λp hp=>by
      rcases Io.mp hp with z|z
      ·obtain⟨x,hx,rfl⟩:=HX.mp z; exact hC.l1 x hx
      ·rw[HJ.mp z]; exact hi'
     have m2:∀p∈e.map (·.2)++[y],p < v.length:=λp hp=>by
      rcases Io.mp hp with z|z
      ·obtain⟨x,hx,rfl⟩:=HX.mp z; exact hC.l2 x hx
      ·rw[HJ.mp z]; exact hy'
     subst hR0;refine sA (d:=d) G hb hl hu m1 n1 (by simp; omega) e4 λS9 k9=>?_
     refine sA (d:=d) G hb hl hv m2 n2 (by simp; omega) (k9.get _ _ e6) λS10 k10=>?_
     refine ae C4 ?_;dsimp only[wB];have hf:dU bs u v e i y=decide (aD bs u (e.map (·.1)++[i])=aD bs v (e.map (·.2)++[y])):=by unfold dU; rw[JL hyn,LF]
     rw[<- hf];replace k4:=(k4.trans k9).trans k10;have e10:=k4.get _ _ e3;refine aq (Q0:=Q4) (λz Q5 hn5 _=>?_) (λz Q5 hn5 _=>bH (hn5 _ _ (hK _ _ (hn4 _ _ #[#[_,_,_,_,rfl],?_,k4.get _ _ l3,k3.trans k4]))))
     ·refine st ?_;left;refine#[cW e10,i5 e10 (by simp; omega) (bH (hn5 _ _ (hK _ _ (hn4 _ _ #[#[_,_,_,_,rfl],?_,?_,(k3.trans k4).late ∅]))))]
      ·rw[bm e10,Ic z]; simp
      ·rw[bu ∅]; exact k4.get _ _ l3
     ·rw[z]; simpa using e10
   ·rintro Z S3 ⟨⟨a6,a7,a8,a9,rfl⟩,e3,l3,k3⟩;exact hK _ _ (hn3 _ _ #[#[_,_,_,_,_,rfl],e3,l3,k3])
  ·rintro Z S2 ⟨⟨a5,a6,a7,a8,a9,rfl⟩,e2,l2,k2⟩;rw[Hv,Jk]at e2;exact hK _ _ (hn2 _ _ #[#[_,_,_,_,_,_,rfl],e2,k2])
 ·rintro Z S1 ⟨⟨a4,a5,a6,a7,a8,a9,rfl⟩,e1,k1⟩;exact hK _ _ (st (k _ _ e1 k1))
end
def mV (e:Hr (HB×HB)):dH (eN e)=true:=by
 unfold eN;show bV (e.map fS)=true
 induction e with
 | nil=>rfl
 | cons p e ih=>show(dH (fS p)&&bV (e.map fS))=true; rw[ih]; rfl
def Dh (e:Hr (HB×HB)):(eN e).w=aI e:=by
 unfold eN aI;show W.tup (T.ws (e.map fS))=_;congr 1
 induction e with
 | nil=>rfl
 | cons p e ih=>show(fS p).w::T.ws (e.map fS)=_; rw[ih]; rfl
def yb:∀es:Hr (Hr (HB×HB)),T.ws (es.map eN)=es.map aI
 | []=>rfl
 | e::es=>by show(eN e).w::T.ws (es.map eN)=_; rw[Dh,yb es]; rfl
def Di (es:Hr (Hr (HB×HB))):W.ts (es.map aI)=ba (es.map eN):=by rw[<- yb]; exact T.ws_ts _
def lH:∀e:Hr (HB×HB),T.depths (e.map fS)<=1
 | []=>by simp[T.depths]
 | p::e=>by
  have:=lH e;have h:(fS p).depth=1:=rfl;simp only[IZ,T.depths,h]; omega
def pI:∀es:Hr (Hr (HB×HB)),T.depths (es.map eN)<=2
 | []=>by simp[T.depths]
 | e::es=>by
  have h1:=pI es;have h2:=lH e;have h:(eN e).depth<=2:=by simp only[eN,T.depth]; omega
  simp only[IZ,T.depths]; omega
def sC:∀e f:Hr (HB×HB),(bK (e.map fS) (f.map fS)).isSome=true
 | [],[]=>rfl
 | [],_::_=>rfl
 | _::_,[]=>rfl
 | p::e,q::f=>by
  have ih:=sC e f;show(if fS p=fS q then bK (e.map fS) (f.map fS)else gw (fS p) (fS q)).isSome=true
  split
  ·exact ih
  ·show(if T.int (p.1:HM)=.int (q.1:HM)then bK [T.int (p.2:HM)] [T.int (q.2:HM)]else gw (T.int (p.1:HM)) (.int (q.1:HM))).isSome=true
   split
   ·show(if T.int (p.2:HM)=.int (q.2:HM)then ba false else ba (decide ((p.2:HM) < q.2))).isSome=true
    split <;> rfl
   ·rfl
def pJ (es:Hr (Hr (HB×HB))):eg (es.map eN)=true:=by
 unfold eg;rw[Ig];intro x hx;rw[Ig];intro y hy;obtain⟨p,_,rfl⟩:=HX.mp hx;obtain⟨q,_,rfl⟩:=HX.mp hy;exact sC p q
def Dj {S:aa}{l:HB}{es:Hr (Hr (HB×HB))}{Q:QW}(h:S[l]?=ba (.lst (es.map aI)))(hne:es≠[])(q:∀x∈es,(∀y∈es,gw (eN y) (eN x)=ba false)->Q (aI x,S)):wO (Bi.min.fn [.ref l] S) Q:=by
 obtain⟨x,h1,h2,h3⟩:=x4 (ks:=es.map eN) (λx hx=>by obtain⟨e,_,rfl⟩:=HX.mp hx; exact mV e) (pJ es) (by simpa using hne)
 rw[HF,Hy]at h1;obtain⟨e,he,rfl⟩:=h1;refine ae (a:=(aI e,S)) ?_ (q e (HZ he) λy hy=>h3 _ (LB hy))
 simp only[Bi.fn,vI,ar h,Di];rw[Ic #[by have:=pI es; unfold bC; omega,pJ _],HF,he]; rfl
def pK {α:Type}(f:α->HM):∀xs:Hr α,fX (xs.map λx=>W.int (f x))=ba (xs.map f)
 | []=>rfl
 | x::xs=>by show(fX (xs.map λx=>W.int (f x))).map _=_; rw[pK f xs]; rfl
def Fa {α:Type}{S:aa}{l:HB}{xs:Hr α}{f:α->HM}{Q:QW}(h:S[l]?=ba (.lst (xs.map λx=>W.int (f x))))(hne:xs≠[])(q:Q (.int (mx (xs.map f)),S)):wO (Bi.max.fn [.ref l] S) Q:=by
 refine ae (a:=(.int (mx (xs.map f)),S)) ?_ q;simp only[Bi.fn,zR,ar h,pK];rw[Im (by rw[Hv]; exact λz=>hne (Jo.mp z))]
def Top.uniq {bs:Hr HM}{u v:Wd}{r r':Hr (HB×HB)}(h:Top bs u v r)(h':Top bs u v r'):r'=r:=by
 have l1:=(h.2 r' h'.1).1;have l2:=(h'.2 r h.1).1;rcases(h.2 r' h'.1).2 ∅with z|z
 ·exact z.symm
 ·rcases(h'.2 r h.1).2 ∅with y|y
  ·exact y
  ·have:=iD _ _ (mV r) z;unfold LtE at y;rw[y]at this;cases this
section
variable{defs:Hr (HY×Df)}{fuel d:HB}{S:aa}{Q:QW}
def Bj (G:Gen defs)(ha:Is defs ("_law_all_pairs" : HY) 3 10 aY)(hg:Is defs ("_law_due" : HY) 3 5 ey){m0 b0:W}{ns:Hr HY}{bs:Hr HM}{a:HB}{u v:Wd}(hb:GoodB bs)(hl:ns.length=bs.length)(hu:GoodW a bs.length u)(hv:GoodW a bs.length v)(hu4:u.length<=4)(hv4:v.length<=4)
  (k:∀r S',Top bs u v r->Ka S S'->Q (aI r,S')) :
  wO (aL (ah defs fuel (d+4)) "_law_due" 3 [.tup [m0,.tup (HR aE ns bs),b0],az u,az v] S) Q:=by
 refine aw hg rfl rfl λQ' hR=>?_
 replace k:∀r S',Top bs u v r->Ka S S'->Q' (.rt (aI r),S'):=λr S' a b=>hR _ _ (k r S' a b)
 clear hR;show wZ _ _ ey [ba (.tup [m0,.tup (HR aE ns bs),b0]),ba (az u),ba (az v),gV,gV] S Q';dsimp only[ey];nofun
 left;refine pH (d:=d) G ha hb hl hu hv hu4 hv4 λq S1 e1 k1=>hK _ _ ?_
 clear hK K;have hal:=mT (bs:=bs) (u:=u) (v:=v) (HE _);have hlen:(dI bs u v u.length).length<=625:=ID (mU hv4 _) (ID (Lp #v[] hu4) #v[])
 have hin:∀t,Cmn bs u v t->t∈dI bs u v u.length:=λt ht=>(hal t).mpr #[ht,ht.l1]
 have hout:∀t∈dI bs u v u.length,Cmn bs u v t:=λt ht=>((hal t).mp ht).1
 generalize dI bs u v u.length=L at e1 hin hout hlen;clear hal;have hne:L≠[]:=λz=>by have:=hin [] .nil; rw[z]at this; simp at this
 nofun
 left;refine ko L aI (λ_=>true) (λe=>W.int (e.length:HB)) [] rfl rfl rfl rfl ∅ #[q,rfl,e1,.refl] (λe he S' k'=>?_) λS2 k2=>?_
 ·dsimp only[fK,wC,wE,wA,wV,wG];exact#[λ_=>aS #[rfl,by rw[Hv],.refl],λz=>by cases z]
 rw[dF];refine Fa (xs:=L) (f:=λe=>((e.length:HB):HM)) af hne (hK _ _ ?_)
 clear hK K;have hM:∀e∈L,((e.length:HB):HM)<=mx (L.map λe=>((e.length:HB):HM)):=λe he=>AG (LB he)
 have hMm:=wo (zs:=L.map λe=>((e.length:HB):HM)) (by rw[Hv]; exact N8.mpr hne)
 obtain⟨e0,he0,eM⟩:=HX.mp hMm;rw[<- eM]at hM ⊢;clear hMm eM;replace k2:=k2.trans (Ka.push (o:=O.lst (L.map λe=>W.int (e.length:HB))))
 replace e1:=k2.get _ _ e1;replace k1:=k1.trans k2;generalize S2++[O.lst (L.map λe=>W.int (e.length:HB))]=S3 at k1 e1 ⊢
 clear k2;refine st ?_;left;refine ko L aI (λe=>decide (e.length=e0.length)) aI [ba (.int ((e0.length:HB):HM))] rfl rfl rfl rfl ∅ #[q,rfl,e1,.refl] (λe he S' k'=>?_) λS4 k4=>?_
 ·dsimp only[fK,wC,wT,wE,wA,wV,wG];refine aS (ae gF ?_);dsimp only[wB];rw[Hv];exact#[λz=>#[by have:=eq_of_beq z; rw[HQ]; omega,rfl,.refl],λz=>#[(by rw[LO]; exact λy=>(by rw[y,IS]at z; cases z)),.refl]]
 refine Dj af (λz=>?_) λx hx hy=>?_
 ·have:e0∈L.filter λe=>decide (e.length=e0.length):=JB.mpr #[he0,by rw[HQ]]
  rw[z]at this;simp at this
 ·obtain⟨x1,x2⟩:=JB.mp hx;rw[HQ]at x2;refine k x _ #[hout x x1,λt ht=>?_] ((k1.trans k4).trans .push)
  have htL:=hin t ht;have:=hM t htL;refine#[∅,λhlt=>?_]
  have hf:=hy t (JB.mpr #[htL,by rw[HQ]; omega])
  by_cases hxt:x=t
  ·exact .inl hxt
  ·refine .inr (qd _ _ (mV x) (λz=>hxt ?_) hf)
   have inj:∀ {a b:Hr (HB×HB)},a.map fS=b.map fS->a=b:=λ{a b}=>(List.map_inj_right λp q h=>by
    simp only[fS,T.tup.injEq,Nz,T.int.injEq,and_true]at h;exact QF ∅ ∅).mp
   unfold eN at z;exact inj (by simpa using z)
end
abbrev kq:Ss:=
 #v[.set 6 (.own "_law_due" 3 #v[.v 2,.v 4,.v 3]),.ite (.not (.own "_law_alike" 2 #v[.own "in_common" 3 #v[.v 2,.v 4,.v 3],.v 6])) #v[.ret (.c (.bl false))] .nil,.ite (.not (.own "_law_alike" 2 #v[.own "in_common" 3 #v[.v 2,.v 3,.v 4],.own "_law_due" 3 #v[.v 2,.v 3,.v 4]])) #v[.ret (.c (.bl false))] .nil,.set 7 (.own "_law_other_rule" 1 #v[.v 2]),.ite (.not (.own "_law_alike" 2 #v[.own "in_common" 3 #v[.v 7,.v 4,.v 3],.own "_law_due" 3 #v[.v 7,.v 4,.v 3]])) #v[.ret (.c (.bl false))] .nil,.ret (.own "_law_alike" 2 #v[.own "in_common" 3 #v[.v 2,.v 4,.v 3],.v 6])]
abbrev jm:Ss:=
 (.cons (.set 1 (.own "_law_flow" 1 #v[.v 0]))
 (.cons (.set 2 (.own "_law_full_rule" 1 #v[.v 1]))
 (.cons (.set 3 (.own "_law_any_world" 3 #v[.v 1,.v 2,.own "_law_pick" 2 #v[.v 1,.c (.int 5)]]))
 (.cons (.set 4 (.own "_law_any_world" 3 #v[.v 1,.v 2,.own "_law_pick" 2 #v[.v 1,.c (.int 5)]]))
 (.cons (.ite (.cmp .gt (.own "_law_pick" 2 #v[.v 1,.c (.int 3)]) (.c (.int 0))) #v[.set 5 (.own "_law_any_world" 3 #v[.v 1,.v 2,.c (.int 5)]),.set 4 (.own "_law_part" 3 #v[.v 2,.v 5,.own "_law_drawn_points" 3 #v[.v 1,.c (.int 5),.own "_law_pick" 2 #v[.v 1,.c (.int 5)]]]),.set 3 (.own "_law_part" 3 #v[.v 2,.v 5,.own "_law_drawn_points" 3 #v[.v 1,.c (.int 5),.own "_law_pick" 2 #v[.v 1,.c (.int 5)]]])] .nil)
 kq)))))
structure Lw19 (defs:Hr (HY×Df)):Prop where
 gen:Gen defs
 full:Full defs
 parts:Parts defs
 icm:Icm defs
 flow:Is defs ("_law_flow" : HY) 1 1 dA
 world:Is defs ("_law_any_world" : HY) 3 6 bp
 alike:Is defs ("_law_alike" : HY) 2 2 bz
 drawn:Is defs ("_law_drawn_points" : HY) 3 5 aV
 other:Is defs ("_law_other_rule" : HY) 1 2 bh
 pairs:Is defs ("_law_all_pairs" : HY) 3 10 aY
 due:Is defs ("_law_due" : HY) 3 5 ey
 law:Is defs ("law" : HY) 1 8 jm
def yc {e:Hr (HB×HB)}(hl:e.length<=1000):Tr 3 (aI e):=by
 refine#[by rw[Hv]; exact hl,λx hx=>?_]
 obtain⟨p,hp,rfl⟩:=HX.mp hx;refine#[LZ rfl,λy hy=>?_]
 simp only[HW,Iy,JH]at hy;rcases hy with rfl|rfl <;> trivial
section
variable{defs:Hr (HY×Df)}{fuel d:HB}{S:aa}{Q:QW}
def Bk (L:Lw19 defs){m0 b0:W}{ns:Hr HY}{bs:Hr HM}{a:HB}{u v:Wd}{r:Hr (HB×HB)}(hb:GoodB bs)(hl:ns.length=bs.length)(hu:GoodW a bs.length u)(hv:GoodW a bs.length v)(hu4:u.length<=4)(hv4:v.length<=4)(ht:Top bs u v r)(k:∀S',Q (.bl true,S')) :
  wO (aL (ah defs fuel (d+10)) "in_common" 3 [.tup [m0,.tup (HR aE ns bs),b0],az u,az v] S) λp=>wO (aL (ah defs fuel (d+10)) "_law_alike" 2 [p.1,aI r] p.2) Q:=by
 refine lG (d:=d) L.parts L.icm hb hl hu hv ∅ ∅ λr' S' h' k'=>?_
 rw[ht.uniq h'];have:=ht.1.len;exact su L.alike 3 (d+6) _ _ _ (yc ∅) λS2 _=>k S2
def yd (L:Lw19 defs){m0 b0:W}{ns:Hr HY}{bs:Hr HM}{a:HB}{u v:Wd}(hb:GoodB bs)(hl:ns.length=bs.length)(hu:GoodW a bs.length u)(hv:GoodW a bs.length v)(hu4:u.length<=4)(hv4:v.length<=4)(k:∀S',Q (.bl true,S')) :
  wO (aL (ah defs fuel (d+10)) "in_common" 3 [.tup [m0,.tup (HR aE ns bs),b0],az u,az v] S) λp=>wO (aL (ah defs fuel (d+10)) "_law_due" 3 [.tup [m0,.tup (HR aE ns bs),b0],az u,az v] p.2) λq=>wO (aL (ah defs fuel (d+10)) "_law_alike" 2 [p.1,q.1] q.2) Q:=by
 refine lG (d:=d) L.parts L.icm hb hl hu hv ∅ ∅ λr S' ht k'=>?_
 refine Bj (d:=d+6) L.gen L.pairs L.due hb hl hu hv hu4 hv4 λr' S2 h' k2=>?_
 rw[ht.uniq h'];have:=ht.1.len;exact su L.alike 3 (d+6) _ _ _ (yc ∅) λS2 _=>k S2
def Dk (L:Lw19 defs){ms ns:Hr HY}{bs:Hr HM}{b0 w0 w1:W}{a:HB}{u v:Wd}{a5:HA W}{Q':QO}(hb:GoodB bs)(hnl:ns.length=bs.length)(hu:GoodW a bs.length u)(hv:GoodW a bs.length v)(hu4:u.length<=4)(hv4:v.length<=4)(k:∀S',Q' (.rt (.bl true),S')) :
  wZ (ah defs fuel (d+10)) fuel kq [ba w0,ba w1,ba (.tup [.tup (ms.map W.str),.tup (HR aE ns bs),b0]),ba (az v),ba (az u),a5,gV,gV] S Q':=by
 dsimp only[kq];nofun
 left;refine Bj (d:=d+6) L.gen L.pairs L.due hb hnl hu hv hu4 hv4 λr S1 ht k1=>hK _ _ ?_
 clear hK K;nofun
 dsimp only[wS,wT,wE,wA,wV,wG];refine Bk L hb hnl hu hv hu4 hv4 ht λS2=>?_
 refine ae (show ee S2 (.bl true)=ba true from rfl) ?_
 refine aq (Q0:=Q') (λz=>by cases z) (λ_ Q2 hn2 _=>bH (hn2 _ _ (hK _ _ ?_)))
 clear hn2 hK K;nofun
 dsimp only[wS,wT,wE,wA,wV,wG];refine yd L hb hnl hv hu hv4 hu4 λS3=>?_
 refine ae (show ee S3 (.bl true)=ba true from rfl) ?_
 refine aq (Q0:=Q') (λz=>by cases z) (λ_ Q2 hn2 _=>bH (hn2 _ _ (hK _ _ ?_)))
 clear hn2 hK K;obtain⟨gb,gl⟩:=lF hb;nofun
 left;refine Aw (d:=d+9) L.other hb hnl λS4 _=>hK _ _ ?_
 clear hK K;nofun
 dsimp only[wS,wT,wE,wA,wV,wG];refine yd L gb ∅ (by rw[gl]; exact hu) (by rw[gl]; exact hv) hu4 hv4 λS5=>?_
 refine ae (show ee S5 (.bl true)=ba true from rfl) ?_
 refine aq (Q0:=Q') (λz=>by cases z) (λ_ Q2 hn2 _=>bH (hn2 _ _ (hK _ _ ?_)))
 clear hn2 hK K;refine st ?_;left;exact Bk L hb hnl hu hv hu4 hv4 ht λS6=>k S6
def ye (hfu:50 < fuel)(L:Lw19 defs){zs:Hr HM}:∃S',ah defs fuel (d+11) "law" [.ref 0] [.fro (zs.map W.int)]=ba (.bl true,S'):=by
 suffices h:wO (aL (ah defs fuel (d+11)) "law" 1 [.ref 0] [.fro (zs.map W.int)]) (λp=>p.1=.bl true) by
  obtain⟨⟨v,S'⟩,e,q⟩:=bL h;cases(show v=.bl true from q)
  exact#[S',e]
 have G:=L.gen;refine aw L.law rfl rfl λQ' hR=>?_
 show wZ _ _ jm [ba (.ref 0),gV,gV,gV,gV,gV,gV,gV] [.fro (zs.map W.int)] Q';unfold jm;nofun
 left;refine Db (d:=d+9) L.flow (ns:=zs) rfl λr S1 _ f1=>hK _ _ ?_
 clear hK K;nofun
 left;refine C8 (d:=d+2) ∅ G L.full f1 λw S2 hw f2 _=>hK _ _ ?_
 clear hK K f1;obtain⟨a,bs,ms,ns,gs,rfl,hr⟩:=hw;have hb:=hr.size.good;have hnl:=hr.nl;have hml:=hr.ml;have hpos:=hr.size.pos;have ha3:=hr.size.a3;clear hr;unfold cZ;generalize W.tup ((b8 gs).map az)=b0;clear gs;nofun
 left;refine aJ (d:=d+9) G.pick f2 #v[] #v[] λn1 S3 n10 n11 f3 _=>?_
 obtain⟨n1,rfl⟩ : ∃n:HB,n1=n:=#[n1.toNat,∅]
 refine ft (d:=d+8) G L.world f3 hpos ha3 hb hml hnl ∅ λv S4 hvl hv f4 _=>hK _ _ ?_
 clear hK K f2 f3;nofun
 left;refine aJ (d:=d+9) G.pick f4 #v[] #v[] λn2 S5 n20 n21 f5 _=>?_
 obtain⟨n2,rfl⟩ : ∃n:HB,n2=n:=#[n2.toNat,∅]
 refine ft (d:=d+8) G L.world f5 hpos ha3 hb hml hnl ∅ λu S6 hul hu f6 _=>hK _ _ ?_
 clear hK K f4 f5;nofun
 have tl:∀(u v:Wd) (a5:HA W) (S':aa),GoodW a bs.length u->GoodW a bs.length v->u.length<=4->v.length<=4->K [ba (.ref 0),ba (.ref r),ba (.tup [.tup (ms.map W.str),.tup (HR aE ns bs),b0]),ba (az v),ba (az u),a5,gV,gV] S':=λu v a5 S' h1 h2 h3 h4=>hK _ _ (Dk L hb hnl h1 h2 h3 h4 λS9=>hR _ _ rfl)
 clear hK;dsimp only[wS,wT,wE,wA,wV,wG];refine aJ (d:=d+9) G.pick f6 #v[] #v[] λfo S7 _ _ f7 _=>?_
 refine ae uc ?_;dsimp only[wB];refine aq (Q0:=Q') (λ_ Q2 hn2 _=>?_) (λ_ Q2 hn2 _=>bH (hn2 _ _ (tl u v gV S7 hu hv ∅ ∅)))
 refine aC λK2 hK2=>?_
 left;rw[show(5:HM)=((5:HB):HM)from rfl]
 refine ft (d:=d+8) G L.world f7 hpos ha3 hb hml hnl ∅ λx S8 hxl hx f8 _=>hK2 _ _ ?_
 clear hK2 K2;have prt:∀ {S:aa} {Q:QW},Fl S r->(∀(y:Wd) S',GoodW a bs.length y->y.length<=4->Fl S' r->Q (az y,S'))->wO (aL (ah defs fuel (d+10)) "_law_pick" 2 [.ref r,.int 5] S) λp=>wO (aL (ah defs fuel (d+10)) "_law_drawn_points" 3 [.ref r,.int 5,p.1] p.2) λq=>wO (aL (ah defs fuel (d+10)) "_law_part" 3 [.tup [.tup (ms.map W.str),.tup (HR aE ns bs),b0],az x,q.1] q.2) Q:=λ{S Q} f h=>by
  refine aJ (d:=d+9) G.pick f #v[] #v[] λn S3 n0 n1 f3 _=>?_
  obtain⟨n,rfl⟩ : ∃m:HB,n=m:=#[n.toNat,∅]
  refine At (d:=d+8) G L.drawn (many:=5) (size:=n) f3 ∅ ∅ ∅ λps S4 hpl hnd hps f4 _=>?_
  refine xw (d:=d+8) G hb hnl hx (λp hp=>by have:=hps p hp; omega) hnd ∅ λS5 k5=>?_
  exact h _ S5 (uA hb hx (λp hp=>by have:=hps p hp; omega) hnd) (by rw[fM]; omega) (f4.ka k5)
 refine aC λK2 hK2=>?_
 left;refine prt f8 λy S9 hy hyl f9=>hK2 _ _ ?_
 clear hK2 K2;refine aC λK2 hK2=>?_
 left;refine prt f9 λz S10 hz hzl f10=>hK2 _ _ ?_
 exact bH (hn2 _ _ (tl y z _ S10 hy hz hyl hzl))
end
abbrev lI (i:HB):KO:=PySem.Challenge.pw_layworld_k19_what_two_have_in_common.main.body.getD i (.Pass #[0,0,0,0])
abbrev Bl:Df:=#[["_law_script"],["_law_script","_law_flow_here","_law_rule","_law_other","_law_one","_law_whole","_law_due_here","_law_twin"],jm]
noncomputable abbrev Tw:=HY×HB×Df×HB
noncomputable abbrev tw (x:HY)(i:HB)(d:Df)(a:HB):Tw:=(x,i,d,a)
abbrev TL:Hr Tw:=[tw "way" 1 #[["rule","world","i","j"],["rule","world","i","j"],sv] 21,tw "point_over" 3 #[["rule","world","ahead","point"],["rule","world","ahead","point"],dg] 26,tw "in_common" 5 #[["rule","one","other"],["rule","one","other"],dS] 33,tw "best_behind" 6 #[["rule","worlds","pairs","best"],["rule","worlds","pairs","best","first","point","pair"],cJ] 40,tw "pairs_with" 7 #[["rule","worlds","pairs","point"],["rule","worlds","pairs","point","theirs","ours","free"],dh] 45,tw "_law_flow" 9 #[["_law_script"],["_law_script"],dA] 52,tw "_law_pick" 10 #[["_law_flow_here","_law_many"],["_law_flow_here","_law_many","_law_cell","_law_digit"],bU] 59,tw "_law_letters" 11 #[["_law_flow_here","_law_many"],["_law_flow_here","_law_many"],cC] 64,tw "_law_name" 12 #[["_law_flow_here","_law_stem"],["_law_flow_here","_law_stem","_law_near"],eG] 71,tw "_law_names" 13 #[["_law_flow_here","_law_many"],["_law_flow_here","_law_many","_law_stem","_law_names_here","_law_k","_law_name_here","_law_spare"],bW] 78,tw "_law_between" 14 #[["_law_rule","_law_world","_law_i","_law_j"],["_law_rule","_law_world","_law_i","_law_j"],cD] 85,tw "_law_part" 15 #[["_law_rule","_law_world","_law_points"],["_law_rule","_law_world","_law_points","_law_told","_law_k","_law_i"],cx] 90,tw "_law_turns" 16 #[[],[],fq] 97,tw "_law_figure" 17 #[["_law_rule","_law_three"],["_law_rule","_law_three"],db] 102,tw "_law_backs" 18 #[["_law_flow_here","_law_many"],["_law_flow_here","_law_many","_law_menu"],dP] 109,tw "_law_rule_of" 19 #[["_law_flow_here","_law_marks","_law_backs_here","_law_barred"],["_law_flow_here","_law_marks","_law_backs_here","_law_barred","_law_names_here","_law_ways"],cF] 114,tw "_law_free_three" 20 #[["_law_flow_here","_law_marks","_law_ways"],["_law_flow_here","_law_marks","_law_ways","_law_told","_law_k"],bE] 119,tw "_law_sizes" 21 #[["_law_flow_here"],["_law_flow_here","_law_menu"],dQ] 126,tw "_law_any_rule" 22 #[["_law_flow_here"],["_law_flow_here","_law_marks","_law_ways","_law_rule","_law_barred","_law_k"],b7] 133,tw "_law_laying_kind" 23 #[["_law_flow_here"],["_law_flow_here","_law_menu"],bv] 140,tw "_law_breaks" 24 #[["_law_backs_here","_law_must","_law_to_one","_law_to_two","_law_between_here"],["_law_backs_here","_law_must","_law_to_one","_law_to_two","_law_between_here","_law_to","_law_pair","_law_x","_law_y","_law_z"],dc] 147,tw "_law_numbered" 25 #[["_law_flow_here","_law_backs_here","_law_must"],["_law_flow_here","_law_backs_here","_law_must","_law_many","_law_menu","_law_some","_law_numbers","_law_told","_law_k","_law_other","_law_u","_law_v"],aU] 152,tw "_law_laying_rule" 26 #[["_law_flow_here"],["_law_flow_here","_law_form","_law_backs_here","_law_must","_law_most","_law_marks","_law_rule","_law_barred","_law_many","_law_at","_law_one","_law_two","_law_between_here","_law_some","_law_first"],bw] 159,tw "_law_rising" 27 #[["_law_marks"],["_law_marks","_law_told","_law_i","_law_j"],de] 164,tw "_law_free_rule" 28 #[["_law_flow_here"],["_law_flow_here","_law_marks","_law_ways","_law_rule","_law_k","_law_own","_law_free","_law_barred","_law_three"],bP] 169,tw "_law_one_way_rule" 29 #[["_law_flow_here"],["_law_flow_here","_law_marks","_law_barred"],bn] 174,tw "_law_any_world" 30 #[["_law_flow_here","_law_rule","_law_many"],["_law_flow_here","_law_rule","_law_many","_law_told","_law_k","_law_mark"],bp] 179,tw "_law_alike" 31 #[["_law_found","_law_due_here"],["_law_found","_law_due_here"],bz] 184,tw "_law_digits" 32 #[["_law_many","_law_size"],["_law_many","_law_size","_law_told","_law_k"],bF] 189,tw "_law_worlds" 33 #[["_law_rule","_law_size"],["_law_rule","_law_size","_law_told","_law_k","_law_points","_law_mark"],cf] 194,tw "_law_figures" 34 #[["_law_rule"],["_law_rule"],cH] 199,tw "_law_full_rule" 35 #[["_law_flow_here"],["_law_flow_here","_law_form","_law_marks","_law_many","_law_rule"],bQ] 204,tw "_law_drawn_points" 36 #[["_law_flow_here","_law_many","_law_size"],["_law_flow_here","_law_many","_law_size","_law_left","_law_told"],aV] 211,tw "_law_other_rule" 37 #[["_law_rule"],["_law_rule","_law_backs_here"],bh] 216,tw "_law_all_pairs" 38 #[["_law_rule","_law_one","_law_other"],["_law_rule","_law_one","_law_other","_law_told","_law_point","_law_pairs","_law_fellow","_law_longer","_law_mine","_law_theirs"],aY] 221,tw "_law_due" 39 #[["_law_rule","_law_one","_law_other"],["_law_rule","_law_one","_law_other","_law_told","_law_most"],ey] 226,tw "law" 40 Bl 233]
abbrev i7:Hr (HY×Df):=TL.map λp=>(p.1,p.2.2.1)
abbrev GX:Hr (HY×HB):=TL.map λp=>(p.1,p.2.2.1.ps.length)
abbrev AI:Hr HY:=["range","len","list","tuple","int","set","sorted","isinstance","bool","str","all","min","max"]
abbrev Du:Md:=#[GX,AI]
abbrev BD (x:HY)(st:KO)(df:Df):Prop:=∀(kV doc pm:Hu) (an:HA HD) (cdv ct:Hu) (us:Hr Hu),us.length=df.ps.length->bindArgs (Ke x x (c7 st) (bM st) (aM st) .none kV doc pm an cdv ct) #[us,[]]=pure (df.ps.zip us)
def Hh {us:Hr Hu}(h:us.length=0):us=[]:=match us,h with|[],_=>rfl
def Hi {us:Hr Hu}(h:us.length=1):∃a,us=[a]:=match us,h with|[a],_=>#[a,rfl]
def Hj {us:Hr Hu}(h:us.length=2):∃a b,us=[a,b]:=match us,h with|[a,b],_=>#[a,b,rfl]
def Hk {us:Hr Hu}(h:us.length=3):∃a b c,us=[a,b,c]:=match us,h with|[a,b,c],_=>#[a,b,c,rfl]
def Hl {us:Hr Hu}(h:us.length=4):∃a b c d,us=[a,b,c,d]:=match us,h with|[a,b,c,d],_=>#[a,b,c,d,rfl]
def Hm {us:Hr Hu}(h:us.length=5):∃a b c d e,us=[a,b,c,d,e]:=match us,h with|[a,b,c,d,e],_=>#[a,b,c,d,e,rfl]
def Hn {us:Hr Hu}(h:us.length=6):∃a b c d e f,us=[a,b,c,d,e,f]:=match us,h with|[a,b,c,d,e,f],_=>#[a,b,c,d,e,f,rfl]
abbrev DG (p:Tw):Prop:=Et Du (lI p.2.1) p.2.2.1/\FnScope p.2.2.1.N p.2.2.1.ps (aM (lI p.2.1))/\BD p.1 (lI p.2.1) p.2.2.1
def gc {α:Type}{F:α->Prop}{p:α}{L:Hr α}(a:F p)(b:∀q∈L,F q):∀q∈p::L,F q:=List.forall_mem_cons.mpr #[a,b]
def gn {α:Type}{F:α->Prop}:∀q∈([]:Hr α),F q:=λ_ h=>nomatch h
def Ho {p:Tw}(a:rZ (cS 20 (wX Du (lI p.2.1) p.2.2.1.N)) (bM (lI p.2.1))=ba p.2.2.1.body)(b:FnScope p.2.2.1.N p.2.2.1.ps (aM (lI p.2.1)))(c:BD p.1 (lI p.2.1) p.2.2.1):DG p:=#[a,b,c]
set_option maxHeartbeats 0 in
def Bm:∀p∈TL,DG p:=by
 unfold TL
 repeat refine gc (Ho (by kernel_rfl) #[rfl,rfl,rfl,by decide +kernel,rfl,by decide +kernel,by decide +kernel] λ_ _ _ _ _ _ us h=>by
  first
   | (obtain⟨a,rfl⟩:=Hi h; rfl)
   | (obtain⟨a,b,rfl⟩:=Hj h; rfl)
   | (obtain⟨a,b,c,rfl⟩:=Hk h; rfl)
   | (obtain⟨a,b,c,d,rfl⟩:=Hl h; rfl)
   | (obtain⟨a,b,c,d,e,rfl⟩:=Hm h; rfl)
   | (obtain⟨a,b,c,d,e,f,rfl⟩:=Hn h; rfl)
   | (obtain rfl:=Hh h; rfl)) ?_
 exact gn
def Fb {f:HY}{m n:HB}{b:Ss}(h:((i7.lookup f).map λd=>(d.ps.length,d.N.length,d.body))=ba (m,n,b)):Is i7 f m n b:=by
 rw[Hy]at h;obtain⟨d,h1,h2⟩:=h;rw[Ql,Ql]at h2;exact#[d,h1,h2.1,h2.2.1,h2.2.2]
set_option maxHeartbeats 0 in
def Fc:Lw19 i7:=by
 repeat' first
  | exact Fb (by kernel_rfl)
  | constructor
def kw:∀(L:Hr Tw) (x:HY) (n:HB),(L.map λp=>(p.1,p.2.2.1.ps.length)).lookup x=ba n->∃p∈L,p.1=x/\p.2.2.1.ps.length=n/\(L.map λp=>(p.1,p.2.2.1)).lookup x=ba p.2.2.1
 | [],x,n,h=>by cases h
 | p::L,x,n,h=>by
  rw[IZ,JQ]at h;rw[IZ,JQ];cases e:x==p.1 with
  | true=>
   rw[e]at h;cases h;exact#[p,Jm ..,(eq_of_beq e).symm,rfl,rfl]
  | false=>
   rw[e]at h;obtain⟨q,h1,h2,h3,h4⟩:=kw L x n h;exact#[q,Ji _ h1,h2,h3,h4]
section
variable{P:Iw}{w:IE}{K:HG}{mg:HY->HA Hu}{base:IJ}
abbrev yf (K:HG)(mg:HY->HA Hu)(x:HY)(st:KO)(df:Df):Prop:=∃(f:HD) (fd:Ks),Fun K x x st f fd/\mg x=ba (.ref f)/\JC K (.ref f)=true/\Binds K fd df.ps []
def Dl {h:IJ}{x:HY}{st:KO}{df:Df}{f:HD}{oc:Hu}{od an:HA HD}{osl:Ik (HA Hu)}{kV doc pm cdv ct:Hu}(X:K.In h)(G:h.Ns mainGlobals mg)
  (b:BD x st df)
  (a:Lu K mainGlobals x=ba (ba (.ref f))) (l:K.lookup f=ba #[oc,od,.func (Ke x x (c7 st) (bM st) (aM st) .none kV doc pm an cdv ct),osl]) (c:KR K cdv x=true) (k:JC K (.ref f)=true):yf K mg x st df:=
 have F:=u8 (st:=st) l c k
 #[f,_,F,Qm X G a,k,F.binds b]
def yg {fuel:HB}(hb:MdOk w K mg Du)(D:∀p∈TL,yf K mg p.1 (lI p.2.1) p.2.2.1):∀d,AV P w K mg base Du i7 fuel d
 | 0=>λf n h=>by
  obtain⟨p,h1,rfl,h2,h3⟩:=kw TL f n h;obtain⟨fa,fd,F,m,kp,b⟩:=D p h1;refine#[fa,fd,p.2.2.1.ps,#[λvs H Q E z=>?_,λA outer s H args us vs Q E hr he hbd hv z=>?_],m,kp,b]
  all_goals
   obtain⟨_,_,_,_,_,_,_,_,z,_⟩:=z;cases z
 | d+1=>λf n h=>by
  obtain⟨p,h1,rfl,h2,h3⟩:=kw TL f n h;obtain⟨g1,g2,_⟩:=Bm p h1;obtain⟨fa,fd,F,m,kp,b⟩:=D p h1;refine#[fa,fd,p.2.2.1.ps,?_,m,kp,b];rw[<- h2];exact AW F g2 h3 g1 hb (yg hb D d)
def Fd {h:IJ}(X:K.In h)(G:h.Ns mainGlobals mg)(z:∀y∈AI,Lu K mainGlobals y=ba gV):MdOk w K mg Du:=#[λy hy=>PySem.W.mg_none_of X G (z y hy)]
end
def Dm {l:Nr}{w:IE}{K:HG}{h:IJ}{mg:HY->HA Hu}{fa f:HD}(X:K.In h)(G:h.Ns mainGlobals mg)(hfa:mg "law" = ba (.ref fa))(hb:MdOk w K mg Du)(D:∀p∈TL,yf K mg p.1 (lI p.2.1) p.2.2.1)
  {oc:Hu} {od an:HA HD} {osl:Ik (HA Hu)} {kV doc pm cdv ct:Hu} (a:Lu K mainGlobals "law" = ba (ba (.ref f))) (l':K.lookup f=ba #[oc,od,.func (Ke "law" "law" (c7 (lI 40)) (bM (lI 40)) (aM (lI 40)) .none kV doc pm an cdv ct),osl]) (c:KR K cdv "law" = true) (k:JC K (.ref f)=true) :
  ∃fd:Ks,(∀(s:Hw) (v:Hu),OE s fd #[[v],[]] [("_law_script",v)])/\∀base:IJ,K.In base->base.Ns mainGlobals mg->FnOk l.prog w K mg base uD 11 fa fd ["_law_script"] (v8 w K 1 (ah i7 100 11 "law")):=by
 have e:=hfa.symm.trans (Qm X G a);cases e;have F:=u8 (st:=lI 40) l' c k;exact#[Ke "law" "law" (c7 (lI 40)) (bM (lI 40)) (aM (lI 40)) .none kV doc pm an cdv ct,λs v=>.of_eq rfl,λbase _ _=>AW (df:=Bl) F #[rfl,rfl,rfl,by decide +kernel,rfl,by decide +kernel,by decide +kernel] (by rfl) (by rfl) hb (yg hb D 10)]
def GY {l:Nr}{q:Iw}{loose:Hr HY}{XP:(HY->HA Hu)->IJ->Prop}{YP:IE->IJ->Prop}{d:DefRec}{K:Oo->HG}(hn:l.most=ba 63)(hdf:d.params.defaults=[])
  (hY:∀(w:IE) (h:IJ),YP w h->(K w.params).In h)
  (F:∀(w:IE) (mg:HY->HA Hu) (fa:HD) (h:IJ),(K w.params).In h->h.Ns mainGlobals mg->mg d.name=ba (.ref fa)->
   ∃fd:Ks,(∀(s:Hw) (u:Hu),OE s fd #[[u],[]] [("_law_script",u)])/\∀base:IJ,(K w.params).In base->base.Ns mainGlobals mg->FnOk l.prog w (K w.params) mg base uD 11 fa fd ["_law_script"] (v8 w (K w.params) 1 (ah i7 100 11 "law"))) :
  P9 q loose XP YP l.row.toRowW d [] (λf vs=>PK f vs):=
 L2.yN (n:=63) (k:=11) (x:="_law_script") (CX:=λ_=>uD) (sp:=λw=>v8 w (K w.params) 1 (ah i7 100 11 "law")) hn #v[] hdf #[rfl,#v[],#v[]] hY F
  (λw H a ns hl hO hS=>CF (ye (defs:=i7) (fuel:=100) (d:=0) #v[] Fc) hO hS) λ_ _ _ _ _ z=>z
end Mi
open PySem PySem.W PyProof.Rows L2
set_option maxHeartbeats 0
namespace Mi
section
abbrev pw:Iw:=L9
abbrev ge (P:Oo)(n:HY)(t:HB)(v:Hu):Kj:=#[PyData.keyHash P n,.str n t,v]
abbrev kd (a:HB)(es:Hr Kj)(n:HB):HD×JJ:=(a,#[.type "dict",gV,.dict es.toArray n,#[]])
abbrev kc (a:HB)(vs:Hr Hu):HD×JJ:=(a,#[.type "code",gV,.fields vs.toArray,#[]])
abbrev kf (a:HB)(st:KO)(n:HY)(pm cd:Hu):HD×JJ:=(a,#[.type "function",gV,.func (Ke n n (c7 st) (bM st) (aM st) .none .none .none pm gV cd .none),#[]])
abbrev GZ (i:HB):Hu:=if i<=1 then(.str "layworld.worlds" 187)else if i<=3 then(.str "layworld.parts" 199)else if i<=7 then(.str "layworld.likes" 207)else(.str "law_layworld_k19_what_two_have_in_common" 237)
abbrev kx (a:HB)(b:Il)(i:HB)(s:HY)(t:HB)(l p:HM)(m:HB)(R:HG):HG:=kc a [.str s t,.str s (t+1),.str "/claim/cut.py" (t+2),.int l 0,.int p 0,.int 0 0,.int 0 0,.int 3 0,.ref (if b then a - 5 else a - 3),.bool true,.int 181 0,.ref (if b then a - 4 else a - 2),.none,if b then .ref (a - 3)else .none,if b then .ref (a - 2)else .none,.ref (a - 1),.int m 0,.int l 0,.str "/claim/cut.py" (m+1)]::kf (a+1) (lI i) s (GZ i) (.ref a)::R
abbrev K0 (P:Oo):HG:=kd 3 [ge P "__name__" 165 (.str "law_layworld_k19_what_two_have_in_common" 237),ge P "__doc__" 166 .none,ge P "__package__" 167 .none,ge P "__loader__" 168 (.builtin "__main__.__loader__#opaque"),ge P "__spec__" 169 .none,ge P "__annotations__" 170 (.ref 6),ge P "__builtins__" 171 (.ref 4),ge P "__file__" 173 (.str "/claim/cut.py" 172),ge P "__cached__" 174 .none,ge P "way" 198 (.ref 21),ge P "point_over" 206 (.ref 26),ge P "in_common" 217 (.ref 33),ge P "best_behind" 230 (.ref 40),ge P "pairs_with" 236 (.ref 45),ge P "_law_flow" 245 (.ref 52),ge P "_law_pick" 255 (.ref 59),ge P "_law_letters" 261 (.ref 64),ge P "_law_name" 270 (.ref 71),ge P "_law_names" 283 (.ref 78),ge P "_law_between" 293 (.ref 85),ge P "_law_part" 299 (.ref 90),ge P "_law_turns" 305 (.ref 97),ge P "_law_figure" 311 (.ref 102),ge P "_law_backs" 320 (.ref 109),ge P "_law_rule_of" 326 (.ref 114),ge P "_law_free_three" 332 (.ref 119),ge P "_law_sizes" 340 (.ref 126),ge P "_law_any_rule" 352 (.ref 133),ge P "_law_laying_kind" 360 (.ref 140),ge P "_law_breaks" 376 (.ref 147),ge P "_law_numbered" 382 (.ref 152),ge P "_law_laying_rule" 403 (.ref 159),ge P "_law_rising" 409 (.ref 164),ge P "_law_free_rule" 415 (.ref 169),ge P "_law_one_way_rule" 421 (.ref 174),ge P "_law_any_world" 427 (.ref 179),ge P "_law_alike" 433 (.ref 184),ge P "_law_digits" 439 (.ref 189),ge P "_law_worlds" 445 (.ref 194),ge P "_law_figures" 451 (.ref 199),ge P "_law_full_rule" 457 (.ref 204),ge P "_law_drawn_points" 468 (.ref 211),ge P "_law_other_rule" 474 (.ref 216),ge P "_law_all_pairs" 480 (.ref 221),ge P "_law_due" 486 (.ref 226),ge P "law" 500 (.ref 233)] 46::(kx 20 true 1 "way" 189 2 4 196
 (kx 25 false 3 "point_over" 201 7 4 204
 (kx 32 true 5 "in_common" 209 10 3 215
 (kx 39 true 6 "best_behind" 218 12 4 228
 (kx 44 false 7 "pairs_with" 231 21 4 234
 (kx 51 true 9 "_law_flow" 239 27 1 243
 (kx 58 true 10 "_law_pick" 246 29 2 253
 (kx 63 false 11 "_law_letters" 256 44 2 259
 (kx 70 true 12 "_law_name" 262 46 2 268
 (kx 77 true 13 "_law_names" 271 54 2 281
 (kx 84 true 14 "_law_between" 284 67 4 291
 (kx 89 false 15 "_law_part" 294 71 3 297
 (kx 96 true 16 "_law_turns" 300 77 0 303
 (kx 101 false 17 "_law_figure" 306 79 2 309
 (kx 108 true 18 "_law_backs" 312 81 2 318
 (kx 113 false 19 "_law_rule_of" 321 84 4 324
 (kx 118 false 20 "_law_free_three" 327 88 3 330
 (kx 125 true 21 "_law_sizes" 333 93 1 338
 (kx 132 true 22 "_law_any_rule" 341 96 1 350
 (kx 139 true 23 "_law_laying_kind" 353 103 1 358
 (kx 146 true 24 "_law_breaks" 361 112 5 374
 (kx 151 false 25 "_law_numbered" 377 120 3 380
 (kx 158 true 26 "_law_laying_rule" 383 135 1 401
 (kx 163 false 27 "_law_rising" 404 155 1 407
 (kx 168 false 28 "_law_free_rule" 410 161 1 413
 (kx 173 false 29 "_law_one_way_rule" 416 174 1 419
 (kx 178 false 30 "_law_any_world" 422 178 3 425
 (kx 183 false 31 "_law_alike" 428 184 2 431
 (kx 188 false 32 "_law_digits" 434 196 2 437
 (kx 193 false 33 "_law_worlds" 440 201 2 443
 (kx 198 false 34 "_law_figures" 446 209 1 449
 (kx 203 false 35 "_law_full_rule" 452 211 1 455
 (kx 210 true 36 "_law_drawn_points" 458 220 3 466
 (kx 215 false 37 "_law_other_rule" 469 226 1 472
 (kx 220 false 38 "_law_all_pairs" 475 231 3 478
 (kx 225 false 39 "_law_due" 481 242 3 484
 (kx 232 true 40 "law" 487 246 1 498 [])))))))))))))))))))))))))))))))))))))
abbrev G8:Hr HB:=[3,20,21,25,26,32,33,39,40,44,45,51,52,58,59,63,64,70,71,77,78,84,85,89,90,96,97,101,102,108,109,113,114,118,119,125,126,132,133,139,140,146,147,151,152,158,159,163,164,168,169,173,174,178,179,183,184,188,189,193,194,198,199,203,204,210,211,215,216,220,221,225,226,232,233]
abbrev vq:Iw:={ pw with main:={ pw.main with body:=[lI 40] } }
abbrev lo:Hr HY:=[("way" : HY),("point_over" : HY),("in_common" : HY),("best_behind" : HY),("pairs_with" : HY),("_law_flow" : HY),("_law_pick" : HY),("_law_letters" : HY),("_law_name" : HY),("_law_names" : HY),("_law_between" : HY),("_law_part" : HY),("_law_turns" : HY),("_law_figure" : HY),("_law_backs" : HY),("_law_rule_of" : HY),("_law_free_three" : HY),("_law_sizes" : HY),("_law_any_rule" : HY),("_law_laying_kind" : HY),("_law_breaks" : HY),("_law_numbered" : HY),("_law_laying_rule" : HY),("_law_rising" : HY),("_law_free_rule" : HY),("_law_one_way_rule" : HY),("_law_any_world" : HY),("_law_alike" : HY),("_law_digits" : HY),("_law_worlds" : HY),("_law_figures" : HY),("_law_full_rule" : HY),("_law_drawn_points" : HY),("_law_other_rule" : HY),("_law_all_pairs" : HY),("_law_due" : HY)]
abbrev EL (K:HG)(p:Tw):Prop:=Lu K mainGlobals p.1=ba (ba (.ref p.2.2.2))/\K.lookup p.2.2.2=ba (kf p.2.2.2 (lI p.2.1) p.1 (GZ p.2.1) (.ref (p.2.2.2 - 1))).2/\KR K (.ref (p.2.2.2 - 1)) p.1=true/\JC K (.ref p.2.2.2)=true
def Hq {K:HG}{p:Tw}(e:Lu K mainGlobals p.1=ba (ba (.ref p.2.2.2)))(l:K.lookup p.2.2.2=ba (kf p.2.2.2 (lI p.2.1) p.1 (GZ p.2.1) (.ref (p.2.2.2 - 1))).2)(c:KR K (.ref (p.2.2.2 - 1)) p.1=true)(k:JC K (.ref p.2.2.2)=true):EL K p:=#[e,l,c,k]
def Fe (P:Oo):∀p∈TL,EL (K0 P) p:=by
 unfold TL
 repeat refine gc (Hq (by kernel_rfl) (by kernel_rfl) (by kernel_rfl) (by kernel_rfl)) ?_
 exact gn
def Ff (P:Oo):∀y∈AI,Lu (K0 P) mainGlobals y=ba gV:=by
 unfold AI
 repeat refine gc (F:=λy=>Lu (K0 P) mainGlobals y=ba gV) (by kernel_rfl) ?_
 exact gn
def eK:∀P,G8=(K0 P).map (·.1):=λ_=>by kernel_rfl
abbrev hk:PySem.W.Hook:=PySem.W.kHook K0 G8 eK
def hl:PySem.W.LeftO pw vq lo (λs=>QC vq [] s&&Qn [] s) hk.obs hk.val 2358:=λw=>by kernel_rfl
def s0:PySem.Challenge.rw_layworld_k19_what_two_have_in_common.row.wellSaid=true:=by kernel_rfl
end
end Mi
end ZZ.Lean
open ZZ.Lean
theorem PySem.Challenge.cw_layworld_k19_what_two_have_in_common_holds : PySem.Challenge.rw_layworld_k19_what_two_have_in_common.Holds := by
 w_on
 refine PySem.W.holds_law (IR (IR (IR (IR (IR (IR (IR (IR (IR (IR (IR (IR (IR (IR (IR (IR (IR (IR (Mi.s0) (by kernel_rfl)) (by kernel_rfl)) (by kernel_rfl)) (by kernel_rfl)) (by kernel_rfl)) (by kernel_rfl)) (by kernel_rfl)) (by kernel_rfl)) (by kernel_rfl)) (by kernel_rfl)) (by kernel_rfl)) (by kernel_rfl)) (by kernel_rfl)) (by kernel_rfl)) (by kernel_rfl)) (by kernel_rfl)) (by kernel_rfl)) (by kernel_rfl)) (λsaid=>?_)
 refine PySem.W.holds_open (q:=Mi.vq) (loose:=Mi.lo) (Xt:=λs=>QC Mi.vq [] s&&Qn [] s) (XP:=PySem.W.XL Mi.vq []) (Yf:=Mi.hk.obs) (Ya:=Mi.hk.val) (YP:=Mi.hk.says) (N:=2358) Mi.hl Mi.hk.of Mi.hk.keeps (λs e=>PySem.W.xl_of s (NX.mp e).1) Rn (by rfl) (by rfl) (by rfl) (λs e=>PySem.W.recFacts_of (NX.mp e).2) (by rfl) said (by decide +kernel) #[rfl,rfl,rfl,rfl,rfl,by decide +kernel] ?hw ?hc
 case hw=>w_witness2
 case hc=>
 refine Mi.GY (l:=Ma) (K:=Mi.K0) rfl rfl (λw h Yq=>PySem.W.kIn_of Yq) ?F
 case F=>
  intro w mg fa h KX G hmg;exact Mi.Dm KX G hmg (Mi.Fd KX G (Mi.Ff w.params)) (λp hp=>let ⟨e,l,c,k⟩:=Mi.Fe w.params p hp; Mi.Dl KX G (Mi.Bm p hp).2.2 e l c k)
   (f:=233) (oc:=.type "function") (od:=gV) (an:=gV) (osl:=#[]) (kV:=.none) (doc:=.none) (pm:=(.str "law_layworld_k19_what_two_have_in_common" 237)) (cdv:=.ref 232) (ct:=.none) (by kernel_rfl) (by kernel_rfl) (by kernel_rfl) (by kernel_rfl)
