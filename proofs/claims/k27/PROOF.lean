import PyProof.Rows.All
import Wide.All
import OpenK.AllK
import Wide.FinOn
import Lean
import PyProof.EqAt
import PyProof.EqKinds
import PyProof.TupleCall
import KE.KDictList
import PyProof.SetKind
import PyProof.IsRules
import KE.KSortTup
import PyProof.ZipIter
import PyProof.Draws
import PyProof.EnumMake
import PyProof.WalksEnum
import PySem.Challenge.RW_layworld_k27_rules_that_lay
noncomputable section
open Option renaming some->gV,none->td
set_option hygiene false
local macro_rules|`(abbrev $i:declId $s:optDeclSig $v:declVal)=>`(noncomputable def $i:declId $s:optDeclSig $v:declVal)|`(def $i:declId $b* :$t $v:declVal)=>`(theorem $i:declId $b* :$t $v:declVal)|`(tactic|omega)=>`(tactic|first|lia|omega (config:={}))|`(tactic|left)=>`(tactic|dsimp only[wS,wE,wA,wV,wG,List.set])|`(tactic|nofun)=>`(tactic|refine aG λK hK=>?_)
local macro_rules|`(#v[])=>`((by decide))|`(#v[$x:term])=>`(.cons $x .nil)|`(#v[$x:term,$y:term,*])=>`(.cons $x #v[$y,*])
local macro_rules|`(#[$x:term])=>`(⟨$x⟩)|`(#[$x:term,$y:term,*])=>`(⟨$x,$y,*⟩)
local macro_rules|`(∅)=>`((by omega))
open _root_ renaming List->Ja,Nat->Jg,Option->Ji,Int->Jk,if_pos->JK,Bool->JL,decide_eq_true_eq->JP,if_neg->JU,decide_eq_false->JX,of_decide_eq_true->J8,decide_eq_true->Kf,Array->Kh,beq_self_eq_true->Kr,False->KA,String->KL,if_false->LU,if_true->LV,or_false->LX,DecidableEq->Mo,of_decide_eq_false->ML,beq_eq_false_iff_ne->M6,decide_eq_false_iff_not->NU,forall_congr'->OW,bne_self_eq_false->PF,True->Qp,not_or->Rj,and_true->Rz,dif_pos->RT
open List renaming length_map->Jb,length_append->Je,getElem?_map->Jl,mem_of_getElem?->Jq,set->Jr,mem_range->Jt,getElem?_eq_getElem->Ju,mem_singleton->Jv,range->Jw,mem_map->Jy,getElem?_eq_some_iff->Jz,zipWith->JA,all_eq_true->JB,getD_eq_getElem?_getD->JD,size_toArray->JE,map_append->JI,mem_append->JN,mem_append_right->JO,length_take->JQ,mem_cons->JR,length_range->JS,length_singleton->JT,take_add_one->JV,getElem?_append_left->JZ,length_cons->J2,take_length->J5,getElem?_append_right->J9,mem_flatMap->Kb,replicate->Ke,getElem_mem->Kg,all_cons->Ki,map_congr_left->Kk,mem_cons_of_mem->Ko,not_mem_nil->Ks,append_nil->Ky,mem_append_left->Kz,map_cons->KD,mem_filter->KG,flatMap_cons->KH,length_zipWith->KJ,mem_cons_self->KM,range_succ->KQ,lookup_cons->KS,map_map->KU,eq_nil_of_length_eq_zero->KY,length_filter_le->K4,nodup_cons->K6,getElem?_set->Ld,replicate_succ->Lf,length_nil->Lg,getElem?_eq_none_iff->Li,getElem_inj->Lj,any_eq_true->Lm,filter_append->Ln,length_dropLast->Lv,append_assoc->Lw,find?_cons->Lz,getElem?_range->LA,flatMap_append->LB,idxOf_lt_length_of_mem->LH,find?_eq_none->LL,findIdx?_eq_some_iff_getElem->LN,flatten_cons->LW,any_cons->LZ,length_pos_iff->L7,length_drop->L9,zip_cons_cons->Mb,map_take->Mh,getElem?_eq_none->Mj,take_append_drop->Mk,nodup_append->Mm,pairwise_map->Mn,mem_of_mem_take->Mt,mem_iff_getElem->Mu,ext_getElem->Mv,filterMap_cons->Mz,getElem?_take_of_lt->MC,mem_eraseDups->MM,length_eq_zero_iff->MO,take_of_length_le->MU,getElem_take->MV,isEmpty_iff->M1,dropLast_concat_getLast->M5,getElem_of_mem->M8,nodup_iff_pairwise_ne->Nn,getElem_idxOf->No,findSome?_eq_none_iff->Np,exists_mem_of_ne_nil->Nv,getLastD_eq_getLast?->Nw,getLast?_eq_getElem?->Nx,all_eq_false->NA,ext_getElem?->NB,filter_congr->NC,filter_cons_of_pos->NW,filter_cons_of_neg->NX,perm_middle->NY,getElem?_set_self->NZ,length_pos_of_mem->N7,drop_of_length_le->N8,filter_eq_nil_iff->N9,getElem?_dropLast->Oa,of_mem_zip->Oc,nil_append->Od,forIn_cons->Of,find?_some->Ol,length_replicate->On,getElem?_set_ne->Ou,nodup_nil->OA,take_zero->OC,dropLast_concat->OE,length_eraseIdx->OF,eraseDups_cons->OP,mem_filterMap->O3,getElem?_take->Pe,ne_nil_of_mem->Pf,take_sublist->Po,map_nil->Pw,zip_nil_left->Px,any_eq_false->PL,range'_succ->P1,any_toArray->P2,cons_ne_nil->P6,nodup_range->P7,flatMap_nil->P8,cons_append->P9,filter_cons->Qa,length_set->Qg,foldr_cons->Qj,take_left'->Qm,foldl->Qw,forIn_nil->QH,drop_zero->QJ,any_map->Rk,map_set->Rl,length->Rr,range'->Rx,Nodup->RO,map->R6
open PySem renaming wpAny_bind->Jc,Value->Jd,Shared->Jh,Addr->Jn,wpAny_pure->Js,Str->JG,Expr->JM,Program->J0,Around->J7,World->Kc,Heap->Kl,wpAny_newObj_type->Km,sizeLine_eq->Kq,wpAny_callSpecial?_slot->Kx,wpAny_call_entry->KI,wpAny_holding->KP,wpAny_truthy_bool->KW,Obj->KZ,codeAny_builtin->K9,NameKind->Lb,wpAny_mono->Lc,FuncData->Lr,wpAny_field->Ls,wpAny_typeNameOfWhole_keyiter->Lu,DictEntry->Lx,Spec->Ly,Pos->LJ,wpAny_passesOwn->LP,wpAny_typeNameOf_keyiter->L3,Stmt->L4,mem_of_lookup->L5,plainId_quiet->Mg,Scope->Ml,wpAny_seqItems->Ms,wpAny_loadPart'->MH,wpAny_Call_Name_kw->MJ,wpAny_dictEntries->MT,call_meets->MZ,wpAny_standAt->M2,wpAny_letGo->M3,wpAny_typeOf->M9,IsPart->Ni,wpAny_setField->Nk,wpAny_tryCatch->Nl,Paired->ND,wpAny_attempt->NH,wpAny_comprehension_free->NK,noFill_tuple_add->NP,wpAny_forIn_list->NR,wpAny_isInstance->NS,codeAny_mono->N1,Builtin->N3,ItemsOf->N5,wpAny_execs_nil->Ob,wpAny_dictEpoch->Og,wpAny_updateSeq->Oh,wpAny_isOneOf_keyiter->Oq,GenState->Ot,wpAny_of_eq->Ow,wpAny_pyIter_keyiter->Ox,wpAny_runValue->Oz,PassesOwn->OJ,rangeSize_one->OR,seq_tuple_add->OS,wpAny_newList->OV,wpAny_rule->O1,wpAny_load->O2,wpAny_List_spliced->O4,Params->O7,wpAny_pyIter_tuple->Pb,Env->Pi,wpAny_assign_Name->Pj,Operator->Pl,BindsTo->Pn,concat_meets->Pp,wpAny_sequenceKey->Pq,seqIndex_neg->Pr,list_append->Ps,wpAny_pyIter_list->PC,wpAny_pyIter_enum->PH,wpAny_pyHash_int->PP,wpAny_pyHash_str->PQ,Result->PU,CmpOp->Qb,seqIndex_of->Qc,wpAny_mkInt->Qd,Keyword->Qn,wpAny_Name->Qq,wpAny_bindName->Qr,typeIs_int->Qv,fitsIndex_both->Qx,call->Qz,SetTable->QA,wpAny_fieldsOf->QD,isSubtype_stop->QE,wpAny_newTuple->QG,intBits_le_64->QQ,evalPart_none->QS,call_list_seq->QU,wpAny_handled->Q1,small_one->Rc,call_range_1->Rg,Sem->Rp,IsRangeIter->Rq,wpAny_throw->Ry,BoolOp->RM,IsEnum->RN,Model->RQ,IsRange->RV,Drawn->R4,Tok->Sb
open Option renaming map_eq_some_iff->Jf,map_some->J4,isSome_iff_exists->Kn,getD_some->NV,getD_none->PY,toList->Q8
open Bool renaming and_eq_true->Jj,false_ne_true->JF,false_eq_true->KF,eq_iff_iff->KR,or_eq_true->K7,eq_false_iff->Le,true_and->LI,not_eq_true'->LY,and_eq_false_iff->MW,false_or->NG,and_eq_true_iff->OG,and_true->OT,not_true->OU,not_not->PM,or_false->QT
open PySem.Heap renaming get?_push_of_some->Jm,get?_push_size->JH,lt_size->JJ,get?_update_other->Kw,get?_update_self->LM,SameBut->LS,get?_update_ne->MB,ExtBut->Ov,size_update->P4,size_push->QI
open Nat renaming le_refl->Jo,lt_of_lt_of_le->JW,le_trans->JY,ne_of_lt->J1,lt_irrefl->KC,lt_succ_self->Lk,lt_trans->Lp,zero_le->Lq,min_self->LF,ne_of_gt->Ma,sub_self->Mc,lt_or_gt_of_ne->Mf,le_succ->Mr,le_of_lt->MQ,le_of_ble_eq_true->MX,succ_mul->Na,succ_le_succ->NQ,lt_of_succ_lt_succ->N4,mul_le_mul_right->OB,pow_le_pow_right->OD,pow_le_pow_left->OQ,add_sub_cancel->O8,lt_of_le_of_lt->Pd,sub_zero->Py,lt_or_ge->Pz,min_le_right->PX,min_eq_right->P5,not_lt_zero->Qi,min_eq_left->Ql,not_lt->QF,mul_le_mul->QK,add_assoc->QY,add_comm->Rh,mul_comm->Ri,ble->Sd
open Int renaming natCast_nonneg->Jp,toNat_natCast->JC,emod_lt_of_pos->Ll,emod_nonneg->LR,toNat_of_nonneg->L6,zero_add->Nc,ediv_nonneg->Qk
open PySem.W renaming Frag->Jx,look_both->Kd,keepIn->Kv,fnOf->Lo,kia_one->LQ,codeIn->L8,nsIn->Mw,callWith_K->Nh,methodObj->Ny,cellsFrom_some->N2,OpenLaw->Oe,kat_nil->Oj,KdlSrc->Oy,kas_sort->P3,WalkO->QV,Looks->Q7,mg_of->Ra,recOk->Rb,xlAt->Rn
open Option.some renaming injEq->J3,inj->Ku
open Array renaming length_toList->J6,getElem?_toList->K1,getElem?_eq_some_iff->LK,getElem?_eq_getElem->My,perm_iff_toList_perm->Nm,append_assoc->OZ,forIn_toList->O9,toList->Rf,getD->RL
open PySem.Value renaming ref->Kj,none->Kt,type->Mp,bool->Nd,int->NN,str->NO
open PySem.Obj renaming mapSeq->KN,data_mapFields->MK,isFreed_of_fields->Os,cls_mapFields->PB,mapFields->QZ
open PySem.Around renaming under_plainId->KO
open PySem.Builtin.Tuple renaming tupleExact->K5,tupleItemsOf->Mq,tupleHashOf->Nq,tupleCompareSizes->PN,tupleIsExact->QC
open ForInStep renaming yield->K8
open PySem.Builtin.Range renaming rangeSize->La,small->M7
open PyProof.Rows renaming slot_tuple_getitem->Lh,callWith_type1->LC,subscriptTail_builtinR->MS,assignInOrder_cons->Ng,AllBare->Nz,listUpdate_at->NJ,SortKind->NT,get?_update_seq->Oi,entry_tuple_getitem->OM,lt_int->ON,args_tuple_getitem->O5,IsTup->Ph,assignInOrder_nil->Pk,listItems_at->PD,callWith_builtin1->PV,seqEpoch_at->Qe,IntsAre->Qo,slicePart_none->Qs,Subscript_->Qt,item_listR->Qu,tupleItemsOf_->QR
open PySem.Str renaming ofString->LD
open PySem.Builtin.List renaming listExtendWith->LG,listTooLong->L1,listFitsIndex->Qy
open PySem.Builtin.Slice renaming slicePlaces->LO,sliceAdjust->Mx,sliceApplied->Nj,slicePartIndex->Qf,sliceFields->QL
open PySem.Heap.SameBut renaming update->MA,refl->RW
open PySem.F renaming args_tuple_add_2->MD,entry_tuple_add->MN,plainAttrs_list->MP,slot_tuple_add->MR,slot_tuple_index->NF,slot_dict_get->Oo
open PySem.Builtin.SmallTypes renaming ownedTupleIsFree->ME,nextOf->Nu,ownedTupleHandOut->OO
open PySem.NameKind renaming free->MF,cell->R8
open Prod.mk renaming injEq->MG
open PySem.SeqAt renaming EqAt->MY,notIn_listAt->O6,in_tupleAt->PZ,in_listAt->Qh
open True renaming intro->M0
open PySem.Builtin.Dict_items renaming ownsTuple->M4
open PySem.Builtin.Builtins renaming bindParams->Nb
open PySem.Calls renaming Name_function_global->Nf,call_function_entry->Nt,Constant_str->O0
open Classical renaming byContradiction->Nr,propDecidable->Re,not_not->RX
open PySem.Paired renaming length->NE
open PySem.Challenge renaming pw_layworld_k27_rules_that_lay->NL,rw_layworld_k27_rules_that_lay->NM
open PySem.Env renaming kindOf->N6
open List.cons renaming injEq->Om,inj->R9
open PySem.Builtin.Dict renaming showsAll->Op,dictSlotNone->QN,pendingCount->QP
open Sum renaming inl->OH,inr->OI
open PySem.Expr renaming Name->OL
open PySem.SeqAt.EqAt renaming int_str->OX,str_int->OY,none_bool->Rt,bool_none->Ru,bool_bool->Rv,none_int->RA,none_str->RB,bool_int->RC,bool_str->RD,int_none->RE,int_bool->RF,str_none->RG,str_bool->RH,int_int->RJ,str_str->RK,same->R1
open PUnit renaming unit->Pa
open PySem.ScopeKind renaming function->Pc
open PySem.AutoListH renaming list___mul___list_int_3->Pg
open PySem.AutoSeq1 renaming list_extend_list_list_0->Pu,sub_tuple_tuple->QX
open Iff renaming rfl->PJ
open Function renaming comp_def->PK,comp->Q9
open PyProof.Rows.IsTup renaming new->PR
open PySem.IsL renaming update->P0
open PySem.Builtin.Str renaming tooLong->QM
open List.Perm renaming append_right->Rm,append_left->Ro,swap->R5,map->R7
open Prod renaming ext->Rs
open PySem.MeetsSeq renaming list_pop_at->Rw
open PySem.Heap.IsSliceOf renaming new->RI
open List.Nodup renaming sublist->RP
open List.Pairwise renaming nil->RS
open PySem.Flow renaming next->RY
open PySem.W.Looks renaming ld->RZ
open PySem.W.XL renaming keeps->R0
open PySem.PassesOwn renaming never->R3
open PySem.Txt renaming mul->Sc
set_option genSizeOf false
namespace ZZ.Lean
set_option Elab.async false
set_option linter.all false
set_option maxRecDepth 100000
namespace L2
open PySem PySem.Spec PyProof.Rows
noncomputable abbrev lM:=Sum Jk JG
abbrev BU:lM->Jd->JL
 | .inl k,v=>Value.isInt k v
 | .inr x,v=>Value.isStrOf x v
abbrev G1 (w:Kc):lM->Jk
 | .inl k=>hashInt k
 | .inr x=>hashStr w x
def bA:∀ {k:lM} {v:Jd},BU k v=true->(∃i t,k=OH i/\v=NN i t)\/(∃x t,k=OI x/\v=NO x t)
 | .inl i,v,h=>by
  obtain⟨t,e⟩:=Value.isInt_shape (k:=i) (v:=v) h;exact .inl #[i,t,rfl,e]
 | .inr x,v,h=>by
  obtain⟨t,e⟩:=Value.isStrOf_shape (x:=x) (v:=v) h;exact .inr #[x,t,rfl,e]
def Cq (a b:Jk):decide ((OH a:lM)=OH b)=(a==b):=by
 by_cases e:a=b
 ·subst e; simp
 ·have h:¬ (OH a:lM)=OH b:=λq=>e (Sum.inl.inj q)
  rw[JX h];exact(M6.mpr e).symm
def Cr (a b:JG):decide ((OI a:lM)=OI b)=decide (a=b):=by
 by_cases e:a=b
 ·subst e; simp
 ·have h:¬ (OI a:lM)=OI b:=λq=>e (Sum.inr.inj q)
  rw[JX h,JX e]
def Cs (a:Jk)(b:JG):decide ((OH a:lM)=OI b)=false:=JX (λq=>nomatch q)
def Ct (a:JG)(b:Jk):decide ((OI a:lM)=OH b)=false:=JX (λq=>nomatch q)
abbrev mW (prog:J0)(w:Kc):PySem.KeyKind prog w lM where
 is:=BU
 hash:=G1 w
 inj:=λv a b ha hb=>by
  rcases bA ha with⟨i,t,rfl,rfl⟩|⟨x,t,rfl,rfl⟩
  ·rcases bA hb with⟨j,u,rfl,e⟩|⟨y,u,rfl,e⟩
   ·injection e with e1 _; rw[e1]
   ·exact nomatch e
  ·rcases bA hb with⟨j,u,rfl,e⟩|⟨y,u,rfl,e⟩
   ·exact nomatch e
   ·injection e with e1 _; rw[e1]
 byValue:=λk v h=>by
  rcases bA h with⟨i,t,rfl,rfl⟩|⟨x,t,rfl,rfl⟩ <;> rfl
 pyHash:=λhv h=>by
  rcases bA hv with⟨i,t,rfl,rfl⟩|⟨x,t,rfl,rfl⟩
  ·exact PP h
  ·exact PQ h
 eqBool:=λhu hv h=>by
  rcases bA hu with⟨i,t,rfl,rfl⟩|⟨x,t,rfl,rfl⟩
  ·rcases bA hv with⟨j,u,rfl,rfl⟩|⟨y,u,rfl,rfl⟩
   ·rw[Cq]at h; exact wpAny_eqBool_int h
   ·rw[Cs]at h; exact OX i t y u _ _ _ _ h
  ·rcases bA hv with⟨j,u,rfl,rfl⟩|⟨y,u,rfl,rfl⟩
   ·rw[Ct]at h; exact OY x t j u _ _ _ _ h
   ·rw[Cr]at h; exact wpAny_eqBool_str h
 «strs»:=λk x t v h=>by
  rcases bA h with⟨i,u,rfl,e⟩|⟨y,u,rfl,e⟩
  ·exact nomatch e
  ·injection e with e1 _
   subst e1;cases v <;> rfl
inductive V where
 | non|bl (b:JL)|int (i:Jk)|str (x:JG)|byt (b:Kh UInt8)|flt (b:UInt64)|ref (a:Jn)|ty (n:KL)
 deriving Mo
abbrev RelV:V->Jd->Prop
 | .non,u=>u=Kt
 | .bl b,u=>u=Nd b
 | .int i,u=>∃t,u=NN i t
 | .str x,u=>∃t,u=NO x t
 | .byt b,u=>∃t,u=Value.bytes b t
 | .flt b,u=>∃t,u=Value.float b t
 | .ref a,u=>u=Kj a
 | .ty n,u=>u=Mp n
noncomputable abbrev Vals:Ja V->Ja Jd->Prop:=ND RelV
def Vals.length {xs:Ja V}{us:Ja Jd}(r:Vals xs us):xs.length=us.length:=NE r
def Vals.get:∀ {xs:Ja V} {us:Ja Jd} {i:Jg} {x:V},Vals xs us->xs[i]?=gV x->∃u,us[i]?=gV u/\RelV x u
 | _,_,_,_,.nil,e=>by simp at e
 | _,_,0,_,.cons r _,e=>by simp at e; subst e; exact#[_,rfl,r]
 | _,_,i+1,x,.cons _ t,e=>by
  obtain⟨u,h1,h2⟩:=Vals.get (i:=i) (x:=x) t (by simpa using e)
  exact#[u,by simpa using h1,h2]
def Vals.set {x:V}{u:Jd}(r:RelV x u):∀ {xs:Ja V} {us:Ja Jd} (i:Jg),Vals xs us->Vals (xs.set i x) (us.set i u)
 | _,_,_,.nil=>.nil
 | _,_,0,.cons _ t=>.cons r t
 | _,_,i+1,.cons q t=>.cons q (Vals.set r i t)
def Vals.append:∀ {xs ys:Ja V} {us ws:Ja Jd},Vals xs us->Vals ys ws->Vals (xs++ys) (us++ws)
 | _,_,_,_,.nil,s=>s
 | _,_,_,_,.cons r t,s=>.cons r (Vals.append t s)
def Vals.take:∀ {xs:Ja V} {us:Ja Jd} (n:Jg),Vals xs us->Vals (xs.take n) (us.take n)
 | _,_,0,_=>.nil
 | _,_,_+1,.nil=>.nil
 | _,_,n+1,.cons r t=>.cons r (Vals.take n t)
def Vals.drop:∀ {xs:Ja V} {us:Ja Jd} (n:Jg),Vals xs us->Vals (xs.drop n) (us.drop n)
 | _,_,0,r=>r
 | _,_,_+1,.nil=>.nil
 | _,_,n+1,.cons _ t=>Vals.drop n t
abbrev EG:Ji V->Ji Jd->Prop
 | some v,gV u=>RelV v u
 | none,td=>Qp
 | _,_=>KA
abbrev KV {κ:Type}:Ja (κ×V)->Ja (κ×Jd)->Prop:=ND λ(p:κ×V) (q:κ×Jd)=>p.1=q.1/\RelV p.2 q.2
abbrev kV:lM->V
 | .inl i=>.int i
 | .inr x=>.str x
inductive HO where
 | lst (xs:Ja V)
 | tup (xs:Ja V)
 | dK (U:Ja (lM×V))|dT (U:Ja (Ja lM×V))
 | set (S:Jk->JL) (n:Jg)
 | ins (C dx:Jn) (fs:Ja (JG×V))
 | own (x:Jn)
 | xd (fs:Ja (JG×V))
 | met (f x:Jn)
 | rng (lo hi:Jk)
 | frz (o:KZ) (u:HO)
 | tbl (ps:Kh Jd)
 | ext (φ:Kl->Prop)
noncomputable abbrev Hp:=Jn->Ji HO
abbrev bS (H:Hp)(a:Jn)(o:HO):Hp:=λb=>if b=a then gV o else H b
def be {H:Hp}{a:Jn}{o:HO}:bS H a o a=gV o:=by unfold bS; rw[JK rfl]
def aI {H:Hp}{a b:Jn}{o:HO}(h:b≠a):bS H a o b=H b:=by unfold bS; rw[JU h]
def dX {H:Hp}{a b:Jn}{o:HO}(h:H a=gV o)(h':H b=td):a≠b:=by
 intro e; subst e; rw[h]at h'; cases h'
section
variable (P:J0) (w:Kc)
abbrev NoD (h:Kl)(a:Jn):Prop:=∃o,h.get? a=gV o/\o.dict=td
def NoD.new (h:Kl)(its:Kh Jd)(n:Jg):NoD (h.push { cls:=.type "tuple",data:=.seq its n }) h.objs.size:=#[_,JH _ rfl,rfl]
abbrev ObjOk (H:Hp)(h:Kl)(a:Jn):HO->Prop
 | .lst xs=>xs.length<=sizeLine/\∃(its:Ja Jd) (n:Jg),Vals xs its/\h.get? a=gV { cls:=.type "list",data:=.seq its.toArray n }
 | .tup xs=>(xs.length<=sizeLine/\NoD h a)/\∃its:Ja Jd,Vals xs its/\Ph h a its.toArray
 | .dK U=>U.length<=sizeLine/\(a==sysModules)=false/\∃vs,KV U vs/\h.DictOf (mW P w) a vs
 | .dT U=>U.length<=sizeLine/\(a==sysModules)=false/\∃xs:Ja (Ja lM×Jn×Jd),
   ND (λ(p:Ja lM×V) (q:Ja lM×Jn×Jd)=>p.1=q.1/\H q.2.1=gV (.tup (p.1.map kV))/\RelV p.2 q.2.2) U xs/\
   ∃o es ep,h.get? a=gV o/\o.ExactDict/\o.data=.dict es ep/\es.toList=xs.map (entryOfKey (tupleKind (mW P w)))/\(xs.map (·.1)).Nodup
 | .set S n=>h.SetOf (intKind P w) a S n
 | .ins C dx fs=>H dx=gV (.own a)/\fs.length<=1000/\dx≠a/\h.get? a=gV (PySem.W.instObj C dx)/\
   ∃mA,h.Ns1 dx mA/\(∀f,EG (fs.lookup f) (mA f))/\PySem.Within mA (fs.map (·.1))
 | .own _=>∃o,h.get? a=gV o
 | .xd fs=>∃mA,h.Ns1 a mA/\∀f,EG (fs.lookup f) (mA f)
 | .rng lo hi=>∃t u v,h.get? a=gV { cls:=.type "range",data:=.fields [.int lo t,.int hi u,.int 1 v].toArray }
 | .frz o u=>h.get? a=gV o/\ObjOk H h a u
 | .tbl ps=>h.get? a=gV { cls:=.none,data:=.fields ps }
 | .met f x=>h.get? a=gV (Ny (.ref f) (.ref x))
 | .ext φ=>φ h/\(∃o,h.get? a=gV o)/\∀h1 h2:Kl,φ h1->(∀o,h1.get? a=gV o->h2.get? a=gV o)->φ h2
abbrev HOk (H:Hp)(h:Kl):Prop:=∀a o,H a=gV o->ObjOk P w H h a o
end
section
variable{P:J0}{w:Kc}{H H':Hp}{h h':Kl}{a:Jn}{o:HO}
def ObjOk.lt (x:ObjOk P w H h a o):a < h.objs.size:=by
 cases o with
 | lst xs=>obtain⟨_,_,_,_,e⟩:=x; exact JJ e
 | tup xs=>obtain⟨_,_,_,p⟩:=x; exact p.lt
 | dK U=>obtain⟨_,_,_,_,o,_,_,e,_⟩:=x; exact JJ e
 | dT U=>obtain⟨_,_,_,_,o,_,_,e,_⟩:=x; exact JJ e
 | set S n=>obtain⟨o,_,_,_,e,_⟩:=x; exact JJ e
 | ins C dx fs=>obtain⟨_,_,_,e,_⟩:=x; exact JJ e
 | own y=>obtain⟨_,e⟩:=x; exact JJ e
 | xd fs=>obtain⟨_,⟨_,_,_,e,_⟩,_⟩:=x; exact JJ e
 | rng lo hi=>obtain⟨_,_,_,e⟩:=x; exact JJ e
 | frz ob u=>obtain⟨e,_⟩:=x; exact JJ e
 | tbl ps=>exact JJ (show h.get? a=gV _ from x)
 | met f y=>exact JJ (show h.get? a=gV _ from x)
 | ext φ=>obtain⟨_,⟨_,e⟩,_⟩:=x; exact JJ e
def Paired.mapP {α β:Type}{F G:α->β->Prop}:∀ {l₁:Ja α} {l₂:Ja β},ND F l₁ l₂->(∀a b,F a b->G a b)->ND G l₁ l₂
 | _,_,.nil,_=>.nil
 | _,_,.cons r t,f=>.cons (f _ _ r) (Paired.mapP t f)
def ObjOk.stay (x:ObjOk P w H h a o)(k:∀b u,(b=a\/H b=gV (.own a))->h.get? b=gV u->h'.get? b=gV u)
  (ho:∀b,H b=gV (.own a)->H' b=gV (.own a)) (ht:∀b xs,H b=gV (.tup xs)->H' b=gV (.tup xs)):ObjOk P w H' h' a o:=by
 induction o with
 | lst xs=>obtain⟨z,its,n,r,e⟩:=x; exact#[z,its,n,r,k _ _ (.inl rfl) e]
 | tup xs=>obtain⟨⟨z,ob',e',d⟩,its,r,ob,e,c⟩:=x; exact#[#[z,ob',k _ _ (.inl rfl) e',d],its,r,ob,k _ _ (.inl rfl) e,c]
 | dK U=>obtain⟨z,y,vs,r,ob,es,ep,e,c⟩:=x; exact#[z,y,vs,r,ob,es,ep,k _ _ (.inl rfl) e,c]
 | dT U=>
  obtain⟨z,y,xs,r,ob,es,ep,e,c⟩:=x;exact#[z,y,xs,Paired.mapP r λp q z=>#[z.1,ht _ _ z.2.1,z.2.2],ob,es,ep,k _ _ (.inl rfl) e,c]
 | set S n=>obtain⟨ob,es,ep,t,e,c⟩:=x; exact#[ob,es,ep,t,k _ _ (.inl rfl) e,c]
 | ins C dx fs=>
  obtain⟨d,z,ne,e,mA,⟨od,es,ep,e2,c⟩,r⟩:=x;exact#[ho _ d,z,ne,k _ _ (.inl rfl) e,mA,#[od,es,ep,k _ _ (.inr d) e2,c],r]
 | own y=>obtain⟨ob,e⟩:=x; exact#[ob,k _ _ (.inl rfl) e]
 | xd fs=>obtain⟨mA,⟨od,es,ep,e,c⟩,r⟩:=x; exact#[mA,#[od,es,ep,k _ _ (.inl rfl) e,c],r]
 | rng lo hi=>obtain⟨t,u,v,e⟩:=x; exact#[t,u,v,k _ _ (.inl rfl) e]
 | frz ob u ih=>obtain⟨e,q⟩:=x; exact#[k _ _ (.inl rfl) e,ih q]
 | tbl ps=>
  have e:h.get? a=gV { cls:=.none,data:=.fields ps }:=x;show h'.get? a=gV { cls:=.none,data:=.fields ps };exact k a _ (.inl rfl) e
 | met f y=>
  have e:h.get? a=gV (Ny (.ref f) (.ref y)):=x;show h'.get? a=gV (Ny (.ref f) (.ref y));exact k a _ (.inl rfl) e
 | ext φ=>obtain⟨p,⟨o,e⟩,st⟩:=x; exact#[st _ _ p λo q=>k _ _ (.inl rfl) q,#[o,k _ _ (.inl rfl) e],st]
def HOk.lt (x:HOk P w H h)(e:H a=gV o):a < h.objs.size:=(x a o e).lt
def HOk.fresh (x:HOk P w H h)(e:h.objs.size<=a):H a=td:=by
 cases q:H a with
 | none=>rfl
 | some u=>exact absurd (JW (x.lt q) e) (KC _)
def HOk.kept (x:HOk P w H h)(k:∀b u,h.get? b=gV u->h'.get? b=gV u):HOk P w H h':=λa o e=>
 (x a o e).stay (λb u _ q=>k b u q) (λ_ q=>q) λ_ _ q=>q
def HOk.laid (x:HOk P w H h)(k:∀b u,h.get? b=gV u->h'.get? b=gV u)(hp:h.objs.size<=a)(new:ObjOk P w (bS H a o) h' a o):HOk P w (bS H a o) h':=λb u e=>by
 have hn:=x.fresh hp
 by_cases hb:b=a
 ·subst hb; rw[be]at e; cases e; exact new
 ·rw[aI hb]at e;exact(x b u e).stay (λc v _ q=>k c v q) (λc q=>by rw[aI (dX q hn)]; exact q) λc xs q=>by rw[aI (dX q hn)]; exact q
end
abbrev Rd (H:Hp)(a:Jn)(u:HO):Prop:=H a=gV u\/∃o,H a=gV (.frz o u)
def Rd.ok {P:J0}{w:Kc}{H:Hp}{h:Kl}{a:Jn}{u:HO}(r:Rd H a u)(x:HOk P w H h):ObjOk P w H h a u:=by
 rcases r with r|⟨o,r⟩
 ·exact x a u r
 ·obtain⟨_,q⟩:=x a _ r;exact q
abbrev EH:Ji HO->Prop
 | some (.lst _)=>Qp
 | some (.dK _)=>Qp
 | some (.dT _)=>Qp
 | some (.set _ _)=>Qp
 | some (.ins _ _ _)=>Qp
 | some (.ext _)=>Qp
 | _=>KA
section
variable{P:J0}{w:Kc}{H:Hp}{h h':Kl}{x e:Jn}{o':HO}
def HOk.write (ok:HOk P w H h)(mu:EH (H x))(he:e=x\/H e=gV (.own x))(k:∀b u,b≠e->h.get? b=gV u->h'.get? b=gV u)(heo:∃u,h'.get? e=gV u)
  (new:ObjOk P w (bS H x o') h' x o'):HOk P w (bS H x o') h':=λb u q=>by
 have nown:∀c y,H c=gV (.own y)->c≠x:=λc y r z=>by subst z; rw[r]at mu; exact mu
 have ntup:∀c xs,H c=gV (.tup xs)->c≠x:=λc xs r z=>by subst z; rw[r]at mu; exact mu
 by_cases hb:b=x
 ·subst hb; rw[be]at q; cases q; exact new
 ·rw[aI hb]at q
  by_cases hbe:b=e
  ·have q':H b=gV (.own x):=by
    rcases he with z|z
    ·exact absurd (hbe.trans z) hb
    ·rw[hbe]; exact z
   rw[q]at q'; cases q'
   obtain⟨v,hv⟩:=heo;exact#[v,by rw[hbe]; exact hv]
  ·refine(ok b u q).stay (λc v hc r=>k c v ?_ r) (λc r=>by rw[aI (nown c b r)]; exact r) λc xs r=>by rw[aI (ntup c xs r)]; exact r
   rcases hc with rfl|hc
   ·exact hbe
   ·rintro rfl;rcases he with z|z
    ·exact nown c b hc z
    ·rw[hc]at z; cases z; exact hb rfl
end
structure Un (fs ex:Ja Jn)(H H':Hp)(h h':Kl):Prop where
 keep:∀b o,h.get? b=gV o->H b=td->b∉fs->b∉ex->h'.get? b=gV o
 slot:∀b o,h.get? b=gV o->H b=td->b∈fs->b∉ex->∃sl,h'.get? b=gV { o with slots:=sl }
 free:∀b o,h.get? b=gV o->H b=td->b∉ex->H' b=td
 there:∀b o,h.get? b=gV o->b∉ex->∃o',h'.get? b=gV o'
 tups:∀b xs,H b=gV (.tup xs)->H' b=gV (.tup xs)
 frzs:∀b o u,H b=gV (.frz o u)->H' b=gV (.frz o u)
 tbls:∀b ps,H b=gV (.tbl ps)->∃more,H' b=gV (.tbl (ps++more))
section
variable{fs fs' ex ex':Ja Jn}{H H1 H2:Hp}{h h1 h2 h':Kl}{a x e:Jn}{o:HO}
def Un.any (u:Un fs ex H H1 h h1){b:Jn}{ob:KZ}(q:h.get? b=gV ob)(n:H b=td)(hx:b∉ex):∃sl,h1.get? b=gV { ob with slots:=sl }:=by
 by_cases hb:b∈fs
 ·exact u.slot b ob q n hb hx
 ·exact#[ob.slots,u.keep b ob q n hb hx]
def Un.trans (a:Un fs ex H H1 h h1)(b:Un fs ex H1 H2 h1 h2):Un fs ex H H2 h h2 where
 keep:=λc ob q n hc hx=>b.keep c ob (a.keep c ob q n hc hx) (a.free c ob q n hx) hc hx
 slot:=λc ob q n hc hx=>by
  obtain⟨sl,e1⟩:=a.slot c ob q n hc hx;obtain⟨sl',e2⟩:=b.slot c _ e1 (a.free c ob q n hx) hc hx;exact#[sl',e2]
 free:=λc ob q n hx=>by
  obtain⟨o',e1⟩:=a.there c ob q hx;exact b.free c o' e1 (a.free c ob q n hx) hx
 there:=λc ob q hx=>by
  obtain⟨o',e1⟩:=a.there c ob q hx;exact b.there c o' e1 hx
 tups:=λc xs q=>b.tups c xs (a.tups c xs q)
 frzs:=λc ob xs q=>b.frzs c ob xs (a.frzs c ob xs q)
 tbls:=λc ps q=>by
  obtain⟨m1,e1⟩:=a.tbls c ps q;obtain⟨m2,e2⟩:=b.tbls c _ e1;exact#[m1++m2,by rw[e2,OZ]]
def Un.kept (k:∀b u,h.get? b=gV u->h'.get? b=gV u):Un fs ex H H h h':=
 #[λb ob q _ _ _=>k b ob q,λb ob q _ _ _=>#[ob.slots,k b ob q],λ_ _ _ n _=>n,λb ob q _=>#[ob,k b ob q],λ_ _ q=>q,λ_ _ _ q=>q,λ_ ps q=>#[#[],by rw[q]; simp]]
def Un.refl:Un fs ex H H h h:=Un.kept λ_ _ q=>q
def Un.laid (k:∀b u,h.get? b=gV u->h'.get? b=gV u)(hp:h.objs.size<=a)(hn:H a=td):Un fs ex H (bS H a o) h h' where
 keep:=λb u q _ _ _=>k b u q
 slot:=λb u q _ _ _=>#[u.slots,k b u q]
 free:=λb u q n _=>by rw[aI (J1 (JW (JJ q) hp))]; exact n
 there:=λb u q _=>#[u,k b u q]
 tups:=λb xs q=>by rw[aI (dX q hn)]; exact q
 frzs:=λb u xs q=>by rw[aI (dX q hn)]; exact q
 tbls:=λb ps q=>#[#[],by rw[aI (dX q hn),q]; simp]
def Un.write (mu:EH (H x))(he:e=x\/H e=gV (.own x))(k:∀b u,b≠e->h.get? b=gV u->h'.get? b=gV u)(heo:∃u,h'.get? e=gV u):Un fs ex H (bS H x o) h h':=by
 have hx:∀b,H b=td->b≠x:=λb n z=>by subst z; rw[n]at mu; exact mu
 have hb:∀b,H b=td->b≠e:=λb n z=>by
  subst z;rcases he with r|r
  ·exact hx b n r
  ·rw[n]at r; cases r
 have hm:∀b u,H b=gV u->¬ EH (gV u)->b≠x:=λb u q nm z=>by subst z; rw[q]at mu; exact nm mu
 refine#[λb u q n _ _=>k b u (hb b n) q,λb u q n _ _=>#[u.slots,k b u (hb b n) q],λb u q n _=>by rw[aI (hx b n)]; exact n,λb u q _=>?_,
  λb xs q=>by rw[aI (hm b _ q λz=>z)]; exact q,λb u xs q=>by rw[aI (hm b _ q λz=>z)]; exact q,λb ps q=>#[#[],by rw[aI (hm b _ q λz=>z),q]; simp]]
 by_cases hbe:b=e
 ·subst hbe; exact heo
 ·exact#[u,k b u hbe q]
end
abbrev GP (h:Kl)(H:Hp):Ja Jn:=(Jw h.objs.size).filter λa=>(H a).isSome
abbrev mX (h:Kl)(H:Hp):Kl:=PySem.W.hideAll h (GP h H)
def tN (h:Kl)(H:Hp):(mX h H).objs.size=h.objs.size:=PySem.W.hideAll_size _ _
def vC {h:Kl}{H:Hp}{b:Jn}{o:KZ}(e:h.get? b=gV o)(n:H b=td):(mX h H).get? b=gV o:=
 PySem.W.hideAll_get _ e λhm=>by
  have q:(H b).isSome=true:=(KG.mp hm).2;rw[n]at q; simp at q
def zy {h:Kl}{H:Hp}{b:Jn}{o:KZ}(e:(mX h H).get? b=gV o):h.get? b=gV o/\H b=td:=by
 have e':h.get? b=gV o:=PySem.W.of_hideAll (GP h H) e;refine#[e',?_];cases q:H b with
 | none=>rfl
 | some x=>
  have hm:b∈GP h H:=KG.mpr #[Jt.mpr (JJ e'),by simp[q]]
  have z:(mX h H).get? b=td:=PySem.W.hideAll_none (GP h H) hm;rw[z]at e; cases e
abbrev zz (g h:Kl)(L:Jn):Ja (Jn×KZ):=(Jw h.objs.size).filterMap λa=>if a=L\/(g.get? a).isSome=true then td else(h.get? a).map λo=>(a,o)
abbrev cz (g h:Kl)(L d:Jn):Ja (Jn×KZ):=(zz g h L).filter λp=>decide (p.1≠d)
structure Mod (K:Jx)(mg:JG->Ji Jd)(base:Kl):Prop where
 kin:K.In base
 glob:base.Ns mainGlobals mg
 blt:∃mb,base.Ns builtinsNs mb/\∀x:JG,x≠"__name__"->mb x=bootBuiltins x
 nolimit:base.NoLimit
structure Cx where
 prog:J0
 w:Kc
 K:Jx
 mg:JG->Ji Jd
 base:Kl
 A:J7
 N:Ja JG
 s₀:Jh
 H₀:Hp
 env:Pi
 outer:Ja Pi
 stack:Ja Pi
 ex:Ja Jn
 fn:JG->JL
 calm:JL
 pn:Ja (Jn×KZ)
 xe:Jd->Jh->Prop
abbrev qm (l:Ja Pi):Ja Jn:=l.filterMap (·.frame)
noncomputable abbrev Cx.fs (X:Cx):Ja Jn:=qm X.outer
abbrev G2 (sc:Ml)(x:JG):Prop:=sc.names.lookup x=gV .local\/sc.names.lookup x=gV .cell\/sc.names.lookup x=gV .free
abbrev zA (sc:Ml)(x:JG):Prop:=sc.names.lookup x=gV .local\/sc.names.lookup x=gV .cell
abbrev G3 (env:Pi)(h:Kl)(m:JG->Ji Jd)(x:JG)(u:Jd):Prop:=
 (env.kindOf x=gV .local/\m x=gV u)\/((env.kindOf x=gV .cell\/env.kindOf x=gV .free)/\∃c,env.cells.lookup x=gV c/\h.IsCell c (gV u))
structure Cx.Ok (X:Cx):Prop where
 mod:Mod X.K X.mg X.base
 kind:X.env.scope.kind=.function
 glob:X.env.globals=mainGlobals
 blt:X.env.builtins=builtinsNs
 above:X.s₀.heap.objs.size<=X.env.locals
 inj:∀x y c,X.env.cells.lookup x=gV c->X.env.cells.lookup y=gV c->x=y
 has:∀x,(X.env.kindOf x=gV .cell\/X.env.kindOf x=gV .free)->∃c,X.env.cells.lookup x=gV c
 cab:∀x c,X.fn x=true->X.env.cells.lookup x=gV c->X.s₀.heap.objs.size<=c
 hd:X.calm=true->X.A.handled=td
 frames:X.A.frames=gV X.stack
 stk:X.stack=X.outer\/(X.stack=X.env::X.outer/\X.env.frame=gV X.env.locals)
 exf:∀b∈X.ex,b≠X.env.locals/\∀x c,X.env.cells.lookup x=gV c->c≠b
 bs:∀b o,X.base.get? b=gV o->X.s₀.heap.get? b=gV o/\X.H₀ b=td
 bsz:X.base.objs.size<=X.s₀.heap.objs.size
 noex:∀b o,X.base.get? b=gV o->b∉X.ex
 exfs:∀b∈X.ex,b∉X.fs
 funs:X.s₀.heap.FunFrames X.base X.outer
 frf:∀b∈X.fs,X.H₀ b=td
structure Inv (X:Cx)(J:Ja (Jn×KZ))(Y:Ja (Ji V))(H:Hp)(s:Jh):Prop where
 ok:X.Ok
 os:s.os=X.s₀.os
 bare:Nz s.gens
 base:Un X.fs X.ex X.H₀ H X.s₀.heap s.heap
 loc:∃m,s.heap.Ns X.env.locals m/\∀(i:Jg) (x:JG) (v:V),X.N[i]?=gV x->Y[i]?=gV (gV v)->G2 X.env.scope x->∃u,RelV v u/\G3 X.env s.heap m x u
 cell:∀x c,X.env.cells.lookup x=gV c->∃v,s.heap.IsCell c v
 free:H X.env.locals=td
 freeC:∀x c,X.env.cells.lookup x=gV c->H c=td
 pin:∀p∈X.pn++J,s.heap.get? p.1=gV p.2/\H p.1=td/\p.1≠X.env.locals/\p.1∉X.fs/\∀v,p.2.data≠.cell v
 hok:HOk X.prog X.w H s.heap
 len:Y.length=X.N.length
section
variable{X:Cx}{J:Ja (Jn×KZ)}{Y:Ja (Ji V)}{H H':Hp}{s:Jh}{h':Kl}
def Cx.Ok.nofr (ok:X.Ok){b:Jn}{o:KZ}(e:X.base.get? b=gV o):b∉X.fs:=λhb=>by
 have:=(ok.funs.mem hb).1;rw[e]at this; cases this
def Inv.bs (I:Inv X J Y H s):∀b o,X.base.get? b=gV o->s.heap.get? b=gV o/\H b=td:=λb o e=>
 #[I.base.keep b o (I.ok.bs b o e).1 (I.ok.bs b o e).2 (I.ok.nofr e) (I.ok.noex b o e),I.base.free b o (I.ok.bs b o e).1 (I.ok.bs b o e).2 (I.ok.noex b o e)]
def Inv.bk (I:Inv X J Y H s):∀b o,X.base.get? b=gV o->s.heap.get? b=gV o:=λb o e=>(I.bs b o e).1
def Inv.mod (I:Inv X J Y H s):Mod X.K X.mg X.base:=I.ok.mod
def Inv.kIn (I:Inv X J Y H s):X.K.In s.heap:=I.ok.mod.kin.keeps I.bk
def Inv.lt (I:Inv X J Y H s):X.env.locals < s.heap.objs.size:=let ⟨_,hn,_⟩:=I.loc; hn.lt
def Inv.sz (I:Inv X J Y H s):X.s₀.heap.objs.size<=s.heap.objs.size:=JY I.ok.above (MQ I.lt)
def Inv.nofs (I:Inv X J Y H s){a:Jn}(h:s.heap.objs.size<=a):a∉X.fs:=λhb=>by
 obtain⟨_,o,ho,_⟩:=I.ok.funs.mem hb;exact absurd (JW (JJ ho) (JY I.sz h)) (KC _)
def Inv.cne (I:Inv X J Y H s):∀x c,X.env.cells.lookup x=gV c->c≠X.env.locals:=λx c e z=>by
 obtain⟨v,o,ho,hd⟩:=I.cell x c e;obtain⟨m,⟨o',es,ep,ho',hd',_⟩,_⟩:=I.loc;rw[z,ho']at ho; cases ho; rw[hd']at hd; cases hd
def Inv.funs (I:Inv X J Y H s):s.heap.FunFrames X.base X.outer:=by
 have all:∀(l:Ja Pi),(∀b∈qm l,b∈X.fs)->X.s₀.heap.FunFrames X.base l->s.heap.FunFrames X.base l:=by
  intro l
  induction l with
  | nil=>intro _ _; trivial
  | cons env r ih=>
   intro hs hl;obtain⟨hk,⟨L,o,hf,hn,ho,hd⟩,hr⟩:=hl;have hL:L∈X.fs:=hs L (by unfold qm; rw[Mz,hf]; exact KM)
   obtain⟨sl,e⟩:=I.base.slot L o ho (I.ok.frf L hL) hL λz=>I.ok.exfs L z hL
   exact#[hk,#[L,_,hf,hn,e,hd],ih (λb hb=>hs b (by unfold qm; rw[Mz,hf]; exact Ko _ hb)) hr]
 exact all X.outer (λ_ hb=>hb) I.ok.funs
def Inv.stack (I:Inv X J Y H s):s.heap.FunFrames X.base X.stack:=by
 rcases I.ok.stk with e|⟨e,hf⟩
 ·rw[e]; exact I.funs
 ·rw[e];obtain⟨m,hn,_⟩:=I.loc;refine .cons (by rw[I.ok.kind]; decide) hf hn ?_ I.funs
  exact Heap.get?_none_of_le (JY I.ok.bsz I.ok.above)
def Inv.stkSub (I:Inv X J Y H s):∀b∈qm X.stack,b∈X.env.locals::X.fs:=λb hb=>by
 rcases I.ok.stk with e|⟨e,hf⟩
 ·rw[e]at hb; exact Ko _ hb
 ·rw[e]at hb;unfold qm at hb;rw[Mz,hf]at hb;exact hb
def Inv.stkFree (I:Inv X J Y H s):∀b∈qm X.stack,H b=td:=λb hb=>by
 rcases JR.mp (I.stkSub b hb)with e|hb
 ·rw[e]; exact I.free
 ·obtain⟨_,o,ho,_⟩:=I.ok.funs.mem hb;exact I.base.free b o ho (I.ok.frf b hb) λz=>I.ok.exfs b z hb
def Inv.step {g':Kh Ot}{t':Jg}{d':R4}{ch:Ja Jn}(I:Inv X J Y H s)
  (hch:∀b∈ch,(b∈X.ex\/X.s₀.heap.objs.size<=b)/\b≠X.env.locals/\(∀x c,X.env.cells.lookup x=gV c->c≠b)/\∀p∈X.pn++J,p.1≠b)
  (keep:∀b o,b≠X.env.locals->b∉X.fs->b∉ch->s.heap.get? b=gV o->H b=td->h'.get? b=gV o)
  (slot:∀b o,b≠X.env.locals->b∈X.fs->b∉ch->s.heap.get? b=gV o->H b=td->∃sl,h'.get? b=gV { o with slots:=sl }) (free:∀b o,b∉ch->s.heap.get? b=gV o->H b=td->H' b=td)
  (there:∀b o,b∉ch->s.heap.get? b=gV o->∃o',h'.get? b=gV o')
  (tups:∀b xs,H b=gV (.tup xs)->H' b=gV (.tup xs)) (frzs:∀b o u,H b=gV (.frz o u)->H' b=gV (.frz o u)) (tbls:∀b ps,H b=gV (.tbl ps)->∃more,H' b=gV (.tbl (ps++more)))
  (ns:∀m,s.heap.Ns X.env.locals m->h'.Ns X.env.locals m) (hok:HOk X.prog X.w H' h') (hg:Nz g') :
  Inv X J Y H' { s with heap:=h',gens:=g',drawn:=d',toks:=t' }:=by
 have neL:∀b o,X.s₀.heap.get? b=gV o->b≠X.env.locals:=λb o e=>J1 (JW (JJ e) I.ok.above)
 have neC:∀b o,X.s₀.heap.get? b=gV o->b∉X.ex->b∉ch:=λb o e hx hb=>by
  rcases(hch b hb).1 with z|z
  ·exact hx z
  ·exact absurd (JW (JJ e) z) (KC _)
 have cellK:∀x c,X.env.cells.lookup x=gV c->∀v,s.heap.IsCell c v->h'.IsCell c v:=λx c e v #[o,ho,hd]=>by
  have nch:c∉ch:=λz=>(hch c z).2.2.1 x c e rfl
  by_cases hc:c∈X.fs
  ·obtain⟨sl,q⟩:=slot c o (I.cne x c e) hc nch ho (I.freeC x c e);exact#[_,q,hd]
  ·exact#[o,keep c o (I.cne x c e) hc nch ho (I.freeC x c e),hd]
 refine#[I.ok,I.os,hg,#[λb o e n hb hx=>?_,λb o e n hb hx=>?_,λb o e n hx=>?_,λb o e hx=>?_,λb xs e=>tups b xs (I.base.tups b xs e),λb o xs e=>frzs b o xs (I.base.frzs b o xs e),λb ps e=>?_],?_,λx c e=>?_,?_,λx c e=>?_,λp hp=>?_,hok,I.len]
 ·exact keep b o (neL b o e) hb (neC b o e hx) (I.base.keep b o e n hb hx) (I.base.free b o e n hx)
 ·obtain⟨sl,e1⟩:=I.base.slot b o e n hb hx;obtain⟨sl',e2⟩:=slot b _ (neL b o e) hb (neC b o e hx) e1 (I.base.free b o e n hx);exact#[sl',e2]
 ·obtain⟨o',e1⟩:=I.base.there b o e hx;exact free b o' (neC b o e hx) e1 (I.base.free b o e n hx)
 ·obtain⟨o',e1⟩:=I.base.there b o e hx;exact there b o' (neC b o e hx) e1
 ·obtain⟨m1,e1⟩:=I.base.tbls b ps e;obtain⟨m2,e2⟩:=tbls b _ e1;exact#[m1++m2,by rw[e2,OZ]]
 ·obtain⟨m,hn,hl⟩:=I.loc;refine#[m,ns m hn,λi x v e1 e2 e3=>?_]
  obtain⟨u,r,l⟩:=hl i x v e1 e2 e3;refine#[u,r,?_];rcases l with l|⟨k,c,e,z⟩
  ·exact .inl l
  ·exact .inr #[k,c,e,cellK x c e _ z]
 ·obtain⟨v,z⟩:=I.cell x c e;exact#[v,cellK x c e v z]
 ·obtain⟨m,⟨o,_,_,ho,_⟩,_⟩:=I.loc;exact free _ o (λz=>(hch _ z).2.1 rfl) ho I.free
 ·obtain⟨v,o,ho,hd⟩:=I.cell x c e;exact free c o (λz=>(hch c z).2.2.1 x c e rfl) ho (I.freeC x c e)
 ·obtain⟨e,n,ne,nf,d⟩:=I.pin p hp;have nch:p.1∉ch:=λz=>(hch p.1 z).2.2.2 p hp rfl
  exact#[keep p.1 p.2 ne nf nch e n,free p.1 p.2 nch e n,ne,nf,d]
def Inv.un {t':Jg}(I:Inv X J Y H s)(u:Un X.fs [] H H' s.heap h')(hok:HOk X.prog X.w H' h'):Inv X J Y H' { s with heap:=h',toks:=t' }:=by
 obtain⟨m,⟨o,es,ep,ho,r⟩,_⟩:=id I.loc;obtain⟨sl,hL⟩:=u.any ho I.free (by simp)
 exact I.step (g':=s.gens) (d':=s.drawn) (ch:=[]) (λ_ z=>nomatch z) (λb o _ hb _ e n=>u.keep b o e n hb (by simp)) (λb o _ hb _ e n=>u.slot b o e n hb (by simp)) (λb o _ e n=>u.free b o e n (by simp)) (λb o _ e=>u.there b o e (by simp)) u.tups u.frzs u.tbls (λm' hm=>by
  obtain⟨o',es',ep',ho',r'⟩:=hm;rw[ho]at ho'; cases ho'
  exact#[_,es',ep',hL,r']) hok I.bare
def Inv.call {g':Kh Ot}{t':Jg}{d':R4}{ch:Ja Jn}(I:Inv X J Y H s)(u:Un (qm X.stack) ch H H' s.heap h')(hok:HOk X.prog X.w H' h')(hg:Nz g')
  (hch:∀b∈ch,(b∈X.ex\/X.s₀.heap.objs.size<=b)/\b≠X.env.locals/\(∀x c,X.env.cells.lookup x=gV c->c≠b)/\∀p∈X.pn++J,p.1≠b) :
  Inv X J Y H' { s with heap:=h',gens:=g',drawn:=d',toks:=t' }:=by
 obtain⟨m,⟨o,es,ep,ho,r⟩,_⟩:=id I.loc;obtain⟨sl,hL⟩:=u.any ho I.free λz=>(hch _ z).2.1 rfl
 exact I.step (ch:=ch) hch (λb o hL hb hc e n=>u.keep b o e n (λz=>(JR.mp (I.stkSub b z)).elim hL hb) hc) (λb o _ _ hc e n=>u.any e n hc) (λb o hc e n=>u.free b o e n hc) (λb o hc e=>u.there b o e hc) u.tups u.frzs u.tbls (λm' hm=>by
  obtain⟨o',es',ep',ho',r'⟩:=hm;rw[ho]at ho'; cases ho'
  exact#[_,es',ep',hL,r']) hok hg
def Inv.turned {t':Jg}{it:Jn}(I:Inv X J Y H s)(k:∀b o,b≠it->s.heap.get? b=gV o->h'.get? b=gV o)(hn:H it=td)(hL:it≠X.env.locals)
  (h1:it∈X.ex\/X.s₀.heap.objs.size<=it) (h2:∀x c,X.env.cells.lookup x=gV c->c≠it) (h3:∀p∈X.pn++J,p.1≠it):Inv X J Y H { s with heap:=h',toks:=t' }:=by
 have nit:∀b u,H b=gV u->b≠it:=λb u e z=>by rw[z,hn]at e; cases e
 refine I.step (g':=s.gens) (d':=s.drawn) (ch:=[it]) (λb hb=>?_) (λb o _ _ hc e _=>k b o (λz=>hc (by simp[z])) e) (λb o _ _ hc e _=>#[o.slots,k b o (λz=>hc (by simp[z])) e]) (λ_ _ _ _ n=>n)
  (λb o hc e=>#[o,k b o (λz=>hc (by simp[z])) e]) (λ_ _ e=>e) (λ_ _ _ e=>e) (λb ps e=>#[#[],by rw[e]; simp]) (λm hm=>?_) (λb u e=>?_) I.bare
 ·have e:b=it:=by simpa using hb
  subst e;exact#[h1,hL,h2,h3]
 ·obtain⟨o,es,ep,ho,r⟩:=hm;exact#[o,es,ep,k _ o (Ne.symm hL) ho,r]
 ·refine(I.hok b u e).stay (λc v hc q=>k c v ?_ q) (λ_ q=>q) λ_ _ q=>q
  rcases hc with z|z
  ·rw[z]; exact nit b u e
  ·exact nit c _ z
def Inv.tok (I:Inv X J Y H s)(t:Jg):Inv X J Y H { s with toks:=t }:=I.un (h':=s.heap) (t':=t) Un.refl I.hok
def Inv.kept {t':Jg}(I:Inv X J Y H s)(k:∀b u,s.heap.get? b=gV u->h'.get? b=gV u):Inv X J Y H { s with heap:=h',toks:=t' }:=I.un (Un.kept k) (I.hok.kept k)
def Inv.laid {a:Jn}{o:HO}{t':Jg}(I:Inv X J Y H s)(k:∀b u,s.heap.get? b=gV u->h'.get? b=gV u)(hp:s.heap.objs.size<=a)(new:ObjOk X.prog X.w (bS H a o) h' a o) :
  Inv X J Y (bS H a o) { s with heap:=h',toks:=t' }:=I.un (Un.laid k hp (I.hok.fresh hp)) (I.hok.laid k hp new)
def Inv.write {x e:Jn}{o:HO}{t':Jg}(I:Inv X J Y H s)(mu:EH (H x))(he:e=x\/H e=gV (.own x))(k:∀b u,b≠e->s.heap.get? b=gV u->h'.get? b=gV u)(heo:∃u,h'.get? e=gV u)
  (new:ObjOk X.prog X.w (bS H x o) h' x o):Inv X J Y (bS H x o) { s with heap:=h',toks:=t' }:=I.un (Un.write mu he k heo) (I.hok.write mu he k heo new)
def Inv.pins_of {J':Ja (Jn×KZ)}(I:Inv X J Y H s)(h:∀p∈J',s.heap.get? p.1=gV p.2/\H p.1=td/\p.1≠X.env.locals/\p.1∉X.fs/\∀v,p.2.data≠.cell v):Inv X J' Y H s:=
 #[I.ok,I.os,I.bare,I.base,I.loc,I.cell,I.free,I.freeC,λp hp=>(JN.mp hp).elim (λz=>I.pin p (Kz _ z)) (h p),I.hok,I.len]
def oD {N:Ja JG}(hN:N.Nodup){i j:Jg}{x:JG}(a:N[i]?=gV x)(b:N[j]?=gV x):i=j:=by
 obtain⟨h1,e1⟩:=Jz.mp a;obtain⟨h2,e2⟩:=Jz.mp b;exact(Lj hN).mp (e1.trans e2.symm)
def tP {tx:RQ}{A:J7}{E:Jd->Jh->Prop}{i:Jg}{x:JG}{v:V}{u:Jd}{Q:Unit->Jh->Prop}(I:Inv X J Y H s)(hN:X.N.Nodup)(hi:X.N[i]?=gV x)(hx:zA X.env.scope x)(r:RelV v u)
  (h:∀s',Inv X J (Y.set i (gV v)) H s'->(∃a,LS a s.heap s'.heap/\(a=X.env.locals\/X.env.cells.lookup x=gV a))->Q () s') (hf:X.fn x=true\/X.env.scope.names.lookup x=gV .local):wpAny tx A (storeName X.env x u) Q E s:=by
 obtain⟨m,hn,hl⟩:=id I.loc;have hcls:(X.env.scope.kind==.class||(X.env.scope.kind==.module&&X.env.locals != X.env.globals))=false:=by rw[I.ok.kind]; rfl
 have hiσ:i < Y.length:=by rw[I.len]; exact(Jz.mp hi).1
 have cne:=I.cne;have tracked:∀ {a:Jn} {h':Kl},(∃o,s.heap.get? a=gV o/\H a=td)->LS a s.heap h'->HOk X.prog X.w H h':=λ{a h'} ha hs b ob e=>by
  obtain⟨_,_,hfree⟩:=ha;refine(I.hok b ob e).stay (λc w' hc q=>(hs.2 c ?_).trans q) (λ_ q=>q) λ_ _ q=>q
  rintro rfl;rcases hc with rfl|hc
  ·rw[hfree]at e; cases e
  ·rw[hfree]at hc; cases hc
 rcases hx with hk|hk
 ·refine wpAny_storeName_local hk hn (λh' hn' hs=>?_) hcls
  obtain⟨oL,_,_,hoL,_⟩:=id hn;refine h _ #[I.ok,I.os,I.bare,#[λb o e n hb hx=>?_,λb o e n hb hx=>?_,I.base.free,λb o e hx=>?_,I.base.tups,I.base.frzs,I.base.tbls],#[_,hn',λj y v' e1 e2 e3=>?_],λy c e=>?_,I.free,I.freeC,λp hp=>?_,tracked #[oL,hoL,I.free] hs,by simpa using I.len] #[_,hs,.inl rfl]
  ·exact(hs.2 b (J1 (JW (JJ e) I.ok.above))).trans (I.base.keep b o e n hb hx)
  ·obtain⟨sl,e1⟩:=I.base.slot b o e n hb hx;exact#[sl,(hs.2 b (J1 (JW (JJ e) I.ok.above))).trans e1]
  ·obtain⟨o',e1⟩:=I.base.there b o e hx;exact#[o',(hs.2 b (J1 (JW (JJ e) I.ok.above))).trans e1]
  ·by_cases hj:j=i
   ·subst hj;rw[hi]at e1; cases e1
    rw[NZ hiσ]at e2;cases e2;exact#[u,r,.inl #[hk,by simp]]
   ·rw[Ou (Ne.symm hj)]at e2;obtain⟨u',r',q⟩:=hl j y v' e1 e2 e3;refine#[u',r',?_];rcases q with⟨k,e⟩|⟨k,c,e,z⟩
    ·refine .inl #[k,?_];have:y≠x:=λe=>hj (oD hN e1 (e ▸ hi))
     simp[this,e]
    ·exact .inr #[k,c,e,z.sameBut hs (cne y c e)]
  ·obtain⟨w',z⟩:=I.cell y c e;exact#[w',z.sameBut hs (cne y c e)]
  ·obtain⟨e,n,ne,nf,d⟩:=I.pin p hp;exact#[(hs.2 p.1 ne).trans e,n,ne,nf,d]
 ·have hfn:X.fn x=true:=by
   rcases hf with z|z
   ·exact z
   ·rw[z]at hk; cases hk
  obtain⟨c,hc⟩:=I.ok.has x (.inl hk);obtain⟨w',z⟩:=I.cell x c hc;refine wpAny_storeName_cell I.ok.kind hk hc z (λh' hc' hs=>?_)
  obtain⟨oc,hoc,hocd⟩:=id z;refine h { s with heap:=h' } #[I.ok,I.os,I.bare,#[λb o e n hb hx=>?_,λb o e n hb hx=>?_,I.base.free,λb o e hx=>?_,I.base.tups,I.base.frzs,I.base.tbls],#[m,hn.sameBut hs (Ne.symm (cne x c hc)),λj y v' e1 e2 e3=>?_],λy c' e=>?_,I.free,I.freeC,λp hp=>?_,tracked #[oc,hoc,I.freeC x c hc] hs,by simpa using I.len] #[c,hs,.inr hc]
  ·exact(hs.2 b (J1 (JW (JJ e) (I.ok.cab x c hfn hc)))).trans (I.base.keep b o e n hb hx)
  ·obtain⟨sl,e1⟩:=I.base.slot b o e n hb hx;exact#[sl,(hs.2 b (J1 (JW (JJ e) (I.ok.cab x c hfn hc)))).trans e1]
  ·obtain⟨o',e1⟩:=I.base.there b o e hx;exact#[o',(hs.2 b (J1 (JW (JJ e) (I.ok.cab x c hfn hc)))).trans e1]
  ·by_cases hj:j=i
   ·subst hj;rw[hi]at e1; cases e1
    rw[NZ hiσ]at e2;cases e2;exact#[u,r,.inr #[.inl hk,c,hc,hc']]
   ·rw[Ou (Ne.symm hj)]at e2;obtain⟨u',r',q⟩:=hl j y v' e1 e2 e3;refine#[u',r',?_];rcases q with q|⟨k,c',e,z'⟩
    ·exact .inl q
    ·refine .inr #[k,c',e,z'.sameBut hs ?_];rintro rfl;exact hj (oD hN e1 (I.ok.inj _ _ _ e hc ▸ hi))
  ·by_cases hcc:c'=c
   ·subst hcc; exact#[_,hc']
   ·obtain⟨w2,z2⟩:=I.cell y c' e;exact#[w2,z2.sameBut hs hcc]
  ·obtain⟨e,n,ne,nf,d⟩:=I.pin p hp;refine#[(hs.2 p.1 ?_).trans e,n,ne,nf,d];intro q;rw[q,hoc]at e;have q':oc=p.2:=Ku e;exact d w' (by rw[<- q']; exact hocd)
def ii {tx:RQ}{A:J7}{E:Jd->Jh->Prop}{i:Jg}{x:JG}{v:V}{u:Jd}{Q:Unit->Jh->Prop}(I:Inv X J Y H s)(hN:X.N.Nodup)(hi:X.N[i]?=gV x)(hx:zA X.env.scope x)(r:RelV v u)
  (h:∀s',Inv X J (Y.set i (gV v)) H s'->Q () s') (hf:X.fn x=true\/X.env.scope.names.lookup x=gV .local):wpAny tx A (storeName X.env x u) Q E s:=
 tP I hN hi hx r (λs' I' _=>h s' I') hf
def Inv.call' {s':Jh}{ch:Ja Jn}(I:Inv X J Y H s)(ho:s'.os=s.os)(u:Un (qm X.stack) ch H H' s.heap s'.heap)(hok:HOk X.prog X.w H' s'.heap)(hg:Nz s'.gens)
  (hch:∀b∈ch,(b∈X.ex\/X.s₀.heap.objs.size<=b)/\b≠X.env.locals/\(∀x c,X.env.cells.lookup x=gV c->c≠b)/\∀p∈X.pn++J,p.1≠b):Inv X J Y H' s':=by
 obtain⟨h',g',d',t',o'⟩:=s';have e:o'=s.os:=ho;subst e;exact I.call (g':=g') (t':=t') (d':=d') u hok hg hch
end
noncomputable abbrev XK:=Jd->Ji Jn->Hp->Prop
noncomputable abbrev St:=Ja (Ji V)
noncomputable abbrev VK:=V->Hp->Prop
noncomputable abbrev TE:=St->Hp->VK->Prop
noncomputable abbrev TT:=St->Hp->(JL->Hp->Prop)->Prop
noncomputable abbrev TA:=St->Hp->(Ja V->Hp->Prop)->Prop
structure Ends where
 nx:St->Hp->Prop
 rt:VK
 bk:St->Hp->Prop:=λ_ _=>KA
 ct:St->Hp->Prop:=λ_ _=>KA
noncomputable abbrev TS:=Ends->St->Hp->Prop
abbrev EP (X:Cx)(J:Ja (Jn×KZ))(Y:St)(Q:VK)(u:Jd)(s':Jh):Prop:=∃v H',Inv X J Y H' s'/\RelV v u/\Q v H'
abbrev TP (X:Cx)(J:Ja (Jn×KZ))(Y:St)(Q:JL->Hp->Prop)(b:JL)(s':Jh):Prop:=∃H',Inv X J Y H' s'/\Q b H'
abbrev AP (X:Cx)(J:Ja (Jn×KZ))(Y:St)(Q:Ja V->Hp->Prop)(us:Ja Jd)(s':Jh):Prop:=∃vs H',Inv X J Y H' s'/\Vals vs us/\Q vs H'
abbrev SP (X:Cx)(J:Ja (Jn×KZ))(D:Ends)(f:Flow)(s':Jh):Prop:=
 match f with
 | .next=>∃Y' H',Inv X J Y' H' s'/\D.nx Y' H'
 | .brk=>∃Y' H',Inv X J Y' H' s'/\D.bk Y' H'
 | .cont=>∃Y' H',Inv X J Y' H' s'/\D.ct Y' H'
 | .ret u=>∃v Y' H',Inv X J Y' H' s'/\RelV v u/\D.rt v H'
abbrev PE (X:Cx)(e:JM)(t:TE):Prop:=
 ∀(J:Ja (Jn×KZ)) (s:Jh) (Y:St) (H:Hp) (Q:VK),Inv X J Y H s->t Y H Q->wpAny (model X.prog X.w) X.A (eval e X.env) (EP X J Y Q) X.xe s
abbrev PT (X:Cx)(e:JM)(t:TT):Prop:=
 ∀(J:Ja (Jn×KZ)) (s:Jh) (Y:St) (H:Hp) (Q:JL->Hp->Prop),Inv X J Y H s->t Y H Q->wpAny (model X.prog X.w) X.A (isTrue e X.env (eval e X.env)) (TP X J Y Q) X.xe s
abbrev PW (X:Cx)(e:JM)(t:TT):Prop:=
 ∀(whole:Rp Jd) (J:Ja (Jn×KZ)) (s:Jh) (Y:St) (H:Hp) (Q:JL->Hp->Prop),Inv X J Y H s->t Y H Q->wpAny (model X.prog X.w) X.A (isTrue e X.env whole) (TP X J Y Q) X.xe s
def PW.pt {X:Cx}{e:JM}{t:TT}(h:PW X e t):PT X e t:=h _
abbrev PA (X:Cx)(es:Ja JM)(t:TA):Prop:=
 ∀(pos:LJ) (J:Ja (Jn×KZ)) (s:Jh) (Y:St) (H:Hp) (Q:Ja V->Hp->Prop),Inv X J Y H s->t Y H Q->wpAny (model X.prog X.w) X.A (spliced (backTo pos (starEach es X.env))) (AP X J Y Q) X.xe s
abbrev PS (X:Cx)(st:L4)(t:TS):Prop:=
 ∀(J:Ja (Jn×KZ)) (s:Jh) (Y:St) (H:Hp) (D:Ends),Inv X J Y H s->t D Y H->wpAny (model X.prog X.w) X.A (exec st X.env) (SP X J D) X.xe s
abbrev PSs (X:Cx)(st:Ja L4)(t:TS):Prop:=
 ∀(J:Ja (Jn×KZ)) (s:Jh) (Y:St) (H:Hp) (D:Ends),Inv X J Y H s->t D Y H->wpAny (model X.prog X.w) X.A (execs st X.env) (SP X J D) X.xe s
def bj {α:Type}{t:Rp α}{Q Q':α->Jh->Prop}{tx:RQ}{A:J7}{E:Jd->Jh->Prop}{s:Jh}(h:wpAny tx A t Q E s)(hQ:∀a s,Q a s->Q' a s):wpAny tx A t Q' E s:=Lc h hQ λ_ _ x=>x
section
variable{X:Cx}
abbrev EI (i:Jg):TE:=λY H Q=>∃v,Y[i]?=gV (gV v)/\Q v H
abbrev tC (v:V):TE:=λ_ H Q=>Q v H
def Cu {i:Jg}{x:JG}{pos:LJ}(hN:X.N[i]?=gV x)(hv:G2 X.env.scope x)(hd:(x==("__debug__" : JG))=false:=by decide)(hcd:(x==("__classdict__" : JG))=false:=by decide):PE X (.Name x pos) (EI i):=by
 intro J s Y H Q I h;obtain⟨v,e,h⟩:=h;obtain⟨m,hn,hl⟩:=I.loc;obtain⟨u,r,l⟩:=hl i x v hN e hv;have fin:EP X J Y Q u s:=#[v,H,I,r,h];rcases l with⟨hk,hm⟩|⟨hk,c,hc,hcell⟩
 ·exact Qq (wpAny_loadName_local I.ok.kind hk hn hm fin) hd
 ·rcases hk with hk|hk
  ·exact Qq (wpAny_loadName_cell I.ok.kind hk hc hcell fin) hd
  ·exact Qq (wpAny_loadName_free I.ok.kind hk hc hcell fin hcd) hd
def vD {i j pos}:PE X (.Constant (.int i) j pos) (tC (.int i)):=λ_ _ _ H _ I h=>wpAny_Constant_int #[.int i,H,I.tok _,#[_,rfl],h]
def BV {b j pos}:PE X (.Constant (.bool b) j pos) (tC (.bl b)):=λ_ _ _ H _ I h=>Constant_bool #[.bl b,H,I,rfl,h]
def vE {j pos}:PE X (.Constant .none j pos) (tC .non):=λ_ _ _ H _ I h=>Constant_none #[.non,H,I,rfl,h]
def vF {x j pos}:PE X (.Constant (.str x) j pos) (tC (.str x)):=λ_ _ _ H _ I h=>O0 #[.str x,H,I.tok _,#[_,rfl],h]
abbrev Gl (X:Cx)(x:JG):Prop:=X.env.kindOf x=gV .globalImplicit
def mY {E:Jd->Jh->Prop}{J:Ja (Jn×KZ)}{s:Jh}{Y:St}{H:Hp}{x:JG}{u:Jd}{pos:LJ}{Q:Jd->Jh->Prop}(I:Inv X J Y H s)(hg:Gl X x)(hm:X.mg x=gV u)(h:Q u s)
  (hd:(x==("__debug__" : JG))=false:=by decide):wpAny (model X.prog X.w) X.A (eval (.Name x pos) X.env) Q E s:=
 Nf I.ok.kind hg (Calls.loadGlobal_global (by rw[I.ok.glob]; exact I.mod.glob.keeps I.bk) hm h) hd
def i4 {E:Jd->Jh->Prop}{J:Ja (Jn×KZ)}{s:Jh}{Y:St}{H:Hp}{x:JG}{u:Jd}{pos:LJ}{Q:Jd->Jh->Prop}(I:Inv X J Y H s)(hg:Gl X x)(hm:X.mg x=td)(hv:bootBuiltins x=gV u)(h:Q u s)
  (hn:x≠"__name__":=by decide) (hd:(x==("__debug__" : JG))=false:=by decide):wpAny (model X.prog X.w) X.A (eval (.Name x pos) X.env) Q E s:=by
 obtain⟨mb,h1,h2⟩:=I.mod.blt;exact Nf I.ok.kind hg (Calls.loadGlobal_builtin (by rw[I.ok.glob]; exact I.mod.glob.keeps I.bk) hm (by rw[I.ok.blt]; exact h1.keeps I.bk) ((h2 x hn).trans hv) h) hd
def rP {x:JG}{v:V}{u:Jd}{pos:LJ}(hg:Gl X x)(hm:X.mg x=gV u)(r:RelV v u)(hd:(x==("__debug__" : JG))=false:=by decide):PE X (.Name x pos) (tC v):=
 λ_ _ _ H _ I h=>mY I hg hm #[v,H,I,r,h] hd
def zB {x:JG}{v:V}{u:Jd}{pos:LJ}(hg:Gl X x)(hm:X.mg x=td)(hv:bootBuiltins x=gV u)(r:RelV v u)(hn:x≠"__name__":=by decide)(hd:(x==("__debug__" : JG))=false:=by decide):PE X (.Name x pos) (tC v):=
 λ_ _ _ H _ I h=>i4 I hg hm hv #[v,H,I,r,h] hn hd
variable{a b:JM}{ta tb:TE}{pos:LJ}
variable{tA tB':TT}{cz:Ja JM}
abbrev EJ (t u:TT):TT:=λY H Q=>t Y H λc H1=>if c=true then u Y H1 Q else Q false H1
abbrev Iq (t u:TT):TT:=λY H Q=>t Y H λc H1=>if c=true then Q true H1 else u Y H1 Q
abbrev G4 (t:TT):TT:=λY H Q=>t Y H λc H1=>Q (!c) H1
def zC (ha:PT X a tA):PW X (.BoolOp .And [a] pos) tA:=by
 intro wh J s Y H Q I h;refine isTrue_and (bj (ha J s Y H Q I h) λc s1 e=>?_)
 cases c with
 | true=>exact isTrue_and_nil e
 | false=>exact e
def Cv (ha:PT X a tA):PW X (.BoolOp .Or [a] pos) tA:=by
 intro wh J s Y H Q I h;refine isTrue_or (bj (ha J s Y H Q I h) λc s1 e=>?_)
 cases c with
 | false=>exact isTrue_or_nil e
 | true=>exact e
def Cw (ha:PT X a tA)(hb:PW X (.BoolOp .And (b::cz) pos) tB'):PW X (.BoolOp .And (a::b::cz) pos) (EJ tA tB'):=by
 intro wh J s Y H Q I h;refine isTrue_and (bj (ha J s Y H _ I h) λc s1 #[H1,I1,q1]=>?_)
 cases c with
 | true=>exact hb wh J s1 Y H1 Q I1 q1
 | false=>exact#[H1,I1,q1]
def EK (ha:PT X a tA)(hb:PW X (.BoolOp .Or (b::cz) pos) tB'):PW X (.BoolOp .Or (a::b::cz) pos) (Iq tA tB'):=by
 intro wh J s Y H Q I h;refine isTrue_or (bj (ha J s Y H _ I h) λc s1 #[H1,I1,q1]=>?_)
 cases c with
 | true=>exact#[H1,I1,q1]
 | false=>exact hb wh J s1 Y H1 Q I1 q1
def Cy (ha:PT X a tA):PT X (.UnaryOp .Not a pos) (G4 tA):=by
 intro J s Y H Q I h;exact isTrue_not (ha J s Y H (λc H1=>Q (!c) H1) I h)
abbrev EM (ta tb:TE):TE:=λY H Q=>ta Y H λx H1=>∃c,x=.bl c/\if c=true then tb Y H1 Q else Q (.bl false) H1
abbrev G5 (ta tb:TE):TE:=λY H Q=>ta Y H λx H1=>∃c,x=.bl c/\if c=true then Q (.bl true) H1 else tb Y H1 Q
abbrev EN (ta:TE):TE:=λY H Q=>ta Y H λx H1=>∃c,x=.bl c/\Q (.bl (!c)) H1
def Cz {op}{t:TE}(h:PE X a t):PE X (.BoolOp op [a] pos) t:=λJ s Y H Q I hw=>BoolOp_one (h J s Y H Q I hw)
def CA (ha:PE X a ta)(hb:PE X (.BoolOp .And (b::cz) pos) tb):PE X (.BoolOp .And (a::b::cz) pos) (EM ta tb):=by
 intro J s Y H Q I h;refine BoolOp_and (bj (ha J s Y H _ I h) λv s1 #[x,H1,I1,r1,q1]=>?_)
 obtain⟨c,rfl,q1⟩:=q1;cases r1;refine KW ?_;cases c with
 | true=>exact hb J s1 Y H1 Q I1 q1
 | false=>exact#[.bl false,H1,I1,rfl,q1]
def EO (ha:PE X a ta)(hb:PE X (.BoolOp .Or (b::cz) pos) tb):PE X (.BoolOp .Or (a::b::cz) pos) (G5 ta tb):=by
 intro J s Y H Q I h;refine BoolOp_or (bj (ha J s Y H _ I h) λv s1 #[x,H1,I1,r1,q1]=>?_)
 obtain⟨c,rfl,q1⟩:=q1;cases r1;refine KW ?_;cases c with
 | false=>exact hb J s1 Y H1 Q I1 q1
 | true=>exact#[.bl true,H1,I1,rfl,q1]
def CB (ha:PE X a ta):PE X (.UnaryOp .Not a pos) (EN ta):=by
 intro J s Y H Q I h;refine UnaryOp_ (bj (ha J s Y H _ I h) λv s1 #[x,H1,I1,r1,q1]=>?_)
 obtain⟨c,rfl,q1⟩:=q1;cases r1;exact not_of (KW #[.bl (!c),H1,I1,rfl,q1])
abbrev ID (t:TT)(ta tb:TE):TE:=λY H Q=>t Y H λc H1=>if c=true then ta Y H1 Q else tb Y H1 Q
def vG {c:JM}(hc:PT X c tA)(ha:PE X a ta)(hb:PE X b tb):PE X (.IfExp c a b pos) (ID tA ta tb):=by
 intro J s Y H Q I h;refine wpAny_IfExp (bj (hc J s Y H _ I h) λd s1 #[H1,I1,q1]=>?_)
 cases d with
 | true=>exact ha J s1 Y H1 Q I1 q1
 | false=>exact hb J s1 Y H1 Q I1 q1
end
abbrev SqL (K:Jx)(H:Hp)(a:Jn)(xs:Ja V):Prop:=
 Rd H a (.lst xs)\/
  ∃(o:KZ) (its:Kh Jd) (n:Jg),K.lookup a=gV o/\o.cls=.type "list"/\o.dict=td/\o.data=.seq its n/\its.size<=sizeLine/\Vals xs its.toList
abbrev SqT (K:Jx)(H:Hp)(a:Jn)(xs:Ja V):Prop:=
 Rd H a (.tup xs)\/
  ∃(o:KZ) (its:Kh Jd) (n:Jg),K.lookup a=gV o/\o.cls=.type "tuple"/\o.dict=td/\o.data=.seq its n/\its.size<=sizeLine/\Vals xs its.toList
abbrev G6:Jd->Ji V
 | .none=>gV .non
 | .bool b=>gV (.bl b)
 | .int i _=>gV (.int i)
 | .str x _=>gV (.str x)
 | .bytes b _=>gV (.byt b)
 | .float b _=>gV (.flt b)
 | .ref a=>gV (.ref a)
 | .type n=>gV (.ty n)
 | _=>td
def RelV.abs {x:V}{u:Jd}(r:RelV x u):G6 u=gV x:=by
 cases x with
 | non=>cases r; rfl
 | bl _=>cases r; rfl
 | int _=>obtain⟨t,rfl⟩:=r; rfl
 | str _=>obtain⟨t,rfl⟩:=r; rfl
 | byt _=>obtain⟨t,rfl⟩:=r; rfl
 | flt _=>obtain⟨t,rfl⟩:=r; rfl
 | ref _=>cases r; rfl
 | ty _=>cases r; rfl
def RelV.inj {x y:V}{u:Jd}(r:RelV x u)(q:RelV y u):x=y:=Ku (r.abs.symm.trans q.abs)
def Vals.inj:∀ {xs ys:Ja V} {us:Ja Jd},Vals xs us->Vals ys us->xs=ys
 | _,_,_,.nil,.nil=>rfl
 | _,_,_,.cons r t,.cons r' t'=>by rw[r.inj r',Vals.inj t t']
section
variable{X:Cx}{J:Ja (Jn×KZ)}{Y:St}{H:Hp}{s:Jh}{a:Jn}{xs ys:Ja V}
def SqL.of {K:Jx}(h:H a=gV (.lst xs)):SqL K H a xs:=.inl (.inl h)
def SqT.of {K:Jx}(h:H a=gV (.tup xs)):SqT K H a xs:=.inl (.inl h)
def Inv.list (I:Inv X J Y H s)(h:SqL X.K H a xs):∃its:Ja Jd,Vals xs its/\PlainL s.heap a its.toArray/\xs.length<=sizeLine:=by
 rcases h with h|⟨o,its,n,hk,hc,hd,hs,hz,r⟩
 ·obtain⟨z,its,n,r,e⟩:=h.ok I.hok;exact#[its,r,#[_,n,e,rfl,rfl,rfl],z]
 ·refine#[its.toList,r,#[o,n,I.kIn a o hk,hc,hd,by simpa using hs],?_]
  have e:=r.length;simp only[J6]at e;omega
def Inv.tuple (I:Inv X J Y H s)(h:SqT X.K H a xs):∃its:Ja Jd,Vals xs its/\Ph s.heap a its.toArray/\xs.length<=sizeLine:=by
 rcases h with h|⟨o,its,n,hk,hc,hd,hs,hz,r⟩
 ·obtain⟨z,its,r,p⟩:=h.ok I.hok;exact#[its,r,p,z.1]
 ·refine#[its.toList,r,#[o,I.kIn a o hk,hc,n,by simpa using hs],?_]
  have e:=r.length;simp only[J6]at e;omega
def Inv.list_inj (I:Inv X J Y H s)(h:SqL X.K H a xs)(h':SqL X.K H a ys):xs=ys:=by
 obtain⟨its,r,⟨o,n,e,_,_,d⟩,_⟩:=I.list h;obtain⟨its',r',⟨o',n',e',_,_,d'⟩,_⟩:=I.list h';rw[e]at e'; cases e'
 rw[d]at d';injection d' with d1 _
 have:its=its':=by simpa using congrArg Rf d1
 subst this;exact r.inj r'
def Inv.tuple_inj (I:Inv X J Y H s)(h:SqT X.K H a xs)(h':SqT X.K H a ys):xs=ys:=by
 obtain⟨its,r,⟨o,e,_,n,d⟩,_⟩:=I.tuple h;obtain⟨its',r',⟨o',e',_,n',d'⟩,_⟩:=I.tuple h';rw[e]at e'; cases e'
 rw[d]at d';injection d' with d1 _
 have:its=its':=by simpa using congrArg Rf d1
 subst this;exact r.inj r'
end
noncomputable abbrev Cx.wish (X:Cx)(E:Jd->Jh->Prop):Cx:={ X with xe:=E }
noncomputable abbrev Cx.nox (X:Cx):Cx:=X.wish λ_ _=>KA
def Cx.Ok.wish {X:Cx}(ok:X.Ok)(E:Jd->Jh->Prop):(X.wish E).Ok:=
 #[ok.mod,ok.kind,ok.glob,ok.blt,ok.above,ok.inj,ok.has,ok.cab,ok.hd,ok.frames,ok.stk,ok.exf,ok.bs,ok.bsz,ok.noex,ok.exfs,ok.funs,ok.frf]
def Cx.Ok.unwish {X:Cx}{E:Jd->Jh->Prop}(ok:(X.wish E).Ok):X.Ok:=
 #[ok.mod,ok.kind,ok.glob,ok.blt,ok.above,ok.inj,ok.has,ok.cab,ok.hd,ok.frames,ok.stk,ok.exf,ok.bs,ok.bsz,ok.noex,ok.exfs,ok.funs,ok.frf]
section
variable{X:Cx}{J:Ja (Jn×KZ)}{Y:St}{H:Hp}{s:Jh}{E:Jd->Jh->Prop}
def Inv.wish (I:Inv X J Y H s)(E:Jd->Jh->Prop):Inv (X.wish E) J Y H s:=#[I.ok.wish E,I.os,I.bare,I.base,I.loc,I.cell,I.free,I.freeC,I.pin,I.hok,I.len]
def Inv.unwish (I:Inv (X.wish E) J Y H s):Inv X J Y H s:=#[I.ok.unwish,I.os,I.bare,I.base,I.loc,I.cell,I.free,I.freeC,I.pin,I.hok,I.len]
def SP.unwish {D:Ends}{f:Flow}{s':Jh}(h:SP (X.wish E) J D f s'):SP X J D f s':=by
 cases f with
 | next=>obtain⟨Y',H',I,q⟩:=h; exact#[Y',H',I.unwish,q]
 | brk=>obtain⟨Y',H',I,q⟩:=h; exact#[Y',H',I.unwish,q]
 | cont=>obtain⟨Y',H',I,q⟩:=h; exact#[Y',H',I.unwish,q]
 | ret u=>obtain⟨v,Y',H',I,r,q⟩:=h; exact#[v,Y',H',I.unwish,r,q]
def PSs.nox {st:Ja L4}{t:TS}(h:PSs X.nox st t):PSs X st t:=λJ s Y H D I hw=>
 Lc (h J s Y H D (I.wish _) hw) (λ_ _ q=>q.unwish) λ_ _ z=>KA.elim z
end
section
variable{X:Cx}{st:L4}{cz:Ja L4}{t u:TS}{e:JM}{te:TE}{pos:LJ}
abbrev vH:TS:=λD Y H=>D.nx Y H
abbrev G7 (t u:TS):TS:=λD Y H=>t { D with nx:=u D } Y H
def zD:PSs X [] vH:=λ_ _ Y H _ I h=>Ob #[Y,H,I,h]
def vI (h1:PS X st t)(h2:PSs X cz u):PSs X (st::cz) (G7 t u):=by
 intro J s Y H D I h;refine wpAny_execs_cons (bj (h1 J s Y H { D with nx:=u D } I h) λf s1 q=>?_)
 cases f with
 | next=>
  obtain⟨Y',H',I',q⟩:=q;exact h2 J s1 Y' H' D I' q
 | ret v=>exact q
 | brk=>exact q
 | cont=>exact q
def zE:PS X (.Pass pos) vH:=λ_ _ Y H _ I h=>wpAny_Pass #[Y,H,I,h]
def Inv.quiet {J:Ja (Jn×KZ)}{Y:St}{H:Hp}{s:Jh}(I:Inv X J Y H s):interactive X.env=false:=by simp[interactive,I.ok.kind]
def CC {x j pos pos'}:PS X (.Expr (.Constant (.str x) j pos) pos') vH:=λ_ s Y H _ I h=>wpAny_Expr (O0 (show SP X _ _ .next { s with toks:=s.toks+1 } from#[Y,H,I.tok _,h])) I.quiet
abbrev EQ (te:TE):TS:=λD Y H=>te Y H λ_ H1=>D.nx Y H1
def zF (he:PE X e te)(hs:swapsWith e td pos.line X.env=pure false:=by rfl):PS X (.Expr e pos) (EQ te):=by
 intro J s Y H D I h;exact wpAny_Expr_any (bj (he J s Y H _ I h) λv s1 #[x,H1,I1,r1,q1]=>#[Y,H1,I1,q1]) I.quiet hs
abbrev G8 (te:TE):TS:=λD Y H=>te Y H D.rt
def CD (he:PE X e te):PS X (.Return (gV e) pos) (G8 te):=by
 intro J s Y H D I h;exact wpAny_Return_some (bj (he J s Y H _ I h) λv s1 #[x,H1,I1,r1,q1]=>#[x,Y,H1,I1,r1,q1])
abbrev G9 (c:TT)(t u:TS):TS:=λD Y H=>c Y H λb H1=>if b=true then t D Y H1 else u D Y H1
def ER {c:JM}{a b:Ja L4}{tc:TT}(hc:PT X c tc)(ha:PSs X a t)(hb:PSs X b u):PS X (.If c a b pos) (G9 tc t u):=by
 intro J s Y H D I h;refine wpAny_If (bj (hc J s Y H _ I h) λd s1 #[H1,I1,q1]=>?_)
 cases d with
 | true=>exact ha J s1 Y H1 D I1 q1
 | false=>exact hb J s1 Y H1 D I1 q1
end
noncomputable abbrev TG:=V->St->Hp->(St->Hp->Prop)->Prop
noncomputable abbrev CF:=Ja V->St->Hp->(St->Hp->Prop)->Prop
abbrev PG (X:Cx)(target:JM)(t:TG):Prop:=
 ∀(J:Ja (Jn×KZ)) (s:Jh) (Y:St) (H:Hp) (v:V) (u:Jd) (Q:St->Hp->Prop),Inv X J Y H s->RelV v u->t v Y H Q->
  wpAny (model X.prog X.w) X.A (assign target X.env u) (λ_ s'=>∃Y' H',Inv X J Y' H' s'/\Q Y' H') X.xe s
abbrev ES (X:Cx)(ts:Ja JM)(t:CF):Prop:=
 ∀(J:Ja (Jn×KZ)) (s:Jh) (Y:St) (H:Hp) (vs:Ja V) (us:Ja Jd) (Q:St->Hp->Prop),Inv X J Y H s->Vals vs us->t vs Y H Q->
  wpAny (model X.prog X.w) X.A (assignInOrder ((assignEach ts X.env).map (·.2)) us) (λ_ s'=>∃Y' H',Inv X J Y' H' s'/\Q Y' H') X.xe s
noncomputable abbrev CG:=V->V->V->Hp->(Hp->Prop)->Prop
abbrev CH (X:Cx)(t:CG):Prop:=
 ∀(J:Ja (Jn×KZ)) (s:Jh) (Y:St) (H:Hp) (o i v:V) (ov iv u:Jd) (Q:Hp->Prop),Inv X J Y H s->RelV o ov->RelV i iv->RelV v u->t o i v H Q->
  wpAny (model X.prog X.w) X.A (setItem ov iv u) (λ_ s'=>∃H',Inv X J Y H' s'/\Q H') X.xe s
section
variable{X:Cx}{pos:LJ}
abbrev ET (i:Jg):TG:=λv Y H Q=>Q (Y.set i (gV v)) H
def rQ {i:Jg}{x:JG}(hN:X.N.Nodup)(hi:X.N[i]?=gV x)(hx:zA X.env.scope x)(hf:X.fn x=true\/X.env.scope.names.lookup x=gV .local):PG X (.Name x pos) (ET i):=by
 intro J s Y H v u Q I r h;exact Pj (ii I hN hi hx r (λs' I'=>#[_,H,I',h]) hf)
abbrev Ha:CF:=λvs Y H Q=>vs=[]/\Q Y H
abbrev EU (t:TG)(u:CF):CF:=λvs Y H Q=>∃v r,vs=v::r/\t v Y H λY' H'=>u r Y' H' Q
def zG:ES X [] Ha:=by
 intro J s Y H vs us Q I r h;obtain⟨e,h⟩:=h;subst e;cases r;exact Pk #[Y,H,I,h]
def vJ {e:JM}{es:Ja JM}{t:TG}{u:CF}(h1:PG X e t)(h2:ES X es u)
  (hs:(assignEach (e::es) X.env).map (·.2)=assign e X.env::(assignEach es X.env).map (·.2):=by rfl):ES X (e::es) (EU t u):=by
 intro J s Y H vs us Q I r h;obtain⟨v,vr,e1,h⟩:=h;subst e1;cases r with
 | cons r rr=>
  rw[hs];refine Ng (bj (h1 J s Y H _ _ _ I r h) λ_ s1 #[Y1,H1,I1,q1]=>?_)
  exact h2 J s1 Y1 H1 _ _ Q I1 rr q1
abbrev Hb (K:Jx)(n:Jg)(t:CF):TG:=λv Y H Q=>∃a xs,v=.ref a/\SqT K H a xs/\xs.length=n/\t xs Y H Q
def CI {es:Ja JM}{k:Jg}{t:CF}{n:Jg}(hc:X.calm=true)(h:ES X es t)
  (hn:(assignEach es X.env).length=n:=by rfl) (hst:(assignEach es X.env).findIdx? (·.1)=td:=by rfl):PG X (.Tuple es k pos) (Hb X.K n t):=by
 intro J s Y H v u Q I r hw;obtain⟨a,xs,e1,hq,hl,hw⟩:=hw;subst e1;cases r;obtain⟨its,rv,ht,hz⟩:=I.tuple hq;refine assign_Tuple_tuple (I.ok.hd hc) ht (by simp[hn,<- hl,rv.length]) hst λh' hx=>?_
 have I1:Inv X J Y H { s with heap:=h' }:=I.kept (t':=s.toks) λb o e=>hx b o (J1 (JJ e)) e
 exact h J _ Y H xs _ Q I1 (by simpa using rv) hw
abbrev Hc (to ti:TE)(t:CG):TG:=λv Y H Q=>to Y H λo H1=>ti Y H1 λi H2=>t o i v H2 λH3=>Q Y H3
def CJ {o i:JM}{to ti:TE}{t:CG}(ho:PE X o to)(hi:PE X i ti)(hs:CH X t)
  (ha:∀v,assign (.Subscript o i pos) X.env v=(do
   let ov <- holding [v] (eval o X.env)
   let iv <- holding [v,ov] (eval i X.env)
   standAt pos
   holding [v,ov,iv] (setItem ov iv v)
   release [v,ov,iv] []):=by intro _; rfl):PG X (.Subscript o i pos) (Hc to ti t):=by
 intro J s Y H v u Q I r h;rw[ha];refine Jc (KP (bj (ho J s Y H _ I h) λov s1 #[x,H1,I1,r1,q1]=>?_))
 refine Jc (KP (bj (hi J s1 Y H1 _ I1 q1) λiv s2 #[y,H2,I2,r2,q2]=>?_))
 refine Jc (M2 (Jc (KP (bj (hs J s2 Y H2 x y v ov iv u _ I2 r1 r2 r q2) λ_ s3 #[H3,I3,q3]=>?_))))
 exact wpAny_release #[Y,H3,I3,q3]
abbrev Hd (te:TE)(g:TG):TS:=λD Y H=>te Y H λx H1=>g x Y H1 D.nx
def CK {tg e:JM}{te:TE}{g:TG}(he:PE X e te)(hg:PG X tg g)(hs:swapsWithSole [tg] e pos.line X.env=pure false:=by rfl)(hw:swappedStores [tg] e X.env=pure td:=by rfl)
  (h1:(assignEach [tg] X.env).map (·.2)=[assign tg X.env]:=by rfl):PS X (.Assign [tg] e pos) (Hd te g):=by
 intro J s Y H D I h;refine wpAny_Assign_stores (bj (he J s Y H _ I h) λv s1 #[x,H1,I1,r1,q1]=>?_) hs hw
 rw[h1];exact bj (hg J s1 Y H1 x v _ I1 r1 q1) λ_ s2 q=>q
abbrev He (i j:Jg)(ta:TA):TS:=λD Y H=>ta Y H λvs H1=>∃v w,vs=[v,w]/\D.nx ((Y.set i (gV v)).set j (gV w)) H1
def CL {i j:Jg}{x y:JG}{a b:JM}{ta:TA}{px py pt:LJ}{kt k2 pt2}(hc:X.calm=true)(hN:X.N.Nodup)(hi:X.N[i]?=gV x)(hj:X.N[j]?=gV y)(hij:i≠j)
  (hx:X.env.scope.names.lookup x=gV .local) (hy:X.env.scope.names.lookup y=gV .local) (ha:PA X [a,b] ta)
  (hw:swappedStores [.Tuple [.Name x px,.Name y py] kt pt] (.Tuple [a,b] k2 pt2) X.env=pure (gV [x,y]))
  (hs:swapsWithSole [.Tuple [.Name x px,.Name y py] kt pt] (.Tuple [a,b] k2 pt2) pos.line X.env=pure false:=by rfl) :
  PS X (.Assign [.Tuple [.Name x px,.Name y py] kt pt] (.Tuple [a,b] k2 pt2) pos) (He i j ta):=by
 intro J s Y H D I h;rw[exec_Assign_arm];refine Jc (M2 ?_);rw[hs];refine Jc (Js ?_);rw[JU #v[]]
 refine Jc (Tuple_ (bj (ha _ J s Y H _ I h) λus s1 #[vs,H1,I1,r1,q1]=>?_))
 obtain⟨v,w,e1,q1⟩:=q1;subst e1;obtain⟨u1,u2,rfl,rv,rw'⟩ : ∃u1 u2,us=[u1,u2]/\RelV v u1/\RelV w u2:=by
  cases r1 with
  | cons p q=>
   cases q with
   | cons p' q'=>
    cases q';exact#[_,_,rfl,p,p']
 refine Km ?_ (by show 2<=sizeLine; decide)
 have I2:Inv X J Y H1 { s1 with heap:=s1.heap.push { cls:=.type "tuple",data:=.seq [u1,u2].toArray } }:=I1.kept (t':=s1.toks) λb o e=>Jm _ e
 rw[hw];refine Jc (Js ?_);show wpAny (model X.prog X.w) X.A (do rule "assign.swapped-stores"; let items <- unpackItems (.ref s1.heap.objs.size) 2 td; assignInOrder [λv=>bindName X.env y v,λv=>bindName X.env x v] items.reverse; pure RY) _ _ _
 refine Jc (O1 (Jc (unpackItems_tuple (items:=[u1,u2].toArray) (I.ok.hd hc) (PR s1.heap _) λh' hx'=>?_)))
 have I3:=I2.kept (h':=h') (t':=s1.toks) λb o e=>hx' b o (J1 (JJ e)) e
 show wpAny _ _ (assignInOrder [λv=>bindName X.env y v,λv=>bindName X.env x v] [u2,u1] >>= λ_=>pure RY) _ _ _
 refine Jc (Ng (Qr (ii I3 hN hj (.inl hy) rw' (λs2 I4=>?_) (.inr hy))))
 refine Ng (Qr (ii I4 hN hi (.inl hx) rv (λs3 I5=>Pk (Js ?_)) (.inr hx)))
 rw[List.set_comm _ _ (Ne.symm hij)]at I5;exact#[_,H1,I5,q1]
end
section
variable{X:Cx}{pos:LJ}
abbrev CM (c:TT)(tb:TS):TS:=λD Y H=>∃W:Jg->St->Hp->Prop,(∃m,W m Y H)/\∀m Y H,W m Y H->
 c Y H λb H1=>if b=true then ∃N:St->Hp->Prop,(∀Y' H',N Y' H'->∃m',m' < m/\W m' Y' H')/\tb { D with nx:=N,ct:=N,bk:=D.nx } Y H1 else D.nx Y H1
def vK {c:JM}{body:Ja L4}{tc:TT}{tb:TS}(hp:OJ (model X.prog X.w) X.A X.env X.xe)(hc:PT X c tc)(hb:PSs X body tb):PS X (.While c body [] pos) (CM tc tb):=by
 intro J s Y H D I h;obtain⟨W,⟨m0,w0⟩,turn⟩:=h;refine wpAny_While (codeAny_whileLoop (λn s'=>∃Y' H',Inv X J Y' H' s'/\W n Y' H') ?_ m0 #[Y,H,I,w0])
 rintro n s1 ⟨Y1,H1,I1,w1⟩;refine LP hp (bj (hc J s1 Y1 H1 _ I1 (turn n Y1 H1 w1)) λb s2 #[H2,I2,q2]=>?_)
 cases b with
 | true=>
  obtain⟨N,hN,q2⟩:=q2;rw[JK rfl];refine LP hp (bj (hb J s2 Y1 H2 _ I2 q2) λf s3 q3=>?_)
  cases f with
  | next=>
   obtain⟨Y3,H3,I3,n3⟩:=q3;obtain⟨m',hm,w3⟩:=hN Y3 H3 n3;exact#[m',hm,Y3,H3,I3,w3]
  | cont=>
   obtain⟨Y3,H3,I3,n3⟩:=q3;obtain⟨m',hm,w3⟩:=hN Y3 H3 n3;exact#[m',hm,Y3,H3,I3,w3]
  | brk=>exact q3
  | ret v=>exact q3
 | false=>
  rw[JU JF];exact Ob #[Y1,H2,I2,q2]
end
structure It where
 go:Jg->Hp->Prop
 yld:Jg->Hp->V->Hp->Prop
 stop:Jg->Hp->Prop
abbrev i7 (X:Cx)(J:Ja (Jn×KZ))(H:Hp)(b:Jn):Prop:=
 H b=td/\b≠X.env.locals/\b∉X.fs/\(b∈X.ex\/X.s₀.heap.objs.size<=b)/\(∀x c,X.env.cells.lookup x=gV c->c≠b)/\∀p∈X.pn++J,p.1≠b
def Inv.fpOk {X:Cx}{J:Ja (Jn×KZ)}{Y:St}{H H':Hp}{s:Jh}{b:Jn}(I:Inv X J Y H s)(hb:s.heap.objs.size<=b)(hn:H' b=td):i7 X J H' b:=by
 refine#[hn,Ma (JW I.lt hb),I.nofs hb,.inr (JY I.sz hb),λx c e z=>?_,λp hp z=>?_]
 ·obtain⟨v,q⟩:=I.cell x c e;exact absurd (JW q.lt (by rw[z]; exact hb)) (KC _)
 ·exact absurd (JW (JJ (I.pin p hp).1) (by rw[z]; exact hb)) (KC _)
structure Turn (P:J0)(w:Kc)(K:Jx)(tg:JM)(tv:It)(fp:Ja Jn)(it:Jn)(tn:Jg->Kl->Prop):Prop where
 mem:it∈fp
 obj:∀i h,tn i h->∀b∈fp,∃o,h.get? b=gV o/\∀v,o.data≠.cell v
 keep:∀i h h',tn i h->(∀b∈fp,∀o,h.get? b=gV o->h'.get? b=gV o)->tn i h'
 item:∀(X:Cx),X.prog=P->X.w=w->X.K=K->X.calm=true->∀(i:Jg) (J:Ja (Jn×KZ)) (s:Jh) (Y:St) (H:Hp) (E:Jd->Jh->Prop),Inv X J Y H s->(∀b∈fp,i7 X J H b)->tn i s.heap->tv.go i H->
  wpAny (model P w) X.A (pyNext (.ref it)) (λr s1=>∃u,r=gV u/\
   wpAny (model P w) X.A (letOwnedTupleGo tg (.ref it) u) (λ_ s2=>∃x H',Inv X J Y H' s2/\RelV x u/\tv.yld i H x H'/\tn (i+1) s2.heap/\∀b∈fp,H' b=td) E s1) E s
 done:∀(X:Cx),X.prog=P->X.w=w->X.K=K->X.calm=true->∀(i:Jg) (J:Ja (Jn×KZ)) (s:Jh) (Y:St) (H:Hp) (E:Jd->Jh->Prop),Inv X J Y H s->(∀b∈fp,i7 X J H b)->tn i s.heap->tv.stop i H->
  wpAny (model P w) X.A (pyNext (.ref it)) (λr s1=>r=td/\Inv X J Y H s1) E s
 self:∀(A:J7) (i:Jg) (s:Jh) (Q:Jd->Jh->Prop) (E:Jd->Jh->Prop),tn i s.heap->Q (.ref it) s->wpAny (model P w) A (pyIter (.ref it)) Q E s
noncomputable abbrev TI:=St->Hp->(It->Hp->Prop)->Prop
abbrev GQ (X:Cx)(J:Ja (Jn×KZ))(Y:St)(tg:JM)(R:It->Hp->Prop)(itv:Jd)(s2:Jh):Prop:=
 ∃(it:Jn) (fp:Ja Jn) (tn:Jg->Kl->Prop) (tv:It) (H':Hp),itv=.ref it/\Inv X J Y H' s2/\Turn X.prog X.w X.K tg tv fp it tn/\tn 0 s2.heap/\(∀b∈fp,i7 X J H' b)/\R tv H'
abbrev PI (X:Cx)(tg iter:JM)(wi:TI):Prop:=
 ∀(J:Ja (Jn×KZ)) (s:Jh) (Y:St) (H:Hp) (R:It->Hp->Prop),Inv X J Y H s->wi Y H R->
  wpAny (model X.prog X.w) X.A (eval iter X.env) (λv s1=>wpAny (model X.prog X.w) X.A (pyIter v) (GQ X J Y tg R) X.xe s1) X.xe s
def rR {tx:RQ}{A:J7}{E:Jd->Jh->Prop}{s:Jh}{tg:JM}{it:Jn}{u:Jd}{o:KZ}{n:KL}{vs:Kh Jd}{Q:Unit->Jh->Prop}(ho:s.heap.get? it=gV o)(hc:o.cls=.type n)(hd:o.data=.fields vs)
    (hn:["enumerate","zip","dict_itemiterator","dict_reverseitemiterator","odict_iterator","itertools.zip_longest","itertools.pairwise"].contains n=false) (hQ:Q () s):wpAny tx A (letOwnedTupleGo tg (.ref it) u) Q E s:=by
  unfold letOwnedTupleGo;cases tg <;> first
    | exact Js hQ
    | (cases u <;> first
        | exact Js hQ
        | (refine Jc (O2 ho ?_)
           rw[hc,hd];show wpAny tx A (if (["enumerate","zip","dict_itemiterator","dict_reverseitemiterator","odict_iterator","itertools.zip_longest","itertools.pairwise"].contains n&&vs[0]?==gV (rawInt _))=true then _ else _) Q E s
           rw[JU (by intro h; rw[hn,Bool.false_and]at h; cases h)]
           exact Js hQ))
abbrev Hf (K:Jx)(a:Jn):It:=
 #[λi H=>∃xs x,SqL K H a xs/\xs[i]?=gV x,λi H x H'=>H'=H/\∀xs,SqL K H a xs->xs[i]?=gV x,λi H=>∃xs,SqL K H a xs/\xs.length<=i]
abbrev Ex (K:Jx)(a:Jn):It:=
 #[λi H=>∃xs x,SqT K H a xs/\xs[i]?=gV x,λi H x H'=>H'=H/\∀xs,SqT K H a xs->xs[i]?=gV x,λi H=>∃xs,SqT K H a xs/\xs.length<=i]
abbrev EV (lo:Jk)(n:Jg):It:=#[λi _=>i < n,λi H x H'=>H'=H/\x=.int (lo+i),λi _=>n<=i]
def tQ {P:J0}{w:Kc}{K:Jx}{tg:JM}(a it:Jn):Turn P w K tg (Hf K a) [it] it (λi h=>h.IsListIter it a i) where
 mem:=by simp
 obj:=λi h st b hb=>by
  have e:b=it:=by simpa using hb
  subst e;obtain⟨o,e,c,d⟩:=st;exact#[o,e,λv z=>by rw[d]at z; cases z]
 keep:=λi h h' st k=>st.at λo e=>k it (by simp) o e
 item:=by
  intro X hP hw hK hc i J s Y H E I hf st hg;subst hP hw hK;obtain⟨xs,x,hq,hx⟩:=hg;obtain⟨its,rv,p,hz⟩:=I.list hq;obtain⟨u,hu,ru⟩:=rv.get hx;obtain⟨f0,f1,f2,f3,f4,f5⟩:=hf it (by simp)
  refine wpAny_pyNext_list_item st p.isList (x:=u) (by simpa using hu) λh' st' sb=>?_
  have I1:Inv X J Y H { s with heap:=h' }:=I.turned (t':=s.toks) (λb o hb e=>(sb.2 b hb).trans e) f0 f1 f3 f4 f5
  obtain⟨o,e,c,d⟩:=id st';exact#[u,rfl,rR (s:={ s with heap:=h' }) e c d #v[] #[x,H,I1,ru,#[rfl,λys hy=>by rw[I.list_inj hy hq]; exact hx],st',λb hb=>(hf b hb).1]]
 done:=by
  intro X hP hw hK hc i J s Y H E I hf st hg;subst hP hw hK;obtain⟨xs,hq,hx⟩:=hg;obtain⟨its,rv,p,hz⟩:=I.list hq;obtain⟨f0,f1,f2,f3,f4,f5⟩:=hf it (by simp)
  have hl:=rv.length;exact wpAny_pyNext_list_end (I.ok.hd hc) st p.isList (by simp; omega) λh' eb=>#[rfl,I.turned (t':=s.toks) (λb o hb e=>eb b o hb e) f0 f1 f3 f4 f5]
 self:=λ_ _ _ _ _ st h=>wpAny_pyIter_listiter st h
def qo {P:J0}{w:Kc}{K:Jx}{tg:JM}(a it:Jn):Turn P w K tg (Ex K a) [it] it (λi h=>h.IsTupleIter it a i) where
 mem:=by simp
 obj:=λi h st b hb=>by
  have e:b=it:=by simpa using hb
  subst e;obtain⟨o,e,c,d⟩:=st;exact#[o,e,λv z=>by rw[d]at z; cases z]
 keep:=λi h h' st k=>st.at λo e=>k it (by simp) o e
 item:=by
  intro X hP hw hK hc i J s Y H E I hf st hg;subst hP hw hK;obtain⟨xs,x,hq,hx⟩:=hg;obtain⟨its,rv,p,hz⟩:=I.tuple hq;obtain⟨u,hu,ru⟩:=rv.get hx;obtain⟨f0,f1,f2,f3,f4,f5⟩:=hf it (by simp)
  refine wpAny_pyNext_tuple_item st (show s.heap.IsTuple a its.toArray from p) (x:=u) (by simpa using hu) λh' st' sb=>?_
  have I1:Inv X J Y H { s with heap:=h' }:=I.turned (t':=s.toks) (λb o hb e=>(sb.2 b hb).trans e) f0 f1 f3 f4 f5
  obtain⟨o,e,c,d⟩:=id st';exact#[u,rfl,rR (s:={ s with heap:=h' }) e c d #v[] #[x,H,I1,ru,#[rfl,λys hy=>by rw[I.tuple_inj hy hq]; exact hx],st',λb hb=>(hf b hb).1]]
 done:=by
  intro X hP hw hK hc i J s Y H E I hf st hg;subst hP hw hK;obtain⟨xs,hq,hx⟩:=hg;obtain⟨its,rv,p,hz⟩:=I.tuple hq;obtain⟨f0,f1,f2,f3,f4,f5⟩:=hf it (by simp)
  have hl:=rv.length;exact wpAny_pyNext_tuple_end (I.ok.hd hc) st (show s.heap.IsTuple a its.toArray from p) (by simp; omega) λh' eb=>#[rfl,I.turned (t':=s.toks) (λb o hb e=>eb b o hb e) f0 f1 f3 f4 f5]
 self:=λ_ _ _ _ _ st h=>wpAny_pyIter_tupleiter st h
def qp {P:J0}{w:Kc}{K:Jx}{tg:JM}(it:Jn)(lo:Jk)(n:Jg):Turn P w K tg (EV lo n) [it] it (λi h=>Rq h it (lo+(i:Jg)*1) ((n:Jk) - (i:Jg)) 1) where
 mem:=by simp
 obj:=λi h st b hb=>by
  have e:b=it:=by simpa using hb
  subst e;exact#[_,st,λv z=>by
   have z':Data.fields _=Data.cell v:=z;cases z']
 keep:=λi h h' st k=>k it (by simp) _ st
 item:=by
  intro X hP hw hK hc i J s Y H E I hf st hg;subst hP hw hK;obtain⟨f0,f1,f2,f3,f4,f5⟩:=hf it (by simp)
  have W:=Walks.range (prog:=X.prog) (w:=X.w) (I.ok.hd hc) it lo 1 n;refine W.item i s _ _ hg st λv h' tk hv st' kk=>?_
  obtain⟨t,rfl⟩:=hv;have I1:Inv X J Y H { s with heap:=h',toks:=tk }:=I.turned (λb o hb e=>kk b o (by simpa using hb) e) f0 f1 f3 f4 f5
  refine#[_,rfl,rR (s:={ s with heap:=h',toks:=tk }) (n:="range_iterator") st' rfl rfl #v[] #[.int (lo+i),H,I1,#[t,?_],#[rfl,rfl],st',λb hb=>(hf b hb).1]]
  rw[Int.mul_one]
 done:=by
  intro X hP hw hK hc i J s Y H E I hf st hg;subst hP hw hK;obtain⟨f0,f1,f2,f3,f4,f5⟩:=hf it (by simp)
  exact wpAny_pyNext_range_end (I.ok.hd hc) st (by have:n<=i:=hg; omega) λh' eb=>#[rfl,I.turned (t':=s.toks) (λb o hb e=>eb b o hb e) f0 f1 f3 f4 f5]
 self:=λ_ _ _ _ _ st h=>wpAny_pyIter_rangeiter st h
section
variable{X:Cx}{tg:JM}
def oE {J:Ja (Jn×KZ)}{Y:St}{H:Hp}{s:Jh}{R:It->Hp->Prop}{E:Jd->Jh->Prop}{lo hi:Jk}{t u v:Sb}{tk:Jg}(I:Inv X J Y H s)(h1 : -(2 ^ 62)<=lo)(h2:lo < 2 ^ 62)(h3 : -(2 ^ 62)<=hi)(h4:hi < 2 ^ 62)
  (q:R (EV lo (hi - lo).toNat) H):wpAny (model X.prog X.w) X.A (pyIter (.ref s.heap.objs.size)) (GQ X J Y tg R) E { s with heap:=s.heap.push { cls:=.type "range",data:=.fields [.int lo t,.int hi u,.int 1 v].toArray },toks:=tk }:=by
 refine wpAny_pyIter_range (IsRange.new ..) (Rc h1 h2 h3 h4) ?_;have I1:Inv X J Y H { s with heap:=s.heap.push { cls:=.type "range",data:=.fields [.int lo t,.int hi u,.int 1 v].toArray },toks:=tk }:=I.kept λb o e=>Jm _ e
 refine#[(s.heap.push { cls:=.type "range",data:=.fields [.int lo t,.int hi u,.int 1 v].toArray }).objs.size,[(s.heap.push { cls:=.type "range",data:=.fields [.int lo t,.int hi u,.int 1 v].toArray }).objs.size],_,_,H,rfl,
  I1.kept (t':=tk) λb o e=>Jm _ e,qp _ lo (hi - lo).toNat,?_,λb hb=>?_,q]
 ·have e1:lo+((0:Jg):Jk)*1=lo:=by simp
  have e2:(((hi - lo).toNat:Jg):Jk) - ((0:Jg):Jk)=La lo hi 1:=by rw[OR]; split <;> omega
  show Rq _ _ (lo+((0:Jg):Jk)*1) ((((hi - lo).toNat:Jg):Jk) - ((0:Jg):Jk)) 1;rw[e1,e2];exact JH _ rfl
 ·have e:b=(s.heap.push { cls:=.type "range",data:=.fields [.int lo t,.int hi u,.int 1 v].toArray }).objs.size:=by simpa using hb
  subst e;exact I1.fpOk (Jo _) (I1.hok.fresh (Jo _))
abbrev EW (ta:TA):TI:=λY H R=>ta Y H λvs H1=>∃j:Jk,vs=[.int j]/\-(2 ^ 62)<=j/\j < 2 ^ 62/\R (EV 0 j.toNat) H1
abbrev iRng2 (ta:TA):TI:=λY H R=>ta Y H λvs H1=>∃i j:Jk,vs=[.int i,.int j]/\(-(2 ^ 62)<=i/\i < 2 ^ 62/\-(2 ^ 62)<=j/\j < 2 ^ 62)/\R (EV i (j - i).toNat) H1
def tR {a:JM}{ta:TA}{p pos:LJ}(hg:Gl X "range")(hm:X.mg "range" = td)(ha:PA X [a] ta)(hs:starEach [a] X.env=[(false,eval a X.env)]:=by rfl):PI X tg (.Call (.Name "range" p) [a] [] pos) (EW ta):=by
 intro J s Y H R I h;refine Call_ (i4 I hg hm boot_range (LC (bj (ha pos J s Y H _ I h) λus s1 #[vs,H1,I1,r1,q1]=>?_) hs rfl))
 obtain⟨j,e,q1,q2,q⟩:=q1;subst e;cases r1 with
 | cons r rr=>
  cases rr;obtain⟨t,rfl⟩:=r;exact Rg (oE I1 ∅ ∅ q1 q2 (by simpa using q))
def tU {a b:JM}{ta:TA}{p pos:LJ}(hg:Gl X "range")(hm:X.mg "range" = td)(ha:PA X [a,b] ta)(hs:starEach [a,b] X.env=[(false,eval a X.env),(false,eval b X.env)]:=by rfl)(hs2:starEach [b] X.env=[(false,eval b X.env)]:=by rfl) :
  PI X tg (.Call (.Name "range" p) [a,b] [] pos) (iRng2 ta):=by
 intro J s Y H R I h;refine Call_ (i4 I hg hm boot_range (LC (bj (ha pos J s Y H _ I h) λus s1 #[vs,H1,I1,r1,q1]=>?_) (by rw[hs,hs2]) (by rw[hs2]; rfl)))
 obtain⟨i,j,e,⟨q1,q2,q3,q4⟩,q⟩:=q1;subst e;cases r1 with
 | cons r rr=>
  cases rr with
  | cons r' rr=>
   cases rr;obtain⟨t,rfl⟩:=r;obtain⟨t',rfl⟩:=r';exact call_range_2 (oE I1 q1 q2 q3 q4 q)
abbrev Hg (wi:TI)(g:TG)(tb:TS):TS:=λD Y H=>wi Y H λtv H1=>∃W:Jg->Jg->St->Hp->Prop,(∃m,W 0 m Y H1)/\∀i m Y H,W i m Y H->
 (tv.stop i H/\D.nx Y H)\/(tv.go i H/\∃N:St->Hp->Prop,(∀Y' H',N Y' H'->∃m',m' < m/\W (i+1) m' Y' H')/\∀x H',tv.yld i H x H'->g x Y H' λY2 H2=>tb { D with nx:=N,ct:=N,bk:=D.nx } Y2 H2)
abbrev i8 (fp:Ja Jn)(h:Kl):Ja (Jn×KZ):=fp.filterMap λb=>(h.get? b).map λo=>(b,o)
def fg {fp:Ja Jn}{h:Kl}{b:Jn}{o:KZ}(hb:b∈fp)(e:h.get? b=gV o):(b,o)∈i8 fp h:=O3.mpr #[b,hb,by rw[e]; rfl]
def tV {fp:Ja Jn}{h:Kl}{p:Jn×KZ}(hp:p∈i8 fp h):p.1∈fp/\h.get? p.1=gV p.2:=by
 obtain⟨b,hb,e⟩:=O3.mp hp;cases q:h.get? b with
 | none=>rw[q]at e; cases e
 | some o=>
  rw[q]at e;have e':(b,o)=p:=Ku e;subst e';exact#[hb,q]
def Inv.pinned {J:Ja (Jn×KZ)}{Y:St}{H:Hp}{s:Jh}{fp:Ja Jn}(I:Inv X J Y H s)(hf:∀b∈fp,i7 X J H b)(ho:∀b∈fp,∃o,s.heap.get? b=gV o/\∀v,o.data≠.cell v):Inv X (J++i8 fp s.heap) Y H s:=
 I.pins_of λp hp=>(JN.mp hp).elim (λz=>I.pin p (JO _ z)) λz=>by
  obtain⟨hb,e⟩:=tV z;obtain⟨f0,f1,f2,_⟩:=hf p.1 hb;obtain⟨o,e',d⟩:=ho p.1 hb;rw[e]at e'; cases e'
  exact#[e,f0,f1,f2,d]
def Inv.unpinned {J pl:Ja (Jn×KZ)}{Y:St}{H:Hp}{s:Jh}(I:Inv X (J++pl) Y H s):Inv X J Y H s:=I.pins_of λp hp=>I.pin p (JO _ (Kz _ hp))
def CN {iter:JM}{body:Ja L4}{wi:TI}{g:TG}{tb:TS}{pos:LJ}(hp:OJ (model X.prog X.w) X.A X.env X.xe)(hc:X.calm=true)(hi:PI X tg iter wi)(hg:PG X tg g)(hb:PSs X body tb)
  (hs:∀x,foldedSetIterable iter X.env x=pure x:=by intro _; rfl):PS X (.For tg iter body [] pos) (Hg wi g tb):=by
 intro J s Y H D I h;refine wpAny_For (bj (hi J s Y H _ I h) λv s1 h1=>bj h1 λitv s2 h2=>?_) hs
 obtain⟨it,fp,tn,tv,H2,e,I2,T,aG,f2,W,⟨m0,w0⟩,turn⟩:=h2;subst e;have stat:∀ {H':Hp},(∀b∈fp,H' b=td)->∀b∈fp,i7 X J H' b:=λhn b hb=>#[hn b hb,(f2 b hb).2]
 refine codeAny_forLoop_any (λn s'=>∃i Y' H',Inv X J Y' H' s'/\tn i s'.heap/\(∀b∈fp,H' b=td)/\W i n Y' H') ?_ m0 #[0,Y,H2,I2,aG,λb hb=>(f2 b hb).1,w0]
 rintro n s3 ⟨i,Y3,H3,I3,st3,fr3,w3⟩;rcases turn i n Y3 H3 w3 with⟨stop,qn⟩|⟨go,N,hN,step⟩
 ·refine LP hp (bj (T.done X rfl rfl rfl hc i J s3 Y3 H3 X.xe I3 (stat fr3) st3 stop) λr s4 #[hr,I4]=>?_)
  subst hr;exact Ob #[Y3,H3,I4,qn]
 ·refine LP hp (bj (T.item X rfl rfl rfl hc i J s3 Y3 H3 X.xe I3 (stat fr3) st3 go) λr s4 #[u,hr,h4]=>?_)
  subst hr;refine LP hp (bj h4 λ_ s5 #[x,H5,I5,r5,y5,st5,fr5]=>?_)
  have I5':=I5.pinned (stat fr5) (T.obj _ _ st5);refine LP hp (bj (hg _ s5 Y3 H5 x u _ I5' r5 (step x H5 y5)) λ_ s6 #[Y6,H6,I6,q6]=>?_)
  refine LP hp (bj (hb _ s6 Y6 H6 _ I6 q6) λf s7 q7=>?_)
  have again:∀ {Y7:St} {H7:Hp},Inv X (J++i8 fp s5.heap) Y7 H7 s7->N Y7 H7->∃m,m < n/\∃i Y' H',Inv X J Y' H' s7/\tn i s7.heap/\(∀b∈fp,H' b=td)/\W i m Y' H':=λ{Y7 H7} I7 n7=>by
   obtain⟨m',hm,w7⟩:=hN Y7 H7 n7;refine#[m',hm,i+1,Y7,H7,I7.unpinned,T.keep _ _ _ st5 λb hb o e=>(I7.pin (b,o) (JO _ (JO _ (fg hb e)))).1,λb hb=>?_,w7]
   obtain⟨o,e,d⟩:=T.obj _ _ st5 b hb;exact(I7.pin (b,o) (JO _ (JO _ (fg hb e)))).2.1
  cases f with
  | next=>obtain⟨Y7,H7,I7,n7⟩:=q7; exact again I7 n7
  | cont=>obtain⟨Y7,H7,I7,n7⟩:=q7; exact again I7 n7
  | brk=>obtain⟨Y7,H7,I7,q7⟩:=q7; exact#[Y7,H7,I7.unpinned,q7]
  | ret v=>obtain⟨x7,Y7,H7,I7,r7,q7⟩:=q7; exact#[x7,Y7,H7,I7.unpinned,r7,q7]
end
def for_tup {K:Jx}{a:Jn}{xs:Ja V}{g:TG}{tb:TS}{D:Ends}{Y:St}{H:Hp}(Pv:Jg->St->Hp->Prop)(h0:Pv 0 Y H)(hl:∀i Y H,i<=xs.length->Pv i Y H->SqT K H a xs)
  (hs:∀i x Y H,xs[i]?=gV x->Pv i Y H->g x Y H λY2 H2=>tb { D with nx:=Pv (i+1),ct:=Pv (i+1),bk:=D.nx } Y2 H2) (hd:∀Y H,Pv xs.length Y H->D.nx Y H) :
  ∃W:Jg->Jg->St->Hp->Prop,(∃m,W 0 m Y H)/\∀i m Y H,W i m Y H->
   ((Ex K a).stop i H/\D.nx Y H)\/((Ex K a).go i H/\∃N:St->Hp->Prop,(∀Y' H',N Y' H'->∃m',m' < m/\W (i+1) m' Y' H')/\∀x H',(Ex K a).yld i H x H'->g x Y H' λY2 H2=>tb { D with nx:=N,ct:=N,bk:=D.nx } Y2 H2):=by
 refine#[λi m Y H=>m=xs.length - i/\i<=xs.length/\Pv i Y H,#[xs.length,by simp,Lq _,h0],?_]
 rintro i m Y H ⟨rfl,hi,p⟩;have q:=hl i Y H hi p
 by_cases hlt:i < xs.length
 ·refine .inr #[#[xs,xs[i],q,by simp[hlt]],Pv (i+1),λY' H' p'=>#[xs.length - (i+1),∅,rfl,hlt,p'],λx H' y=>?_]
  obtain⟨e,y⟩:=y;subst e;exact hs i x Y _ (y xs q) p
 ·have e:i=xs.length:=∅
  subst e;exact .inl #[#[xs,q,Jo _],hd Y H p]
noncomputable abbrev R2:=V->V->Hp->VK->Prop
abbrev OpR (X:Cx)(f:Jd->Jd->Rp Jd)(r:R2):Prop:=
 ∀(J:Ja (Jn×KZ)) (s:Jh) (Y:St) (H:Hp) (x y:V) (v u:Jd) (Q:VK),Inv X J Y H s->RelV x v->RelV y u->r x y H Q->
  wpAny (model X.prog X.w) X.A (f v u) (EP X J Y Q) X.xe s
abbrev Hh (X:Cx)(f:Jd->Rp Jd)(r:V->Hp->VK->Prop):Prop:=
 ∀(J:Ja (Jn×KZ)) (s:Jh) (Y:St) (H:Hp) (x:V) (v:Jd) (Q:VK),Inv X J Y H s->RelV x v->r x H Q->
  wpAny (model X.prog X.w) X.A (f v) (EP X J Y Q) X.xe s
abbrev CallR (X:Cx)(f:Jd)(r:Ja V->Hp->VK->Prop):Prop:=
 ∀(J:Ja (Jn×KZ)) (s:Jh) (Y:St) (H:Hp) (xs:Ja V) (us:Ja Jd) (Q:VK),Inv X J Y H s->Vals xs us->r xs H Q->
  wpAny (model X.prog X.w) X.A (call f us) (EP X J Y Q) X.xe s
abbrev Hi (X:Cx)(r:V->Hp->(JL->Hp->Prop)->Prop):Prop:=
 ∀(J:Ja (Jn×KZ)) (s:Jh) (Y:St) (H:Hp) (x:V) (v:Jd) (Q:JL->Hp->Prop),Inv X J Y H s->RelV x v->r x H Q->
  wpAny (model X.prog X.w) X.A (truthy v) (TP X J Y Q) X.xe s
abbrev GR (r:R2)(ta tb:TE):TE:=λY H Q=>ta Y H λx H1=>tb Y H1 λy H2=>r x y H2 Q
abbrev IE (r:V->Hp->VK->Prop)(ta:TE):TE:=λY H Q=>ta Y H λx H1=>r x H1 Q
abbrev rI (C:Jk->Jk->Prop)(g:Jk->Jk->V):R2:=λx y H Q=>∃i j,x=.int i/\y=.int j/\C i j/\Q (g i j) H
abbrev BW (g:Jk->Jk->V):R2:=λx y H Q=>∃i j,x=.int i/\y=.int j/\Q (g i j) H
abbrev rU (g:Jk->V):V->Hp->VK->Prop:=λx H Q=>∃i,x=.int i/\Q (g i) H
section
variable{X:Cx}{a b c:JM}{ta tb tc:TE}{pos:LJ}
def CO (ha:PE X a ta)(hb:PE X b tb){J:Ja (Jn×KZ)}{s:Jh}{Y:St}{H:Hp}{R:V->V->Hp->Prop}(I:Inv X J Y H s)
  (h:ta Y H λx H1=>tb Y H1 λy H2=>R x y H2) {Q:Jd->Jh->Prop} {f:Jd->Jd->Rp Jd}
  (hf:∀v u s2 x y H2,Inv X J Y H2 s2->RelV x v->RelV y u->R x y H2->wpAny (model X.prog X.w) X.A (f v u) Q X.xe s2) :
  wpAny (model X.prog X.w) X.A (eval a X.env) (λv s₁=>wpAny (model X.prog X.w) X.A (eval b X.env) (λu s₂=>wpAny (model X.prog X.w) X.A (f v u) Q X.xe s₂) X.xe s₁) X.xe s:=by
 refine bj (ha J s Y H _ I h) λv s1 #[x,H1,I1,r1,q1]=>?_
 refine bj (hb J s1 Y H1 _ I1 q1) λu s2 #[y,H2,I2,r2,q2]=>?_
 exact hf v u s2 x y H2 I2 r1 r2 q2
def EX {op:Pl}{r:R2}(ho:OpR X (binaryOp op) r)(ha:PE X a ta)(hb:PE X b tb):PE X (.BinOp a op b pos) (GR r ta tb):=by
 intro J s Y H Q I h;exact wpAny_BinOp (CO ha hb I h λv u s2 x y H2 I2 rx ry q=>ho J s2 Y H2 x y v u Q I2 rx ry q)
def EY {op:UnaryOp}{r:V->Hp->VK->Prop}(ho:Hh X (unaryOp op) r)(ha:PE X a ta):PE X (.UnaryOp op a pos) (IE r ta):=by
 intro J s Y H Q I h;exact UnaryOp_ (bj (ha J s Y H _ I h) λv s1 #[x,H1,I1,r1,q1]=>ho J s1 Y H1 x v Q I1 r1 q1)
def GU {f:Jd->Jd->Rp Jd}{C:Jk->Jk->Prop}{g:Jk->Jk->Jk}
  (rule:∀(i j:Jk) (t u:Sb) (s:Jh) (Q:Jd->Jh->Prop) (E:Jd->Jh->Prop),C i j->Q (.int (g i j) s.toks) { s with toks:=s.toks+1 }->wpAny (model X.prog X.w) X.A (f (.int i t) (.int j u)) Q E s) :
  OpR X f (rI C λi j=>.int (g i j)):=by
 intro J s Y H x y v u Q I rx ry h;obtain⟨i,j,rfl,rfl,hc,q⟩:=h;obtain⟨t,rfl⟩:=rx;obtain⟨t',rfl⟩:=ry;exact rule i j t t' s _ _ hc #[.int (g i j),H,I.tok _,#[_,rfl],q]
def EZ {f:Jd->Jd->Rp Jd}{g:Jk->Jk->Jk}
  (rule:∀(i j:Jk) (t u:Sb) (s:Jh) (Q:Jd->Jh->Prop) (E:Jd->Jh->Prop),Q (.int (g i j) s.toks) { s with toks:=s.toks+1 }->wpAny (model X.prog X.w) X.A (f (.int i t) (.int j u)) Q E s) :
  OpR X f (BW λi j=>.int (g i j)):=by
 intro J s Y H x y v u Q I rx ry h;obtain⟨i,j,rfl,rfl,q⟩:=h;obtain⟨t,rfl⟩:=rx;obtain⟨t',rfl⟩:=ry;exact rule i j t t' s _ _ #[.int (g i j),H,I.tok _,#[_,rfl],q]
def zH {f:Jd->Jd->Rp Jd}{g:Jk->Jk->JL}
  (rule:∀(i j:Jk) (t u:Sb) (s:Jh) (Q:Jd->Jh->Prop) (E:Jd->Jh->Prop),Q (.bool (g i j)) s->wpAny (model X.prog X.w) X.A (f (.int i t) (.int j u)) Q E s) :
  OpR X f (BW λi j=>.bl (g i j)):=by
 intro J s Y H x y v u Q I rx ry h;obtain⟨i,j,rfl,rfl,q⟩:=h;obtain⟨t,rfl⟩:=rx;obtain⟨t',rfl⟩:=ry;exact rule i j t t' s _ _ #[.bl (g i j),H,I,rfl,q]
abbrev Hj (i j:Jk):Prop:=0 < j/\j < 1073741824
abbrev Hk (i j:Jk):Prop:=0<=j/\j<=1000000/\i.natAbs < 2 ^ 64
abbrev CMul (i j:Jk):Prop:=(-(2 ^ 64) < i/\i < 2 ^ 64)\/(-(2 ^ 64) < j/\j < 2 ^ 64)
def CMul.ok {i j:Jk}(h:CMul i j):IntMulOk i j:=by
 rcases h with⟨h1,h2⟩|⟨h1,h2⟩
 ·exact .of_left (QQ h1 h2)
 ·exact .of_right (QQ h1 h2)
def CP:OpR X (binaryOp .Add) (BW λi j=>.int (i+j)):=EZ λ_ _ _ _ _ _ _ q=>add_int q
def CQ:OpR X (binaryOp .Sub) (BW λi j=>.int (i - j)):=EZ λ_ _ _ _ _ _ _ q=>sub_int q
def CS:OpR X (binaryOp .Mult) (rI CMul λi j=>.int (i*j)):=GU λ_ _ _ _ _ _ _ hc q=>mul_int q hc.ok
def zI:OpR X (binaryOp .FloorDiv) (rI Hj λi j=>.int (i / j)):=GU λi j _ _ _ _ _ hc q=>by
 have h1:(0:Jk) < j:=hc.1;have h2:j < 1073741824:=hc.2;exact floordiv_int ∅ (by rw[Int.fdiv_eq_ediv_of_nonneg i ∅]; exact q) (.inl (PyProof.noPylong_small ∅))
def CT:OpR X (binaryOp .Mod) (rI (λ_ j=>0 < j) λi j=>.int (i % j)):=GU λi j _ _ _ _ _ hc q=>by
 have h1:(0:Jk) < j:=hc;exact mod_int' ∅ (by rw[Int.fmod_eq_emod_of_nonneg i ∅]; exact q)
def CU:OpR X (binaryOp .Pow) (rI Hk λi j=>.int (i ^ j.toNat)):=GU λ_ _ _ _ _ _ _ hc q=>pow_int_small hc.1 hc.2.1 hc.2.2 q
def IF {f:Jd->Rp Jd}{g:Jk->Jk}
  (rule:∀(i:Jk) (t:Sb) (s:Jh) (Q:Jd->Jh->Prop) (E:Jd->Jh->Prop),Q (.int (g i) s.toks) { s with toks:=s.toks+1 }->wpAny (model X.prog X.w) X.A (f (.int i t)) Q E s) :
  Hh X f (rU λi=>.int (g i)):=by
 intro J s Y H x v Q I rx h;obtain⟨i,rfl,q⟩:=h;obtain⟨t,rfl⟩:=rx;exact rule i t s _ _ #[.int (g i),H,I.tok _,#[_,rfl],q]
def CV:Hh X (unaryOp .USub) (rU λi=>.int (-i)):=IF λ_ _ _ _ _ q=>neg_int q
end
section
variable{X:Cx}{a b c:JM}{ta tb tc:TE}{pos:LJ}
def vL {J:Ja (Jn×KZ)}{Y:St}{H:Hp}{s:Jh}{Q:VK}{k k':JL}(I:Inv X J Y H s)(q:Q (.bl k) H)(e:k=k'):EP X J Y Q (.bool k') s:=by
 subst e;exact#[.bl k,H,I,rfl,q]
def E1:OpR X (compareOp .Lt) (BW λi j=>.bl (decide (i < j))):=zH λ_ _ _ _ _ _ _ q=>lt_int q
def E2:OpR X (compareOp .LtE) (BW λi j=>.bl (decide (i<=j))):=zH λ_ _ _ _ _ _ _ q=>le_int q
def E3:OpR X (compareOp .Gt) (BW λi j=>.bl (decide (j < i))):=zH λ_ _ _ _ _ _ _ q=>gt_int q
def E4:OpR X (compareOp .GtE) (BW λi j=>.bl (decide (j<=i))):=zH λ_ _ _ _ _ _ _ q=>ge_int q
def CW:OpR X (compareOp .Is) (λx y H Q=>y=.non/\Q (.bl (decide (x=.non))) H):=by
 intro J s Y H x y v u Q I rx ry h;obtain⟨rfl,q⟩:=h;cases ry;refine is_none_gen (vL I q ?_);cases x <;> first
  | (cases rx; rfl)
  | (obtain⟨t,rfl⟩:=rx; rfl)
def zJ:OpR X (compareOp .IsNot) (λx y H Q=>y=.non/\Q (.bl (!decide (x=.non))) H):=by
 intro J s Y H x y v u Q I rx ry h;obtain⟨rfl,q⟩:=h;cases ry;refine isnot_none_gen (vL I q ?_);cases x <;> first
  | (cases rx; rfl)
  | (obtain⟨t,rfl⟩:=rx; rfl)
def zK {op:Qb}{r:R2}(ho:OpR X (compareOp op) r)(ha:PE X a ta)(hb:PE X b tb)(hm:behindInMarks op b=false):PE X (.Compare a [op] [b] pos) (GR r ta tb):=by
 intro J s Y H Q I h;exact wpAny_Compare1 (CO ha hb I h λv u s2 x y H2 I2 rx ry q=>ho J s2 Y H2 x y v u Q I2 rx ry q) hm
abbrev BX (t:TE):TT:=λY H Q=>t Y H λx H'=>∃k,x=.bl k/\Q k H'
def zL {op:Qb}{r:R2}(ho:OpR X (compareOp op) r)(ha:PE X a ta)(hb:PE X b tb)(hm:behindInMarks op b=false):PT X (.Compare a [op] [b] pos) (BX (GR r ta tb)):=by
 intro J s Y H Q I h;refine wpAny_isTrue_Compare1 (bj (ha J s Y H _ I h) λv s1 #[x,H1,I1,r1,q1]=>bj (hb J s1 Y H1 _ I1 q1) λu s2 #[y,H2,I2,r2,q2]=>
  bj (ho J s2 Y H2 x y v u _ I2 r1 r2 q2) λc s3 #[z,H3,I3,r3,k,e,q3]=>?_) hm
 subst e;cases r3;exact KW #[H3,I3,q3]
abbrev qr (r r':R2)(ta tb tc:TE):TE:=λY H Q=>ta Y H λx H1=>tb Y H1 λy H2=>r x y H2 λz H3=>∃k,z=.bl k/\
 (if k=true then tc Y H3 λw' H4=>r' y w' H4 Q else Q (.bl false) H3)
def vM {op op':Qb}{r r':R2}(ho:OpR X (compareOp op) r)(ho':OpR X (compareOp op') r')(ha:PE X a ta)(hb:PE X b tb)(hc:PE X c tc)
  (hm:lastMarks [op,op'] [b,c]=false:=by with_unfolding_all rfl):PE X (.Compare a [op,op'] [b,c] pos) (qr r r' ta tb tc):=by
 intro J s Y H Q I h;refine Compare_chain (bj (ha J s Y H _ I h) λv s1 #[x,H1,I1,r1,q1]=>chain_link (bj (hb J s1 Y H1 _ I1 q1) λu s2 #[y,H2,I2,r2,q2]=>
  bj (ho J s2 Y H2 x y v u _ I2 r1 r2 q2) λd s3 #[z,H3,I3,r3,k,e,q3]=>?_)) hm
 subst e;cases r3;refine KW ?_;cases k with
 | false=>exact ite_ff #[.bl false,H3,I3,rfl,q3]
 | true=>exact ite_tt (chain_last (bj (hc J s3 Y H3 _ I3 q3) λw' s4 #[z',H4,I4,r4,q4]=>ho' J s4 Y H4 y z' u w' Q I4 r2 r4 q4))
def vN {op op':Qb}{r r':R2}(ho:OpR X (compareOp op) r)(ho':OpR X (compareOp op') r')(ha:PE X a ta)(hb:PE X b tb)(hc:PE X c tc)
  (hm:lastMarks [op,op'] [b,c]=false:=by with_unfolding_all rfl):PT X (.Compare a [op,op'] [b,c] pos) (BX (qr r r' ta tb tc)):=by
 intro J s Y H Q I h;refine isTrue_chain (bj (ha J s Y H _ I h) λv s1 #[x,H1,I1,r1,q1]=>test_link (bj (hb J s1 Y H1 _ I1 q1) λu s2 #[y,H2,I2,r2,q2]=>
  bj (ho J s2 Y H2 x y v u _ I2 r1 r2 q2) λd s3 #[z,H3,I3,r3,k,e,q3]=>?_)) hm
 subst e;cases r3;refine KW ?_;cases k with
 | false=>
  obtain⟨k',e',q'⟩:=q3;cases e';exact ite_ff #[H3,I3,q']
 | true=>
  refine ite_tt (test_last (bj (hc J s3 Y H3 _ I3 q3) λw' s4 #[z',H4,I4,r4,q4]=>bj (ho' J s4 Y H4 y z' u w' _ I4 r2 r4 q4) λd' s5 #[z2,H5,I5,r5,k2,e2,q5]=>?_))
  subst e2;cases r5;exact KW #[H5,I5,q5]
abbrev Hl (K:Jx)(x:V)(H:Hp)(k:JL):Prop:=
 match x with
 | .non=>k=false
 | .bl b=>k=b
 | .int i=>k=(i != 0)
 | .str y=>y.length<=sizeLine/\k=((y.length:Jk) != 0)
 | .byt y=>y.size<=sizeLine/\k=((y.size:Jk) != 0)
 | .ref p=>(∃xs,SqL K H p xs/\k = !xs.isEmpty)\/(∃xs,SqT K H p xs/\k = !xs.isEmpty)\/∃U,H p=gV (.dK U)/\k = !U.isEmpty
 | _=>KA
def qt {κ:Type}{U:Ja (κ×V)}{vs:Ja (κ×Jd)}(r:KV U vs):(!vs.isEmpty) = !U.isEmpty:=by
 cases r <;> rfl
def j8 {xs:Ja V}{its:Ja Jd}(r:Vals xs its):(!its.toArray.isEmpty) = !xs.isEmpty:=by
 cases r <;> simp
def i9:(sizeLine:Jg) < 2 ^ 63:=by rw[Kq]; decide
def CY:Hi X (λx H Q=>∃k,Hl X.K x H k/\Q k H):=by
 intro J s Y H x v Q I rx h;obtain⟨k,e,q⟩:=h;have hl:=i9;have hs:sizeLine=16777216:=Kq;cases x with
 | non=>
  cases rx;have e':k=false:=e;subst e';exact truthy_none #[H,I,q]
 | bl b=>
  cases rx;have e':k=b:=e;subst e';exact KW #[H,I,q]
 | int i=>
  obtain⟨t,rfl⟩:=rx;have e':k=(i != 0):=e;subst e';exact PySem.P.truthy_int #[H,I,q]
 | str y=>
  obtain⟨t,rfl⟩:=rx;obtain⟨hy,e'⟩ : y.length<=sizeLine/\k=((y.length:Jk) != 0):=e;subst e';exact PySem.P.truthy_str ∅ #[H,I.tok _,q]
 | byt y=>
  obtain⟨t,rfl⟩:=rx;obtain⟨hy,e'⟩ : y.size<=sizeLine/\k=((y.size:Jk) != 0):=e;subst e';exact PySem.W.truthy_bytes ∅ #[H,I.tok _,q]
 | ref p=>
  cases rx;have e':(∃xs,SqL X.K H p xs/\k = !xs.isEmpty)\/(∃xs,SqT X.K H p xs/\k = !xs.isEmpty)\/∃U,H p=gV (.dK U)/\k = !U.isEmpty:=e;rcases e' with⟨xs,hx,e'⟩|⟨xs,hx,e'⟩|⟨U,hx,e'⟩
  ·subst e';obtain⟨its,r,pl,hz⟩:=I.list hx;have hlen:=r.length;exact wpAny_truthy_list pl.isList (by simp only[JE]; omega) #[H,I.tok _,by rw[j8 r]; exact q]
  ·subst e';obtain⟨its,r,pl,hz⟩:=I.tuple hx;have hlen:=r.length;exact truthy_tuple pl (by simp only[JE]; omega) #[H,I.tok _,by rw[j8 r]; exact q]
  ·subst e';obtain⟨hz,hS,vs,r,m⟩ : U.length<=sizeLine/\(p==sysModules)=false/\∃vs,KV U vs/\s.heap.DictOf (mW X.prog X.w) p vs:=I.hok p _ hx;have hlen:U.length=vs.length:=NE r;exact wpAny_truthy_dict hS m ∅ #[H,I.tok _,by rw[qt r]; exact q]
 | _=>exact(show KA from e).elim
def qu:OpR X (binaryOp .Add) (λx y H Q=>∃i j,x=.str i/\y=.str j/\i.length+j.length<=sizeLine/\Q (.str (i++j)) H):=by
 intro J s Y H x y v u Q I rx ry h;obtain⟨i,j,rfl,rfl,hz,q⟩:=h;obtain⟨t,rfl⟩:=rx;obtain⟨t',rfl⟩:=ry;exact add_str (λt' tk=>#[.str (i++j),H,I.tok _,#[_,rfl],q]) hz
def oF {x:V}{us:Ja Jd}(r:Vals [x] us):∃u,us=[u]/\RelV x u:=by
 cases r with
 | cons r1 r2=>cases r2; exact#[_,rfl,r1]
def lZ:CallR X (.type "int") (λxs H Q=>(∃i,xs=[.int i]/\Q (.int i) H)\/∃k,xs=[.bl k]/\Q (.int (if k then 1 else 0)) H):=by
 intro J s Y H xs us Q I r h;rcases h with⟨i,rfl,q⟩|⟨k,rfl,q⟩
 ·obtain⟨u,rfl,t,rfl⟩:=oF r;exact call_int_int #[.int i,H,I,#[_,rfl],q]
 ·obtain⟨u,rfl,r1⟩:=oF r;cases r1;exact call_int_bool #[.int (if k then 1 else 0),H,I.tok _,#[_,rfl],q]
abbrev Hm (K:Jx)(x:V)(H:Hp)(n:Jg):Prop:=
 match x with
 | .str y=>y.length<=sizeLine/\n=y.length
 | .byt y=>y.size<=sizeLine/\n=y.size
 | .ref p=>(∃xs,SqL K H p xs/\n=xs.length)\/∃xs,SqT K H p xs/\n=xs.length
 | _=>KA
def j9:CallR X (.builtin "len") (λxs H Q=>∃x n,xs=[x]/\Hm X.K x H n/\Q (.int n) H):=by
 intro J s Y H xs us Q I r h;obtain⟨x,n,rfl,e,q⟩:=h;obtain⟨u,rfl,rx⟩:=oF r;have hl:=i9;have hs:sizeLine=16777216:=Kq;cases x with
 | str y=>
  obtain⟨t,rfl⟩:=rx;obtain⟨hy,e'⟩ : y.length<=sizeLine/\n=y.length:=e;subst e';exact len_str ∅ #[.int _,H,I.tok _,#[_,rfl],q]
 | byt y=>
  obtain⟨t,rfl⟩:=rx;obtain⟨hy,e'⟩ : y.size<=sizeLine/\n=y.size:=e;subst e';exact PySem.W.len_bytes ∅ #[.int _,H,I.tok _,#[_,rfl],q]
 | ref p=>
  cases rx;have e':(∃xs,SqL X.K H p xs/\n=xs.length)\/∃xs,SqT X.K H p xs/\n=xs.length:=e;rcases e' with⟨xs,hx,e'⟩|⟨xs,hx,e'⟩
  ·subst e';obtain⟨its,r',pl,hz⟩:=I.list hx;have hlen:=r'.length;exact Calls.call_len_list pl.isList (by simp only[JE]; omega) #[.int xs.length,H,I.tok _,#[_,by simp only[JE]; rw[hlen]],q]
  ·subst e';obtain⟨its,r',pl,hz⟩:=I.tuple hx;have hlen:=r'.length;exact len_tuple pl (by simp only[JE]; omega) #[.int xs.length,H,I.tok _,#[_,by simp only[JE]; rw[hlen]],q]
 | _=>exact(show KA from e).elim
end
structure Room (k:Jg)(A:J7):Prop where
 hd:A.handled=td
 dp:A.depth+3*k+5 < recursionLimit
 un:A.units+16*k+200 < cLine
def Room.deeper {k:Jg}{A:J7}(r:Room (k+1) A)(env:Pi):Room k (A.deeper env):=
 #[r.hd,by have:=r.dp; show A.depth+1+3*k+5 < _; omega,by have:=r.un; show A.units+3+16*k+200 < _; omega]
def Room.depth {k:Jg}{A:J7}(r:Room k A):A.depth < recursionLimit:=by have:=r.dp; omega
abbrev CZ:TA:=λ_ H Q=>Q [] H
abbrev vO (ta:TE)(tr:TA):TA:=λY H Q=>ta Y H λx H1=>tr Y H1 λxs H2=>Q (x::xs) H2
section
variable{X:Cx}{e:JM}{es:Ja JM}{te:TE}{t:TA}{pos:LJ}
def qv:PA X [] CZ:=λ_ _ _ _ H Q I h=>Calls.spliced_nil #[[],H,I,.nil,h]
def ik (ha:PE X e te)(hr:PA X es t)(hs:starEach (e::es) X.env=(false,eval e X.env)::starEach es X.env:=by rfl):PA X (e::es) (vO te t):=by
 intro pos J s Y H Q I h;rw[hs];show wpAny _ _ (spliced ((false,eval e X.env)::backTo pos (starEach es X.env))) _ _ s;refine Calls.spliced_cons (bj (ha J s Y H _ I h) λu s1 #[x,H1,I1,r1,q1]=>?_)
 exact bj (hr pos J s1 Y H1 _ I1 q1) λus s2 #[xs,H2,I2,r2,q2]=>#[x::xs,H2,I2,.cons r1 r2,q2]
abbrev Hn (t:TA):TE:=λY H Q=>t Y H λxs H1=>xs.length<=sizeLine/\∀p,H1 p=td->Q (.ref p) (bS H1 p (.tup xs))
abbrev Ho (t:TA):TE:=λY H Q=>t Y H λxs H1=>xs.length<=sizeLine/\∀p,H1 p=td->Q (.ref p) (bS H1 p (.lst xs))
def C0 {x1}(h:PA X es t):PE X (.Tuple es x1 pos) (Hn t):=by
 intro J s Y H Q I hq;refine wpAny_Tuple_spliced (bj (h pos J s Y H _ I hq) λus s1 #[xs,H1,I1,r,z,q]=>#[by rw[<- r.length]; exact z,?_])
 have hf:H1 s1.heap.objs.size=td:=I1.hok.fresh (Jo _);refine#[.ref s1.heap.objs.size,bS H1 s1.heap.objs.size (.tup xs),I1.laid (t':=s1.toks) (λb u e=>Jm _ e) (Jo _) ?_,rfl,q _ hf]
 exact#[#[z,NoD.new _ _ _],us,r,#[_,JH _ rfl,rfl,_,rfl]]
def C3 (h:PA X es t):PE X (.List es pos) (Ho t):=by
 intro J s Y H Q I hq;refine O4 (bj (h pos J s Y H _ I hq) λus s1 #[xs,H1,I1,r,z,q]=>#[by rw[<- r.length]; exact z,?_])
 have hf:H1 s1.heap.objs.size=td:=I1.hok.fresh (Jo _);refine#[.ref s1.heap.objs.size,bS H1 s1.heap.objs.size (.lst xs),I1.laid (t':=s1.toks) (λb u e=>Jm _ e) (Jo _) ?_,rfl,q _ hf]
 exact#[z,us,0,r,JH _ rfl]
end
noncomputable abbrev Sp:=Ja V->Hp->VK->XK->Prop
noncomputable abbrev vz:=Ja Pi->Hp->Jh->XK->Jd->Jh->Prop
structure Env0 (P:J0)(w:Kc)(K:Jx)(mg:JG->Ji Jd)(base:Kl)(A:J7)(outer:Ja Pi)(s:Jh)(H:Hp):Prop where
 frames:A.frames=gV outer
 mod:Mod K mg base
 bs:∀b o,base.get? b=gV o->s.heap.get? b=gV o/\H b=td
 bsz:base.objs.size<=s.heap.objs.size
 funs:s.heap.FunFrames base outer
 frf:∀b∈qm outer,H b=td
 hok:HOk P w H s.heap
 bare:Nz s.gens
abbrev CE (outer:Ja Pi)(P:J0)(w:Kc)(H:Hp)(s:Jh)(Q:VK)(u:Jd)(s':Jh):Prop:=
 ∃v H',s'.os=s.os/\Nz s'.gens/\Un (qm outer) [] H H' s.heap s'.heap/\HOk P w H' s'.heap/\RelV v u/\Q v H'
abbrev CR (CX:vz)(outer:Ja Pi)(P:J0)(w:Kc)(H:Hp)(s:Jh)(Q:VK)(E:XK)(r:PU)(s':Jh):Prop:=
 match r with
 | .ok (.ret u)=>CE outer P w H s Q u s'
 | .ok _=>KA
 | .error e=>CX outer H s E e s'
structure FnOk (P:J0)(w:Kc)(K:Jx)(mg:JG->Ji Jd)(base:Kl)(CX:vz)(k:Jg)(f:Jn)(fd:Lr)(ps:Ja JG)(sp:Sp):Prop where
 len:∀vs H Q E,sp vs H Q E->vs.length=ps.length
 run:∀(A:J7) (outer:Ja Pi) (s:Jh) (H:Hp) (args:Args) (us:Ja Jd) (vs:Ja V) (Q:VK) (E:XK),Room k A->Env0 P w K mg base A outer s H->Pn s fd args (ps.zip us)->Vals vs us->sp vs H Q E->
  codeAny (model P w) A (.call (.ref f) args) (CR CX outer P w H s Q E) s
section
variable{X:Cx}{J:Ja (Jn×KZ)}{Y:St}{H:Hp}{s s':Jh}
def Inv.env0 (I:Inv X J Y H s):Env0 X.prog X.w X.K X.mg X.base X.A X.stack s H:=
 #[I.ok.frames,I.ok.mod,I.bs,JY I.ok.bsz I.sz,I.stack,I.stkFree,I.hok,I.bare]
def Inv.after {Q:VK}{u:Jd}(I:Inv X J Y H s)(h:CE X.stack X.prog X.w H s Q u s'):EP X J Y Q u s':=by
 obtain⟨v,H',os,bare,un,hok,r,q⟩:=h;obtain⟨hh,g,d,t,os'⟩:=s';obtain rfl:os'=s.os:=os;exact#[v,H',I.call (h':=hh) (g':=g) (d':=d) (t':=t) (ch:=[]) un hok bare (λb z=>absurd z (by simp)),r,q]
end
abbrev oG (sp:Sp)(dvs:Ja V)(E:XK)(t:TA):TE:=λY H Q=>t Y H λvs H1=>sp (vs++dvs) H1 Q E
abbrev Binds (K:Jx)(fd:Lr)(ps:Ja JG)(ds:Ja Jd):Prop:=
 ∀(s:Jh) (us:Ja Jd),K.In s.heap->(us++ds).length=ps.length->Pn s fd #[us,[]] (ps.zip (us++ds))
def Binds.all {K:Jx}{fd:Lr}{ps:Ja JG}(h:∀us:Ja Jd,us.length=ps.length->bindArgs fd #[us,[]]=pure (ps.zip us)):Binds K fd ps []:=λs us _ hl=>by
 rw[Ky]at hl ⊢;exact .of_eq (h us hl)
abbrev jb (CX:vz)(X:Cx)(E:XK):Prop:=∀(J:Ja (Jn×KZ)) (Y:St) (H:Hp) (s:Jh) (e:Jd) (s':Jh),Inv X J Y H s->CX X.stack H s E e s'->X.xe e s'
section
variable{X:Cx}{CX:vz}{k:Jg}{f C:Jn}{fd:Lr}{ps:Ja JG}{sp:Sp}{dvs:Ja V}{ds:Ja Jd}{E:XK}{x m:JG}{p pos apos:LJ}{e o:JM}{es:Ja JM}{ta:TE}{t:TA}
def mZ {J:Ja (Jn×KZ)}{Y:St}{H:Hp}{s:Jh}{Q:VK}{us:Ja Jd}{vs:Ja V}(F:FnOk X.prog X.w X.K X.mg X.base CX k f fd ps sp)(hr:Room k X.A)(hb:Binds X.K fd ps ds)(hd:Vals dvs ds)(hx:jb CX X E)
  (I:Inv X J Y H s) (r:Vals vs us) (h:sp (vs++dvs) H Q E):wpAny (model X.prog X.w) X.A (call (.ref f) us) (EP X J Y Q) X.xe s:=by
 have r2:Vals (vs++dvs) (us++ds):=r.append hd;have hl:(us++ds).length=ps.length:=by rw[<- r2.length]; exact F.len _ _ _ _ h
 refine wpAny_call (N1 (F.run X.A X.stack s H #[us,[]] (us++ds) (vs++dvs) Q E hr I.env0 (hb s us I.kIn hl) r2 h) λr s' hq=>?_)
 cases r with
 | error e=>exact hx J Y H s e s' I hq
 | ok fl=>
  cases fl with
  | ret u=>exact I.after hq
  | next=>exact KA.elim hq
  | brk=>exact KA.elim hq
  | cont=>exact KA.elim hq
def zM (F:FnOk X.prog X.w X.K X.mg X.base CX k f fd ps sp)(hr:Room k X.A)(hg:Gl X x)(hm:X.mg x=gV (.ref f))(hk:Kv X.K (.ref f)=true)(hb:Binds X.K fd ps ds)(hd:Vals dvs ds)(hx:jb CX X E)
  (ha:PA X (e::es) t) (hdb:(x==("__debug__" : JG))=false:=by decide) (he:starEach (e::es) X.env=(false,eval e X.env)::starEach es X.env:=by rfl) (hpl:(backTo pos (starEach es X.env)).any (·.1)=false:=by rfl) :
  PE X (.Call (.Name x p) (e::es) [] pos) (oG sp dvs E t):=by
 intro J s Y H Q I h;refine MJ (mY I hg hm ?_ hdb);refine Nh (h₀:=X.base) I.ok.mod.kin hk (bj (ha pos J s Y H _ I h) λus s1 #[vs,H1,I1,r,q]=>#[I1.kIn,?_]) he hpl
 exact mZ F hr hb hd hx I1 r q
def vP (F:FnOk X.prog X.w X.K X.mg X.base CX k f fd ps sp)(hr:Room k X.A)(hg:Gl X x)(hm:X.mg x=gV (.ref f))(hk:Kv X.K (.ref f)=true)(hb:Binds X.K fd ps ds)(hd:Vals dvs ds)(hx:jb CX X E)
  (hdb:(x==("__debug__" : JG))=false:=by decide):PE X (.Call (.Name x p) [] [] pos) (oG sp dvs E CZ):=by
 intro J s Y H Q I h;refine MJ (mY I hg hm ?_ hdb);exact PySem.W.callWith_K0 I.kIn hk (mZ (us:=[]) F hr hb hd hx I .nil h)
end
structure FnScope (N P:Ja JG)(sc:Ml):Prop where
 kind:sc.kind=.function
 co:sc.isCoroutine=false
 gen:sc.isGenerator=false
 nd:N.Nodup
 pre:N.take P.length=P
 par:∀x∈P,sc.names.lookup x=gV .local\/sc.names.lookup x=gV .cell
 nofree:∀y∈sc.names,y.2≠.free
def l4 {kindOf:JG->Ji Lb}{x:JG}:∀ {binds:Ja (JG×Jd)} {m:JG->Ji Jd},(∀v,(x,v)∉binds)->bindL kindOf binds m x=m x
 | [],_,_=>rfl
 | (n,v)::r,m,h=>by
  unfold bindL;rw[l4 λw hw=>h w (Ko _ hw)]
  split
  ·have:x≠n:=by rintro rfl; exact h v KM
   simp[this]
  ·rfl
def l5 {kindOf:JG->Ji Lb}{x:JG}:∀ {binds:Ja (JG×Jd)} {m:JG->Ji Jd},(∀v,(x,v)∉binds)->bindC kindOf binds m x=m x
 | [],_,_=>rfl
 | (n,v)::r,m,h=>by
  unfold bindC;rw[l5 λw hw=>h w (Ko _ hw)]
  split
  ·rfl
  ·have:x≠n:=by rintro rfl; exact h v KM
   simp[this]
def l7 {kindOf:JG->Ji Lb}{x:JG}{v:Jd}:∀ {P:Ja JG} {vs:Ja Jd} {i:Jg} {m:JG->Ji Jd},P.Nodup->P[i]?=gV x->vs[i]?=gV v->kindOf x=gV .local->
  bindL kindOf (P.zip vs) m x=gV v
 | [],_,_,_,_,h,_,_=>by simp at h
 | _::_,[],_,_,_,_,h,_=>by simp at h
 | p::P,w::vs,0,m,nd,h1,h2,hk=>by
  simp at h1 h2; subst h1; subst h2
  show bindL kindOf ((p,w)::P.zip vs) m p=_;unfold bindL;rw[l4 λv hv=>(K6.mp nd).1 (Oc hv).1,JK hk]
  simp
 | p::P,w::vs,i+1,m,nd,h1,h2,hk=>by
  show bindL kindOf ((p,w)::P.zip vs) m x=_;unfold bindL;exact l7 (i:=i) (K6.mp nd).2 (by simpa using h1) (by simpa using h2) hk
def ma {kindOf:JG->Ji Lb}{x:JG}{v:Jd}:∀ {P:Ja JG} {vs:Ja Jd} {i:Jg} {m:JG->Ji Jd},P.Nodup->P[i]?=gV x->vs[i]?=gV v->kindOf x≠gV .local->
  bindC kindOf (P.zip vs) m x=gV v
 | [],_,_,_,_,h,_,_=>by simp at h
 | _::_,[],_,_,_,_,h,_=>by simp at h
 | p::P,w::vs,0,m,nd,h1,h2,hk=>by
  simp at h1 h2; subst h1; subst h2
  show bindC kindOf ((p,w)::P.zip vs) m p=_;unfold bindC;rw[l5 λv hv=>(K6.mp nd).1 (Oc hv).1,JU hk]
  simp
 | p::P,w::vs,i+1,m,nd,h1,h2,hk=>by
  show bindC kindOf ((p,w)::P.zip vs) m x=_;unfold bindC;exact ma (i:=i) (K6.mp nd).2 (by simpa using h1) (by simpa using h2) hk
abbrev fN (N:Ja JG)(vs:Ja V):St:=vs.map gV++Ke (N.length - vs.length) td
abbrev qw (CX:vz)(P:J0)(w:Kc)(K:Jx)(mg:JG->Ji Jd)(base:Kl)(N:Ja JG)(qual:JG)(scope:Ml)(f:Jn)(cd:Jd)(A:J7)(outer:Ja Pi)(s:Jh)(H:Hp)(E:XK):Cx where
 prog:=P
 w:=w
 K:=K
 mg:=mg
 base:=base
 A:=A.deeper (envOfC qual scope s.heap.objs.size f cd)
 N:=N
 s₀:=s
 H₀:=H
 env:=envOfC qual scope s.heap.objs.size f cd
 outer:=outer
 stack:=envOfC qual scope s.heap.objs.size f cd::outer
 ex:=[]
 calm:=true
 fn:=λ_=>true
 pn:=[]
 xe:=λe s'=>wpAny (model P w) (A.deeper (envOfC qual scope s.heap.objs.size f cd)) (leaving (envOfC qual scope s.heap.objs.size f cd) e) (λ_ s''=>CX outer H s E e s'') (λe' s''=>CX outer H s E e' s'') s'
def oH {sc:Ml}{n:Jg}{x:JG}(h:sc.names.lookup x=gV .cell):∃c,(cellsFrom n sc.names []).lookup x=gV c:=by
 have q:=N2 sc.names n [] (.inl h);exact Kn.mp q
def tW {CX:vz}{P:J0}{w:Kc}{K:Jx}{mg:JG->Ji Jd}{base:Kl}{N ps:Ja JG}{qual:JG}{scope:Ml}{f:Jn}{cd:Jd}{A:J7}{outer:Ja Pi}{s s1:Jh}{H:Hp}{E:XK}{us:Ja Jd}{vs:Ja V}
  (S:FnScope N ps scope) (hd:A.handled=td) (e0:Env0 P w K mg base A outer s H) (hl:vs.length=ps.length) (r:Vals vs us)
  (x:InCallC s s.heap.objs.size (bindL (envOfC qual scope s.heap.objs.size f cd).kindOf (ps.zip us) λ_=>td) (cellsFrom (s.heap.objs.size+1) scope.names []) (bindC (envOfC qual scope s.heap.objs.size f cd).kindOf (ps.zip us) λ_=>td) s1) :
  Inv (qw CX P w K mg base N qual scope f cd A outer s H E) [] (fN N vs) H s1:=by
 have hpl:ps.length<=N.length:=by have:=congrArg Rr S.pre; rw[JQ]at this; omega
 obtain⟨h1,tk,rfl,hk⟩:=x.done;have noA:∀b:Jn,b∉(qw CX P w K mg base N qual scope f cd A outer s H E).ex:=λb z=>absurd (show b∈([]:Ja Jn)from z) (by simp)
 refine#[#[e0.mod,S.kind,rfl,rfl,Jo _,λy z c h1 h2=>?_,λy hy=>?_,λy c _ h=>?_,λ_=>hd,Around.frames_deeper e0.frames,.inr #[rfl,rfl],λb z=>absurd z (noA b),e0.bs,e0.bsz,λb _ _=>noA b,λb z=>absurd z (noA b),e0.funs,e0.frf],
  rfl,e0.bare,Un.kept hk,#[_,x.toInCall.ns,λi y v h1 h2 h3=>?_],λy c h=>#[_,x.cell y c h],e0.hok.fresh (Jo _),λy c h=>?_,λp hp=>absurd (show p∈([]:Ja (Jn×KZ))from hp) (by simp),e0.hok.kept hk,?_]
 ·exact name_of_addr x.apart (L5 h1) (L5 h2)
 ·have hy:scope.names.lookup y=gV .cell\/scope.names.lookup y=gV .free:=hy;rcases hy with hy|hy
  ·exact oH hy
  ·exact absurd rfl (S.nofree _ (L5 hy))
 ·exact MQ (x.above y c (L5 h))
 ·have hi:i < vs.length:=by
   unfold fN at h2
   by_cases hi:i < vs.length
   ·exact hi
   ·rw[J9 (by simpa using hi)]at h2
    rw[List.getElem?_replicate]at h2;split at h2 <;> cases h2
  have ha:vs[i]?=gV v:=by
   unfold fN at h2;rw[JZ (by simpa using hi),Jl]at h2
   cases e:vs[i]? with
   | none=>rw[e]at h2; cases h2
   | some a=>rw[e]at h2; cases h2; rfl
  obtain⟨u,hu,rv⟩:=r.get ha;have hp:ps[i]?=gV y:=by
   rw[<- S.pre,MC ∅]; exact h1
  have ndP:ps.Nodup:=by rw[<- S.pre]; exact S.nd.sublist (Po _ _)
  refine#[u,rv,?_];rcases S.par y (Jq hp)with k|k
  ·exact .inl #[k,l7 ndP hp hu k]
  ·obtain⟨c,e⟩:=oH (n:=s.heap.objs.size+1) k;refine .inr #[.inl k,c,e,?_];have q:=x.cell y c e;rw[ma ndP hp hu (by show scope.names.lookup y≠_; rw[k]; decide)]at q
   exact q
 ·exact e0.hok.fresh (MQ (x.above y c (L5 h)))
 ·unfold fN;show _=N.length;rw[Je,Jb,On];omega
def E5 {CX:vz}{P:J0}{w:Kc}{K:Jx}{mg:JG->Ji Jd}{base:Kl}{k:Jg}{f:Jn}{name qual:JG}{params:Arguments}{body:Ja L4}{scope:Ml}{dV kV doc pm cdv ct oc:Jd}{an od:Ji Jn}
  {osl:Kh (Ji Jd)} {N ps:Ja JG} {sp:Sp} (lk:K.lookup f=gV #[oc,od,.func (Lo name qual params body scope dV kV doc pm an cdv ct),osl]) (hcd:L8 K cdv qual=true) (S:FnScope N ps scope)
  (len:∀vs H Q E,sp vs H Q E->vs.length=ps.length)
  (hbody:∀(A:J7) (outer:Ja Pi) (s:Jh) (H:Hp) (vs:Ja V) (Q:VK) (E:XK),Room k (A.deeper (envOfC qual scope s.heap.objs.size f cdv))->sp vs H Q E->
   ∃t,PSs (qw CX P w K mg base N qual scope f cdv A outer s H E) body t/\t { nx:=λ_ H'=>Q .non H',rt:=Q } (fN N vs) H) :
  FnOk P w K mg base CX (k+1) f (Lo name qual params body scope dV kV doc pm an cdv ct) ps sp:=by
 refine#[len,λA outer s H args us vs Q E hr e0 hb r hsp=>?_]
 have hl:=len _ _ _ _ hsp;have KX:K.In s.heap:=e0.mod.kin.keeps λb o e=>(e0.bs b o e).1
 have lim:s.heap.NoLimit:=e0.mod.nolimit.keeps λb o e=>(e0.bs b o e).1
 have hkind:∀y∈ps.zip us,scope.names.lookup y.1=gV .local\/(scope.names.lookup y.1=gV .cell/\((cellsFrom (s.heap.objs.size+1) scope.names []).lookup y.1).isSome=true):=λ#[n,v] hy=>by
  rcases S.par n (Oc hy).1 with q|q
  ·exact .inl q
  ·exact .inr #[q,N2 _ _ _ (.inl q)]
 refine codeAny_call_function hr.depth (KX _ _ lk) rfl S.co S.gen rfl (PySem.W.codeRec_of KX hcd) (hb _ _ _ _ ?_);refine wpAny_newFunctionEnv_cells S.kind hkind λenv he s1 x=>?_
 subst he;refine#[lim.keeps x.toInCall.keep,codeAny_func ?_];obtain⟨t,ht,hq⟩:=hbody A outer s H vs Q E (hr.deeper _) hsp;have I:Inv (qw CX P w K mg base N qual scope f cdv A outer s H E) [] (fN N vs) H s1:=tW S hr.hd e0 hl r x;refine Lc (ht [] s1 (fN N vs) H _ I hq) (λfl s' hs=>?_) λe s' hs=>hs
 have fin:∀ {Y':St} {H':Hp} {v:V} {u:Jd},Inv (qw CX P w K mg base N qual scope f cdv A outer s H E) [] Y' H' s'->RelV v u->Q v H'->CE outer P w H s Q u s':=
  λ{Y' H' v u} tv rv q=>#[v,H',tv.os,tv.bare,tv.base,tv.hok,rv,q]
 cases fl with
 | ret u=>
  obtain⟨v,Y',H',tv,rv,q⟩:=hs;exact fin tv rv q
 | next=>
  obtain⟨Y',H',tv,q⟩:=hs;exact fin (v:=V.non) (u:=Kt) tv rfl q
 | brk=>
  obtain⟨_,_,_,q⟩:=hs;exact KA.elim q
 | cont=>
  obtain⟨_,_,_,q⟩:=hs;exact KA.elim q
section
variable{X:Cx}{x:JG}{p pos:LJ}{e:JM}{es:Ja JM}{t:TA}{id T:KL}{r:Ja V->Hp->VK->Prop}
abbrev Ir (r:Ja V->Hp->VK->Prop)(t:TA):TE:=λY H Q=>t Y H λvs H1=>r vs H1 Q
def oI (hc:CallR X (.builtin id) r)(hg:Gl X x)(hm:X.mg x=td)(hv:bootBuiltins x=gV (.builtin id))(ha:PA X (e::es) t)(hn:x≠"__name__":=by decide)(hdb:(x==("__debug__" : JG))=false:=by decide)
  (he:starEach (e::es) X.env=(false,eval e X.env)::starEach es X.env:=by rfl) (hpl:(backTo pos (starEach es X.env)).any (·.1)=false:=by rfl):PE X (.Call (.Name x p) (e::es) [] pos) (Ir r t):=by
 intro J s Y H Q I h;refine MJ (i4 I hg hm hv ?_ hn hdb);exact PV (bj (ha pos J s Y H _ I h) λus s1 #[vs,H1,I1,r1,q1]=>hc J s1 Y H1 vs us Q I1 r1 q1) he hpl
def tX (hc:CallR X (.type T) r)(hg:Gl X x)(hm:X.mg x=td)(hv:bootBuiltins x=gV (.type T))(ha:PA X (e::es) t)(hn:x≠"__name__":=by decide)(hdb:(x==("__debug__" : JG))=false:=by decide)
  (he:starEach (e::es) X.env=(false,eval e X.env)::starEach es X.env:=by rfl) (hpl:(backTo pos (starEach es X.env)).any (·.1)=false:=by rfl):PE X (.Call (.Name x p) (e::es) [] pos) (Ir r t):=by
 intro J s Y H Q I h;refine MJ (i4 I hg hm hv ?_ hn hdb);exact LC (bj (ha pos J s Y H _ I h) λus s1 #[vs,H1,I1,r1,q1]=>hc J s1 Y H1 vs us Q I1 r1 q1) he hpl
end
end L2
namespace HT
open PySem PyProof.Rows
section
open PySem.SeqAt
open PySem.AutoSeq1 (wpAny_loadPart')
open PySem.MeetsSeq PySem.MeetsSeq2 PySem.MeetsSeq3
end
section
variable{prog:J0}{w:Kc}{A:J7}{E:Jd->Jh->Prop}{s:Jh}
def zN {t b:Jn}{vs ws:Ja Jd}{Q:Jd->Jh->Prop}(ht:Ph s.heap t vs.toArray)(hb:Ph s.heap b ws.toArray)(hv:vs≠[])
  (h1:ws=[]->Q (.ref t) s) (h2:ws≠[]->Q (.ref s.heap.objs.size) { s with heap:=s.heap.push { cls:=.type "tuple",data:=.seq (vs++ws).toArray } })
  (hsz:vs.length+ws.length<=sizeLine):wpAny (model prog w) A (binaryOp .Add (.ref t) (.ref b)) Q E s:=by
 obtain⟨⟨cls,dd,data,sl⟩,ho,hc,n,hd⟩:=id ht;obtain⟨⟨cls2,dd2,data2,sl2⟩,ho2,hc2,n2,hd2⟩:=id hb;simp only at hc hd hc2 hd2;subst hc hd hc2 hd2;have e:vs.toArray++ws.toArray=(vs++ws).toArray:=by simp
 by_cases hw:ws=[]
 ·exact Pp #[_,ho,rfl] #[_,ho2,rfl] NP OS MR MN (MD _ _)
   (tuple_addW1 t b vs.toArray ws.toArray n n2 dd dd2 sl sl2 (by simpa using hv) (by simp[hw])) #[ho,ho2,h1 hw]
 ·refine Pp #[_,ho,rfl] #[_,ho2,rfl] NP OS MR MN (MD _ _)
   (tuple_addW2 t b vs.toArray ws.toArray n n2 dd dd2 sl sl2 (by simpa using hv) (by simpa using hw) (by rw[JE,JE]; exact hsz)) #[ho,ho2,?_]
  rw[e];exact h2 hw
abbrev cx (n d:Jg):Ji Jk->Jg
 | none=>d
 | some v=>if v < 0 then(v+(n:Jk)).toNat else min v.toNat n
def kb (n d:Jg):cx n d td=d:=rfl
def rS (n d k:Jg):cx n d (gV (k:Jk))=min k n:=by
 show(if (k:Jk) < 0 then((k:Jk)+(n:Jk)).toNat else min (k:Jk).toNat n)=min k n
 rw[JU ∅,JC]
def C4 (n d:Jg)(hd:d<=n)(o:Ji Jk):cx n d o<=n:=by
 cases o with
 | none=>exact hd
 | some v=>
  show(if v < 0 then(v+(n:Jk)).toNat else min v.toNat n)<=n
  by_cases hv:v < 0
  ·rw[JK hv]; omega
  ·rw[JU hv]; exact PX _ _
def rT (v:Jk)(n d:Jg):(if v < 0 then max (v+(n:Jk)) 0 else min v (n:Jk))=((cx n d (gV v):Jg):Jk):=by
 show(if v < 0 then max (v+(n:Jk)) 0 else min v (n:Jk))=(((if v < 0 then(v+(n:Jk)).toNat else min v.toNat n):Jg):Jk)
 by_cases hv:v < 0
 ·simp only[JK hv]; omega
 ·simp only[JU hv]; omega
def qx (lo hi:Ji Jk)(n:Jg):Mx lo hi 1 (n:Jk)=(((cx n 0 lo:Jg):Jk),((cx n n hi:Jg):Jk)):=by
 have h1:¬ ((1:Jk) < 0):=∅
 unfold Mx;simp only[h1,LU];refine Rs ?_ ?_
 ·cases lo with
  | none=>rfl
  | some v=>exact rT v n 0
 ·cases hi with
  | none=>rfl
  | some v=>exact rT v n n
def qy (i j:Jg):LO (i:Jk) (j:Jk) 1=j - i:=by
 unfold LO;have h1:(1:Jk) > 0:=∅
 simp only[h1,LV,Int.ediv_one];split <;> omega
def ke {v:Jd}{o:Ji Jk}{Q:Ji Jk->Jh->Prop}(p:Ni v o)(h:Q o s):wpAny (model prog w) A (Qf v) Q E s:=by
 cases p with
 | none=>exact Qs h
 | int i t=>exact slicePart_int h
def eL {sl:Jn}{vl vu:Jd}{lo hi:Ji Jk}{n:Jg}{Q:Jk×Jk×Jg->Jh->Prop}(hs:s.heap.IsSliceOf sl vl vu .none)(pl:Ni vl lo)(pu:Ni vu hi)
  (h:Q (((cx n 0 lo:Jg):Jk),1,cx n n hi - cx n 0 lo) s):wpAny (model prog w) A (Nj (.ref sl) (pure (n:Jk))) Q E s:=by
 obtain⟨os,hos,hcs,hds⟩:=id hs;unfold Nj QL;refine Jc (Jc (Ls hos hds (x:=vl) rfl (Jc (Ls hos hds (x:=vu) rfl (Jc (Ls hos hds (x:=.none) rfl (Js ?_)))))));refine Jc (Qs ?_);show wpAny _ _ (if ((1:Jk)==0)=true then _ else _) _ _ s
 rw[JU #v[]]
 refine Jc (ke pl (Jc (ke pu (Jc (Js ?_)))));show wpAny _ _ (match Mx lo hi 1 (n:Jk)with|(lo,hi)=>pure (lo,(1:Jk),LO lo hi 1)) _ _ s
 rw[qx lo hi n];show wpAny _ _ (pure (((cx n 0 lo:Jg):Jk),(1:Jk),LO ((cx n 0 lo:Jg):Jk) ((cx n n hi:Jg):Jk) 1)) _ _ s;rw[qy];exact Js h
def vQ (xs:Kh Jd)(i k:Jg):((Jw k).filterMap λ(m:Jg)=>xs[((i:Jk)+(m:Jk)*1).toNat]?).toArray=((xs.toList.drop i).take k).toArray:=by
 have e:(λ(m:Jg)=>xs[((i:Jk)+(m:Jk)*1).toNat]?)=λm=>xs[i+m]?:=by
  funext m
  have:((i:Jk)+(m:Jk)*1).toNat=i+m:=∅
  rw[this]
 rw[e];have:=pick_run xs i k;rw[List.filterMap_map]at this;have e2:((λx=>xs[x]?)∘λx=>i+x)=λm=>xs[i+m]?:=rfl
 rw[e2]at this;rw[this]
def io {t sl:Jn}{items:Kh Jd}{vl vu:Jd}{lo hi:Ji Jk}{Q:Jd->Jh->Prop}(ht:Ph s.heap t items)(hs:s.heap.IsSliceOf sl vl vu .none)(pl:Ni vl lo)(pu:Ni vu hi)
  (hw:¬ (cx items.size 0 lo=0/\cx items.size items.size hi=items.size))
  (h:Q (.ref s.heap.objs.size) { s with heap:=s.heap.push { cls:=.type "tuple",data:=.seq ((items.toList.drop (cx items.size 0 lo)).take (cx items.size items.size hi - cx items.size 0 lo)).toArray } })
  (hsz:items.size<=sizeLine):wpAny (model prog w) A (getItem (.ref t) (.ref sl)) Q E s:=by
 have htake:sizeOk (.seq ((items.toList.drop (cx items.size 0 lo)).take (cx items.size items.size hi - cx items.size 0 lo)).toArray):=by
  show((items.toList.drop (cx items.size 0 lo)).take (cx items.size items.size hi - cx items.size 0 lo)).toArray.size<=sizeLine;rw[JE,JQ,L9,J6];omega
 have hj:cx items.size items.size hi<=items.size:=C4 _ _ (Jo _) hi;obtain⟨os,hos,hcs,hds⟩:=id hs;have hTs:s.TypeIs (.ref sl) "slice":=#[os,hos,hcs];unfold getItem
 try with_reducible refine KP ?_
 first|refine Jc (Js ?_)|skip
 refine Jc (Pq ht.typeIs #v[] ?_)
 refine Jc (Kx (name:=LD "__getitem__") ht.typeIs Lh
  (KI Lh ht.typeIs OM ?_ (O5 _ _)))
 show wpAny _ _ (Mq (.ref t) >>= _) _ _ s;refine Jc (QR ht ?_);refine Jc (M9 hTs ?_);rw[JK #v[]]
 refine Jc (eL hs pl pu ?_);have hno:¬ ((((cx items.size 0 lo:Jg):Jk)==0&&(1:Jk)==1&&(cx items.size items.size hi - cx items.size 0 lo)==items.size)=true):=by
  intro q;rw[Jj,Jj]at q;have q1:((cx items.size 0 lo:Jg):Jk)=0:=eq_of_beq q.1.1;have q2:cx items.size items.size hi - cx items.size 0 lo=items.size:=eq_of_beq q.2;exact hw #[∅,∅]
 show wpAny _ _ (if (((cx items.size 0 lo:Jg):Jk)==0&&(1:Jk)==1&&(cx items.size items.size hi - cx items.size 0 lo)==items.size)=true then _ else _) _ _ s
 rw[JU hno,vQ]
 first
  | exact Jc (m:=K5 _) (Km (Js #[_,rfl,Js h]) htake)
  | exact Jc (m:=K5 _) (Km (Jc (Js (Js #[_,rfl,Js h]))) htake)
  | exact Jc (Jc (m:=K5 _) (Km (Js (Js #[_,rfl,Js h])) htake))
  | exact Jc (Jc (m:=K5 _) (Km (Js #[_,rfl,Js h]) htake))
end
end HT
namespace L2
open PySem PySem.Spec PyProof.Rows
noncomputable abbrev TO:=St->Hp->(Ji Jk->Hp->Prop)->Prop
abbrev PO (X:Cx)(e:Ji JM)(t:TO):Prop:=
 ∀(J:Ja (Jn×KZ)) (s:Jh) (Y:St) (H:Hp) (Q:Ji Jk->Hp->Prop),Inv X J Y H s->t Y H Q->
  wpAny (model X.prog X.w) X.A (evalPart e X.env) (λu s'=>∃o H',Inv X J Y H' s'/\Ni u o/\Q o H') X.xe s
abbrev zO:TO:=λ_ H Q=>Q td H
abbrev E6 (t:TE):TO:=λY H Q=>t Y H λx H1=>∃i,x=.int i/\Q (gV i) H1
section
variable{X:Cx}{e:JM}{te:TE}{lo hi:Ji JM}{tl th:TO}{pos p2:LJ}
def zP:PO X td zO:=by
 intro J s Y H Q I h;rw[QS];exact Js #[td,H,I,.none,h]
def zQ (h:PE X e te):PO X (gV e) (E6 te):=by
 intro J s Y H Q I hw;rw[evalPart_some];refine bj (h J s Y H _ I hw) λu s1 #[x,H1,I1,r1,q1]=>?_
 obtain⟨i,rfl,q⟩:=q1;obtain⟨t,rfl⟩:=r1;exact#[gV i,H1,I1,.int i t,q]
abbrev E7 (X:Cx)(r:V->Ji Jk->Ji Jk->Hp->VK->Prop):Prop:=
 ∀(J:Ja (Jn×KZ)) (s:Jh) (Y:St) (H:Hp) (x:V) (v vl vu:Jd) (lo hi:Ji Jk) (sl:Jn) (Q:VK),Inv X J Y H s->RelV x v->s.heap.IsSliceOf sl vl vu .none->Ni vl lo->Ni vu hi->r x lo hi H Q->
  ∃T id,typeLookup (.type T) "__getitem__" = pure (gV (.builtin id))/\s.TypeIs v T/\wpAny (model X.prog X.w) X.A (getItem v (.ref sl)) (EP X J Y Q) X.xe s
abbrev IG (r:V->Ji Jk->Ji Jk->Hp->VK->Prop)(te:TE)(tl th:TO):TE:=λY H Q=>te Y H λx H1=>tl Y H1 λl H2=>th Y H2 λu H3=>r x l u H3 Q
def vR {r:V->Ji Jk->Ji Jk->Hp->VK->Prop}(hr:E7 X r)(he:PE X e te)(hl:PO X lo tl)(hu:PO X hi th):PE X (.Subscript e (.Slice lo hi td p2) pos) (IG r te tl th):=by
 intro J s Y H Q I h;refine Qt (bj (he J s Y H _ I h) λv s1 #[x,H1,I1,r1,q1]=>?_)
 refine wpAny_Slice (bj (hl J s1 Y H1 _ I1 q1) λvl s2 #[l,H2,I2,pl,q2]=>bj (hu J s2 Y H2 _ I2 q2) λvu s3 #[u,H3,I3,pu,q3]=>?_)
 rw[QS];refine Js ?_;have I4:Inv X J Y H3 { s3 with heap:=s3.heap.push { cls:=.type "slice",data:=.fields [vl,vu,.none].toArray } }:=I3.kept (t':=s3.toks) λb ob q=>Jm _ q
 obtain⟨T,id,hT,ht,hg⟩:=hr J { s3 with heap:=s3.heap.push { cls:=.type "slice",data:=.fields [vl,vu,.none].toArray } } Y H3 x v vl vu l u s3.heap.objs.size Q I4 r1 (RI ..) pl pu q3
 show wpAny (model X.prog X.w) X.A (subscriptTail e (.Slice lo hi td p2) v (.ref s3.heap.objs.size)) (EP X J Y Q) X.xe { s3 with heap:=s3.heap.push { cls:=.type "slice",data:=.fields [vl,vu,.none].toArray } }
 exact tail_any (ops:=[.ref s3.heap.objs.size,v]) ht hT hg (by with_unfolding_all rfl)
abbrev kg (xs:Ja V)(lo hi:Ji Jk):Ja V:=(xs.drop (HT.cx xs.length 0 lo)).take (HT.cx xs.length xs.length hi - HT.cx xs.length 0 lo)
def jy (xs:Ja V)(lo hi:Ji Jk):(kg xs lo hi).length<=xs.length:=by
 unfold kg;rw[JQ,L9];omega
abbrev Hq (K:Jx):V->Ji Jk->Ji Jk->Hp->VK->Prop:=λx lo hi H Q=>∃a xs,x=.ref a/\SqT K H a xs/\
 ¬ (HT.cx xs.length 0 lo=0/\HT.cx xs.length xs.length hi=xs.length)/\∀p,H p=td->Q (.ref p) (bS H p (.tup (kg xs lo hi)))
def C5:E7 X (Hq X.K):=by
 intro J s Y H x v vl vu lo hi sl Q I rx hs pl pu h;obtain⟨a,xs,rfl,hx,hw,q⟩:=h;cases rx;obtain⟨its,r,ht,hz⟩:=I.tuple hx;have hlen:its.toArray.size=xs.length:=by rw[JE]; exact r.length.symm
 refine#["tuple",_,PyProof.Rows.slot_tuple_getitem.lookup,ht.typeIs,?_];refine HT.io ht hs pl pu (by rw[hlen]; exact hw) ?_ (by rw[hlen]; exact hz)
 rw[hlen];refine#[.ref s.heap.objs.size,_,I.laid (t':=s.toks) (o:=.tup (kg xs lo hi)) (λb ob q=>Jm _ q) (Jo _) ?_,rfl,q _ (I.hok.fresh (Jo _))]
 exact#[#[JY (jy xs lo hi) hz,NoD.new _ _ _],_,(r.drop (HT.cx xs.length 0 lo)).take (HT.cx xs.length xs.length hi - HT.cx xs.length 0 lo),PR _ _]
def Vals.nil_iff {xs:Ja V}{us:Ja Jd}(r:Vals xs us):us=[]↔xs=[]:=by
 cases r with
 | nil=>simp
 | cons _ _=>simp
end
abbrev rV (n:Jg)(i:Jk):Ji Jg:=if 0<=i then(if i < n then gV i.toNat else td)else if -(n:Jk)<=i then gV (i+n).toNat else td
abbrev oJ {α:Type}(xs:Ja α)(i:Jk):Ji α:=(rV xs.length i).bind λj=>xs[j]?
def rW {n:Jg}{i:Jk}{j:Jg}(h:rV n i=gV j):seqIndex? i n=gV j/\j < n/\-(n:Jk)<=i/\i < n:=by
 unfold rV at h
 by_cases h0:0<=i
 ·rw[JK h0]at h
  by_cases h1:i < n
  ·rw[JK h1]at h;have e:i.toNat=j:=Ku h;exact#[by rw[Qc h0 h1,e],∅,∅,h1]
  ·rw[JU h1]at h; cases h
 ·rw[JU h0]at h
  by_cases h1 : -(n:Jk)<=i
  ·rw[JK h1]at h;have e:(i+n).toNat=j:=Ku h;exact#[by rw[Pr ∅ h1,e],∅,h1,∅]
  ·rw[JU h1]at h; cases h
def nb {α:Type}{xs:Ja α}{i:Jk}{v:α}(h:oJ xs i=gV v):∃j,seqIndex? i xs.length=gV j/\xs[j]?=gV v/\j < xs.length/\-(xs.length:Jk)<=i/\i < xs.length:=by
 unfold oJ at h;cases e:rV xs.length i with
 | none=>rw[e]at h; cases h
 | some j=>
  rw[e]at h;obtain⟨h1,h2,h3,h4⟩:=rW e;exact#[j,h1,h,h2,h3,h4]
def atI_nat {α:Type}{xs:Ja α}{j:Jg}{v:α}(h:xs[j]?=gV v):oJ xs (j:Jk)=gV v:=by
 have hj:j < xs.length:=(Jz.mp h).1;have e:rV xs.length (j:Jk)=gV j:=by
  unfold rV;rw[JK ∅,JK ∅]; simp
 unfold oJ; rw[e]; exact h
abbrev gz (b:JM):Prop:=∀o i,subscripted b false o i=operate [o,i] (getItem o i)
abbrev IxR (X:Cx)(r:R2):Prop:=
 ∀(value slice:JM) (J:Ja (Jn×KZ)) (s:Jh) (Y:St) (H:Hp) (x y:V) (v u:Jd) (Q:VK),Inv X J Y H s->RelV x v->RelV y u->r x y H Q->
  subscripted slice false v u=operate [v,u] (getItem v u)->wpAny (model X.prog X.w) X.A (subscriptTail value slice v u) (EP X J Y Q) X.xe s
abbrev MtR (X:Cx)(id:KL)(r:V->Ja V->Hp->VK->Prop):Prop:=
 ∀(J:Ja (Jn×KZ)) (s:Jh) (Y:St) (H:Hp) (x:V) (xs:Ja V) (v:Jd) (us:Ja Jd) (Q:VK),Inv X J Y H s->RelV x v->Vals xs us->r x xs H Q->
  wpAny (model X.prog X.w) X.A (call (.builtin id) (v::us)) (EP X J Y Q) X.xe s
section
variable{X:Cx}{a b:JM}{ta tb:TE}{pos:LJ}
def E8 {r:R2}(hr:IxR X r)(ha:PE X a ta)(hb:PE X b tb)(hs:gz b):PE X (.Subscript a b pos) (GR r ta tb):=by
 intro J s Y H Q I h;exact Qt (CO ha hb I h λv u s2 x y H2 I2 rx ry q=>hr a b J s2 Y H2 x y v u Q I2 rx ry q (hs _ _))
abbrev Hr (K:Jx):R2:=λx y H Q=>∃p xs i v,x=.ref p/\y=.int i/\SqL K H p xs/\oJ xs i=gV v/\Q v H
abbrev Hs (K:Jx):R2:=λx y H Q=>∃p xs i v,x=.ref p/\y=.int i/\SqT K H p xs/\oJ xs i=gV v/\Q v H
abbrev Ht:R2:=λx y H Q=>∃z i c,x=.str z/\y=.int i/\z.length<=sizeLine/\oJ z.cps.toList i=gV c/\Q (.str #[[c].toArray]) H
def zR:IxR X (Hr X.K):=by
 intro value slice J s Y H x y v u Q I rx ry h hs;obtain⟨p,xs,i,z,rfl,rfl,hq,he,q⟩:=h;cases rx;obtain⟨t,rfl⟩:=ry;obtain⟨its,r,pl,hz⟩:=I.list hq;obtain⟨j,h1,h2,h3,h4,h5⟩:=nb he;obtain⟨w,ew,rw'⟩:=r.get h2;have hl:=r.length;have hn:=i9;have fin:EP X J Y Q w s:=#[z,H,I,rw',q]
 by_cases h0:0<=i
 ·have hj:i.toNat=j:=by
   rw[Qc h0 h5]at h1;exact Ku h1
  exact Qu pl.isList h0 ∅ (by rw[hj]; simpa using ew) fin hs
 ·have hj:(i+(its.toArray.size:Jk)).toNat=j:=by
   rw[Pr ∅ h4]at h1
   rw[JE,<- hl];exact Ku h1
  exact MS (x:=w) pl.isList.typeIs slot_list_getitem.lookup
   (wpAny_getItem_list_neg (Q:=λr s'=>r=w/\EP X J Y Q r s') pl.isList ∅ (by rw[JE] <;> omega) ∅ (by rw[hj]; simpa using ew) #[rfl,fin]) hs
def C6:IxR X (Hs X.K):=by
 intro value slice J s Y H x y v u Q I rx ry h hs;obtain⟨p,xs,i,z,rfl,rfl,hq,he,q⟩:=h;cases rx;obtain⟨t,rfl⟩:=ry;obtain⟨its,r,pl,hz⟩:=I.tuple hq;obtain⟨j,h1,h2,h3,h4,h5⟩:=nb he;obtain⟨w,ew,rw'⟩:=r.get h2;have hl:=r.length;have hn:=i9;have fin:EP X J Y Q w s:=#[z,H,I,rw',q];exact MS (x:=w) pl.typeIs slot_tuple_getitem.lookup
  (getItem_tuple (j:=j) (Q:=λr s'=>r=w/\EP X J Y Q r s') pl ∅ ∅ (by rw[JE,<- hl]; exact h1) (by simpa using ew) #[rfl,fin]) hs
def C7:IxR X Ht:=by
 intro value slice J s Y H x y v u Q I rx ry h hs;obtain⟨z,i,c,rfl,rfl,hz,he,q⟩:=h;obtain⟨t,rfl⟩:=rx;obtain⟨t',rfl⟩:=ry;obtain⟨j,h1,h2,h3,h4,h5⟩:=nb he;have hl:z.cps.toList.length=z.length:=by simp[Str.length]
 rw[hl]at h1 h4 h5;have hn:=i9;exact tail_any (typeIs_str s z t) slot_str_getitem.lookup (getItem_str (c:=c) (by
  have e1:decide (i < -(2 ^ 63:Jk))=false:=JX ∅
  have e2:decide (i>=2 ^ 63)=false:=JX ∅
  rw[e1,e2,QT]) (by rw[h1]; simpa using h2) #[.str #[[c].toArray],H,I.tok _,#[_,rfl],q]) hs
def qz (its:Ja Jd)(n j:Jg)(u:Jd):KN (·.setIfInBounds j u) { cls:=.type "list",data:=.seq its.toArray n }={ cls:=.type "list",data:=.seq (its.set j u).toArray n }:=by
 simp[KN]
def Inv.lst {J:Ja (Jn×KZ)}{Y:St}{H:Hp}{s:Jh}{p:Jn}{xs:Ja V}(I:Inv X J Y H s)(h:H p=gV (.lst xs)) :
  ∃(its:Ja Jd) (n:Jg),Vals xs its/\s.heap.get? p=gV { cls:=.type "list",data:=.seq its.toArray n }/\xs.length<=sizeLine:=by
 obtain⟨z,its,n,r,e⟩:=I.hok p _ h;exact#[its,n,r,e,z]
def Inv.lstUpd {J:Ja (Jn×KZ)}{Y:St}{H:Hp}{s:Jh}{p:Jn}{xs ys:Ja V}{its its':Ja Jd}{n n':Jg}{f:KZ->KZ}(I:Inv X J Y H s)(h:H p=gV (.lst xs))
  (ho:s.heap.get? p=gV { cls:=.type "list",data:=.seq its.toArray n }) (hf:f { cls:=.type "list",data:=.seq its.toArray n }={ cls:=.type "list",data:=.seq its'.toArray n' }) (r:Vals ys its') (hz:ys.length<=sizeLine) (t:Jg) :
  Inv X J Y (bS H p (.lst ys)) { s with heap:=s.heap.update p f,toks:=t }:=by
 have e:(s.heap.update p f).get? p=gV { cls:=.type "list",data:=.seq its'.toArray n' }:=by
  rw[LM f ho (by rw[hf] <;> rfl),hf]
 refine I.write (x:=p) (e:=p) (by rw[h]; trivial) (.inl rfl) (λb u hb q=>(Kw _ _ (Ne.symm hb)).trans q) #[_,e] ?_
 exact#[hz,its',n',r,e]
abbrev E9:V->V->V->Hp->(Hp->Prop)->Prop:=λo i v H Q=>∃p xs k j,o=.ref p/\i=.int k/\H p=gV (.lst xs)/\rV xs.length k=gV j/\Q (bS H p (.lst (xs.set j v)))
def vS:CH X E9:=by
 intro J s Y H o i v ov iv u Q I ro ri rv h;obtain⟨p,xs,k,j,rfl,rfl,hp,hj,q⟩:=h;cases ro;obtain⟨t,rfl⟩:=ri;obtain⟨its,n,r,ho,hz⟩:=I.lst hp;obtain⟨h1,h2,h3,h4⟩:=rW hj;have hl:=r.length;have hn:=i9;have I':Inv X J Y (bS H p (.lst (xs.set j v))) { s with heap:=s.heap.update p (KN (·.setIfInBounds j u)) }:=
  I.lstUpd hp ho (qz its n j u) (r.set rv j) (by rw[Qg]; exact hz) s.toks
 by_cases h0:0<=k
 ·have hk:k.toNat=j:=by
   rw[Qc h0 h4]at h1;exact Ku h1
  exact PySem.W.ki_setAt ho h0 ∅ (by rw[JE,<- hl]; exact h4) (by rw[hk]; exact#[_,I',q])
 ·have hk:(k+(its.toArray.size:Jk)).toNat=j:=by
   rw[Pr ∅ h3]at h1
   rw[JE,<- hl];exact Ku h1
  exact PySem.W.ki_setBack ho ∅ (by rw[JE,<- hl]; exact h3) ∅ (by rw[hk]; exact#[_,I',q])
def nh (lo hi:Ji Jk)(n:Jg):(sliceBounds lo hi td n).1=((HT.cx n 0 lo:Jg):Jk)/\(sliceBounds lo hi td n).2.1=((HT.cx n n hi:Jg):Jk)/\(sliceBounds lo hi td n).2.2=1:=by
 refine#[?_,?_,rfl]
 ·cases lo with
  | none=>simp[sliceBounds,HT.cx]
  | some i=>
   simp only[sliceBounds,HT.cx,PY,show(1:Jk) > 0 by decide,LV]
   by_cases h:i < 0
   ·simp only[h,LV] <;> omega
   ·simp only[h,LU] <;> omega
 ·cases hi with
  | none=>simp[sliceBounds,HT.cx]
  | some i=>
   simp only[sliceBounds,HT.cx,PY,show(1:Jk) > 0 by decide,LV]
   by_cases h:i < 0
   ·simp only[h,LV] <;> omega
   ·simp only[h,LU] <;> omega
def lN (its:Ja Jd)(lo hi:Ji Jk):slicePick its.toArray lo hi td=((its.drop (HT.cx its.length 0 lo)).take (HT.cx its.length its.length hi - HT.cx its.length 0 lo)).toArray:=by
 obtain⟨h1,h2,h3⟩:=nh lo hi its.toArray.size;unfold slicePick;rw[h1,h2,h3];simp only[sliceRange_one,pick_run,JE] <;> rfl
abbrev Hu (K:Jx):V->Ji Jk->Ji Jk->Hp->VK->Prop:=λx lo hi H Q=>∃a xs,x=.ref a/\SqL K H a xs/\∀p,H p=td->Q (.ref p) (bS H p (.lst (kg xs lo hi)))
def zS:E7 X (Hu X.K):=by
 intro J s Y H x v vl vu lo hi sl Q I rx hs pl pu h;obtain⟨a,xs,rfl,hx,q⟩:=h;cases rx;obtain⟨its,r,ht,hz⟩:=I.list hx;have hlen:=r.length;refine#["list",_,slot_list_getitem.lookup,ht.isList.typeIs,?_];refine wpAny_getItem_list_slice ht.isList hs pl pu .none (by simp) ?_ (by rw[JE] <;> omega)
 rw[lN,<- hlen];refine#[.ref s.heap.objs.size,_,I.laid (t':=s.toks) (o:=.lst (kg xs lo hi)) (λb ob q=>Jm _ q) (Jo _) ?_,rfl,q _ (I.hok.fresh (Jo _))]
 exact#[JY (jy xs lo hi) hz,_,0,(r.drop (HT.cx xs.length 0 lo)).take (HT.cx xs.length xs.length hi - HT.cx xs.length 0 lo),JH _ rfl]
abbrev gS:V->JL
 | .non=>true
 | .bl _=>true
 | .int _=>true
 | .str _=>true
 | _=>false
abbrev zT:V->V->JL
 | .non,.non=>true
 | .bl a,.bl b=>a==b
 | .bl a,.int b=>(if a then 1 else 0)==b
 | .int a,.bl b=>a==(if b then 1 else 0)
 | .int a,.int b=>a==b
 | .str a,.str b=>a==b
 | _,_=>false
def C8 {A:J7}{s:Jh}{y x:V}{u v:Jd}(ry:RelV y u)(rx:RelV x v)(fy:gS y=true)(fx:gS x=true):MY A s u v (zT y x):=by
 cases y with
 | non=>
  cases ry;cases x with
  | non=>cases rx; exact R1 _
  | bl b=>cases rx; exact Rt b
  | int b=>obtain⟨t,rfl⟩:=rx; exact RA b t
  | str b=>obtain⟨t,rfl⟩:=rx; exact RB b t
  | _=>exact absurd (show false=true from fx) JF
 | bl a=>
  cases ry;cases x with
  | non=>cases rx; exact Ru a
  | bl b=>cases rx; exact Rv a b
  | int b=>obtain⟨t,rfl⟩:=rx; exact RC a b t
  | str b=>obtain⟨t,rfl⟩:=rx; exact RD a b t
  | _=>exact absurd (show false=true from fx) JF
 | int a=>
  obtain⟨t',rfl⟩:=ry;cases x with
  | non=>cases rx; exact RE a t'
  | bl b=>cases rx; exact RF a t' b
  | int b=>obtain⟨t,rfl⟩:=rx; exact RJ a t' b t
  | str b=>obtain⟨t,rfl⟩:=rx; exact OX a t' b t
  | _=>exact absurd (show false=true from fx) JF
 | str a=>
  obtain⟨t',rfl⟩:=ry;cases x with
  | non=>cases rx; exact RG a t'
  | bl b=>cases rx; exact RH a t' b
  | int b=>obtain⟨t,rfl⟩:=rx; exact OY a t' b t
  | str b=>obtain⟨t,rfl⟩:=rx; exact RK a t' b t
  | _=>exact absurd (show false=true from fx) JF
 | _=>exact absurd (show false=true from fy) JF
abbrev oK (x:V)(u:Jd):JL:=match u with
 | .none=>zT .non x
 | .bool b=>zT (.bl b) x
 | .int i _=>zT (.int i) x
 | .str z _=>zT (.str z) x
 | _=>false
def qA {x y:V}{u:Jd}(r:RelV y u)(f:gS y=true):oK x u=zT y x:=by
 cases y with
 | non=>cases r; rfl
 | bl b=>cases r; rfl
 | int i=>obtain⟨t,rfl⟩:=r; rfl
 | str z=>obtain⟨t,rfl⟩:=r; rfl
 | _=>exact absurd (show false=true from f) JF
def ip {x:V}:∀ {xs:Ja V} {us:Ja Jd},Vals xs us->xs.all gS=true->us.any (oK x)=xs.any λy=>zT y x
 | _,_,.nil,_=>rfl
 | y::xs,u::us,.cons r t,f=>by
  rw[Ki,Jj]at f;rw[LZ,LZ,qA r f.1,ip t f.2]
def eM {A:J7}{s:Jh}{x:V}{v:Jd}(rx:RelV x v)(fx:gS x=true):∀ {xs:Ja V} {us:Ja Jd},Vals xs us->xs.all gS=true->∀u∈us,MY A s u v (oK x u)
 | _,_,.nil,_=>λu hu=>by cases hu
 | y::xs,u::us,.cons r t,f=>λu' hu=>by
  rw[Ki,Jj]at f;rcases JR.mp hu with rfl|hu
  ·rw[qA r f.1]; exact C8 r rx f.1 fx
  ·exact eM rx fx t f.2 u' hu
abbrev GV (x:V)(xs:Ja V):JL:=xs.any λy=>zT y x
abbrev Hv (K:Jx)(neg:JL):R2:=λx y H Q=>∃p xs,y=.ref p/\(SqL K H p xs\/SqT K H p xs)/\gS x=true/\xs.all gS=true/\Q (.bl (if neg then !GV x xs else GV x xs)) H
def tY:OpR X (compareOp .In) (Hv X.K false):=by
 intro J s Y H x y v u Q I rx ry h;obtain⟨p,xs,rfl,hq,fx,fs,q⟩:=h;cases ry;rcases hq with hq|hq
 ·obtain⟨its,r,pl,hz⟩:=I.list hq;refine Qh (oK x) pl.isList (λw hw=>eM rx fx r fs w (by simpa using hw)) #[.bl _,H,I,rfl,?_]
  rw[show its.toArray.any (oK x)=its.any (oK x) by simp,ip r fs]
  exact q
 ·obtain⟨its,r,pl,hz⟩:=I.tuple hq;refine PZ (oK x) pl (λw hw=>eM rx fx r fs w (by simpa using hw)) #[.bl _,H,I,rfl,?_]
  rw[show its.toArray.any (oK x)=its.any (oK x) by simp,ip r fs]
  exact q
def nj:OpR X (compareOp .NotIn) (Hv X.K true):=by
 intro J s Y H x y v u Q I rx ry h;obtain⟨p,xs,rfl,hq,fx,fs,q⟩:=h;cases ry;rcases hq with hq|hq
 ·obtain⟨its,r,pl,hz⟩:=I.list hq;refine O6 (oK x) pl.isList (λw hw=>eM rx fx r fs w (by simpa using hw)) #[.bl _,H,I,rfl,?_]
  rw[show its.toArray.any (oK x)=its.any (oK x) by simp,ip r fs]
  exact q
 ·obtain⟨its,r,pl,hz⟩:=I.tuple hq;refine SeqAt.notIn_tupleAt (oK x) pl (λw hw=>eM rx fx r fs w (by simpa using hw)) #[.bl _,H,I,rfl,?_]
  rw[show its.toArray.any (oK x)=its.any (oK x) by simp,ip r fs]
  exact q
def nk:CallR X (.type "list") (λxs H Q=>∃p ys,xs=[.ref p]/\(SqL X.K H p ys\/SqT X.K H p ys)/\∀l,H l=td->Q (.ref l) (bS H l (.lst ys))):=by
 intro J s Y H xs us Q I r h;obtain⟨p,ys,rfl,hq,q⟩:=h;obtain⟨u,rfl,rx⟩:=oF r;cases rx;have fin:∀(its:Ja Jd),Vals ys its->ys.length<=sizeLine->∀(h':Kl) (c':Jg),(∀b o',s.heap.get? b=gV o'->h'.get? b=gV o')->
   h'.get? s.heap.objs.size=gV { cls:=.type "list",dict:=td,data:=.seq its.toArray c',slots:=#[] }->EP X J Y Q (.ref s.heap.objs.size) { s with heap:=h' }:=λits r' hz h' c' kp e=>
  #[.ref s.heap.objs.size,_,I.laid (t':=s.toks) kp (Jo _) (show ObjOk X.prog X.w _ h' _ (.lst ys)from#[hz,its,c',r',e]),rfl,q _ (I.hok.fresh (Jo _))]
 rcases hq with hq|hq
 ·obtain⟨its,r',pl,hz⟩:=I.list hq;have hlen:=r'.length;obtain⟨o,ho,hc,n,hd⟩:=pl.isList;exact QU p (.inl rfl) ho hc hd (λh' c' kp e=>fin its r' hz h' c' kp e) (by simp only[JE] <;> omega)
 ·obtain⟨its,r',pl,hz⟩:=I.tuple hq;have hlen:=r'.length;obtain⟨o,ho,hc,n,hd⟩:=pl;exact QU p (.inr rfl) ho hc hd (λh' c' kp e=>fin its r' hz h' c' kp e) (by simp only[JE] <;> omega)
def gT:CallR X (.type "tuple") (λxs H Q=>∃p ys,xs=[.ref p]/\((SqL X.K H p ys/\∀l,H l=td->Q (.ref l) (bS H l (.tup ys)))\/(SqT X.K H p ys/\Q (.ref p) H))):=by
 intro J s Y H xs us Q I r h;obtain⟨p,ys,rfl,h⟩:=h;obtain⟨u,rfl,rx⟩:=oF r;cases rx;rcases h with⟨hq,q⟩|⟨hq,q⟩
 ·obtain⟨its,r',pl,hz⟩:=I.list hq;have hlen:=r'.length;refine call_tuple_list pl.isList (λh' kp=>?_) (by simp only[JE] <;> omega)
  have I1:Inv X J Y H { s with heap:=h' }:=I.kept (t':=s.toks) kp
  have I2:Inv X J Y (bS H h'.objs.size (.tup ys)) { s with heap:=h'.push { cls:=.type "tuple",data:=.seq its.toArray } }:=
   I1.laid (t':=s.toks) (λb o e=>Jm _ e) (Jo _) (show ObjOk X.prog X.w _ _ _ (.tup ys)from#[#[hz,NoD.new _ _ _],its,r',PR _ _])
  exact#[.ref h'.objs.size,_,I2,rfl,q _ (I1.hok.fresh (Jo _))]
 ·obtain⟨its,r',pl,hz⟩:=I.tuple hq;exact call_tuple_same pl #[.ref p,H,I,rfl,q]
abbrev Hw (K:Jx)(T:KL)(x:V)(H:Hp):Prop:=match x with
 | .str _=>T = "str"
 | .int _=>T = "int"
 | .ref p=>(T = "list"/\∃xs,SqL K H p xs)\/(T = "tuple"/\∃o,K.lookup p=gV o/\o.cls=.type "tuple"/\o.dict=td)\/
   (T = "dict"/\((∃U,H p=gV (.dK U))\/∃U,H p=gV (.dT U)))\/(T = "set"/\∃S n,H p=gV (.set S n))
 | _=>KA
def vT {J:Ja (Jn×KZ)}{Y:St}{H:Hp}{s:Jh}{T:KL}{x:V}{v:Jd}(I:Inv X J Y H s)(r:RelV x v)(ty:Hw X.K T x H) :
  s.TypeIs v T/\∀a,v=.ref a->∃ob,s.heap.get? a=gV ob/\ob.dict=td:=by
 cases x with
 | str z=>
  obtain⟨t,rfl⟩:=r;cases(show T = "str" from ty)
  exact#[typeIs_str s z t,λ_ e=>nomatch e]
 | int i=>
  obtain⟨t,rfl⟩:=r;cases(show T = "int" from ty)
  exact#[Qv s i t,λ_ e=>nomatch e]
 | ref p=>
  cases r;rcases ty with⟨rfl,xs,hq⟩|⟨rfl,o,hk,hc,hd⟩|⟨rfl,hk⟩|⟨rfl,S,n,hk⟩
  ·obtain⟨its,_,pl,_⟩:=I.list hq;refine#[pl.isList.typeIs,λa e=>?_]
   cases e;obtain⟨o,n,e,c,hd,_⟩:=pl;exact#[o,e,hd]
  ·refine#[#[o,I.kIn p o hk,hc],λa e=>?_]
   cases e;exact#[o,I.kIn _ o hk,hd]
  ·have z:∃o,s.heap.get? p=gV o/\o.ExactDict:=by
    rcases hk with⟨U,hk⟩|⟨U,hk⟩
    ·obtain⟨_,_,_,_,o,_,_,e,ex,_⟩:=I.hok p _ hk;exact#[o,e,ex]
    ·obtain⟨_,_,_,_,o,_,_,e,ex,_⟩:=I.hok p _ hk;exact#[o,e,ex]
   obtain⟨o,e,ex⟩:=z;refine#[#[o,e,ex.1],λa e2=>?_]
   cases e2;exact#[o,e,ex.2.1]
  ·obtain⟨o,_,_,_,e,ex,_⟩:=I.hok p _ hk;refine#[#[o,e,ex.1],λa e2=>?_]
   cases e2;exact#[o,e,ex.2.1]
 | _=>exact KA.elim ty
variable{o e:JM}{es:Ja JM}{to:TE}{t:TA}{name:JG}{apos cpos:LJ}{T id:KL}{r:V->Ja V->Hp->VK->Prop}
end
abbrev Hx (X:Cx)(id:KL)(r:V->Ja V->Hp->VK->Prop):Prop:=
 ∀(J:Ja (Jn×KZ)) (s:Jh) (Y:St) (H:Hp) (x:V) (xs:Ja V) (v:Jd) (us:Ja Jd) (Q:VK),Inv X J Y H s->RelV x v->Vals xs us->r x xs H Q->
  wpAny (model X.prog X.w) X.A (call (.builtin id) (v::us)) (EP X J Y Q) X.xe s
def Vals.one:∀ {x:V} {us:Ja Jd},Vals [x] us->∃u,us=[u]/\RelV x u
 | _,_,.cons r .nil=>#[_,rfl,r]
def Vals.eraseIdx:∀ {xs:Ja V} {us:Ja Jd} (i:Jg),Vals xs us->Vals (xs.eraseIdx i) (us.eraseIdx i)
 | _,_,_,.nil=>.nil
 | _,_,0,.cons _ t=>t
 | _,_,i+1,.cons r t=>.cons r (Vals.eraseIdx i t)
def Vals.rep {xs:Ja V}{us:Ja Jd}(h:Vals xs us):∀k:Jg,Vals (Ke k xs).flatten (Ke k us).flatten
 | 0=>.nil
 | k+1=>by
  rw[Lf,Lf,LW,LW];exact Vals.append h (Vals.rep h k)
def md {α:Type}:∀(l:Ja α) (i:Jg),(l.eraseIdx i).length<=l.length
 | [],_=>Jo _
 | _::_,0=>Mr _
 | _::r,i+1=>NQ (md r i)
def mf (its:Ja Jd):∀(k:Jg) (acc:Ja Jd),
  Qw (λx1 x2=>x1++x2) acc.toArray (Ke k its.toArray)=(acc++(Ke k its).flatten).toArray
 | 0,acc=>by simp
 | k+1,acc=>by
  have e:acc.toArray++its.toArray=(acc++its).toArray:=by simp
  have e2:(acc++its)++(Ke k its).flatten=acc++(Ke (k+1) its).flatten:=by
   rw[Lf,LW,Lw]
  rw[<- e2,<- mf its k (acc++its),<- e,Lf,List.foldl_cons]
section
variable{X:Cx}{J:Ja (Jn×KZ)}{Y:St}{H:Hp}{s:Jh}{l b:Jn}{xs ys zs:Ja V}
def Inv.lset {its its':Ja Jd}{n:Jg}{f:Kh Jd->Kh Jd}{t':Jg}(I:Inv X J Y H s)(hH:H l=gV (.lst xs))
  (e:s.heap.get? l=gV { cls:=.type "list",data:=.seq its.toArray n }) (hf:f its.toArray=its'.toArray) (hv:Vals ys its') (hz:ys.length<=sizeLine) :
  Inv X J Y (bS H l (.lst ys)) { s with heap:=s.heap.update l (KN f),toks:=t' }:=by
 have q:=P0 e f;rw[hf]at q;refine I.write (x:=l) (e:=l) (by rw[hH]; exact trivial) (.inl rfl) (λb' u hb hu=>(Kw s.heap (KN f) (Ne.symm hb)).trans hu) #[_,q] ?_
 exact#[hz,its',_,hv,q]
def Inv.lnew {its:Ja Jd}{t':Jg}(I:Inv X J Y H s)(hv:Vals ys its)(hz:ys.length<=sizeLine) :
  Inv X J Y (bS H s.heap.objs.size (.lst ys)) { s with heap:=s.heap.push { cls:=.type "list",data:=.seq its.toArray },toks:=t' }:=
 I.laid (λ_ _ q=>Jm _ q) (Jo _) #[hz,its,0,hv,JH _ rfl]
def Inv.fresh (I:Inv X J Y H s):H s.heap.objs.size=td:=I.hok.fresh (Jo _)
def Inv.lstM (I:Inv X J Y H s)(hH:H l=gV (.lst xs)):xs.length<=sizeLine/\∃(its:Ja Jd) (n:Jg),Vals xs its/\xs.length=its.length/\s.heap.get? l=gV { cls:=.type "list",data:=.seq its.toArray n }:=by
 obtain⟨z,its,n,r,e⟩:=I.hok l _ hH;exact#[z,its,n,r,r.length,e]
def oM {n:Jg}(h:n<=sizeLine):L1 n=false:=by
 unfold L1;exact JX ∅
end
section
variable{X:Cx}
abbrev zU:V->Ja V->Hp->VK->Prop:=λx vs H Q=>∃l xs y,x=.ref l/\vs=[y]/\H l=gV (.lst xs)/\xs.length < sizeLine/\Q .non (bS H l (.lst (xs++[y])))
def tZ:Hx X "list.append" zU:=by
 intro J s Y H x vs v us Q I rx rv h;obtain⟨l,xs,y,rfl,rfl,hH,hz,q⟩:=h;cases rx;obtain⟨u,rfl,ru⟩:=rv.one;obtain⟨z,its,n,r,hl,e⟩:=I.lstM hH;refine MZ F.slot_list_append #[_,e,rfl] F.entry_list_append (F.args_list_append_2 _ _) (Ps l its.toArray n u (by rw[JE]; omega)) #[e,?_]
 refine#[.non,_,I.lset (its':=its++[u]) hH e (by simp) (r.append #v[ru]) ?_,rfl,q]
 rw[Je,JT];omega
abbrev zV:V->Ja V->Hp->VK->Prop:=λx vs H Q=>∃l b xs zs,x=.ref l/\vs=[.ref b]/\H l=gV (.lst xs)/\H b=gV (.lst zs)/\xs.length+zs.length<=sizeLine/\Q .non (bS H l (.lst (xs++zs)))
def t8:Hx X "list.extend" zV:=by
 intro J s Y H x vs v us Q I rx rv h;obtain⟨l,b,xs,zs,rfl,rfl,hH,hB,hz,q⟩:=h;cases rx;obtain⟨u,rfl,ru⟩:=rv.one;cases ru;obtain⟨z,its,n,r,hl,e⟩:=I.lstM hH;obtain⟨z2,its2,n2,r2,hl2,e2⟩:=I.lstM hB;have hsz:its.toArray.size+its2.toArray.size<=sizeLine:=by rw[JE,JE]; omega
 have hlong:¬ (!its.toArray.isEmpty&&L1 (its.toArray.size+its2.toArray.size))=true:=by
  rw[oM hsz,Bool.and_false];exact JF
 refine MZ F.slot_list_extend #[_,e,rfl] F.entry_list_extend (F.args_list_extend_2 _ _)
  (Pu l its.toArray n b its2.toArray n2 hlong (by rw[JE]; omega) ∅) #[e,e2,?_]
 refine#[.non,_,I.lset (its':=its++its2) hH e (by simp) (r.append r2) ?_,rfl,q]
 rw[Je];omega
abbrev C9:V->Ja V->Hp->VK->Prop:=λx vs H Q=>∃l xs i k y,x=.ref l/\vs=[.int i]/\H l=gV (.lst xs)/\-(2 ^ 63)<=i/\i < 2 ^ 63/\seqIndex? i xs.length=gV k/\xs[k]?=gV y/\Q y (bS H l (.lst (xs.eraseIdx k)))
def vU:Hx X "list.pop" C9:=by
 intro J s Y H x vs v us Q I rx rv h;obtain⟨l,xs,i,k,y,rfl,rfl,hH,h1,h2,hk,hy,q⟩:=h;cases rx;obtain⟨u,rfl,ru⟩:=rv.one;obtain⟨t,rfl⟩:=ru;obtain⟨z,its,n,r,hl,e⟩:=I.lstM hH;obtain⟨w,hw,rw'⟩:=r.get hy;refine MZ F.slot_list_pop #[_,e,rfl] F.entry_list_pop (F.args_list_pop_2 _ _)
  (Rw l its.toArray n i t k w (Qx h1 h2) (by rw[JE,<- hl]; exact hk) (by rw[<- K1]; exact hw) (by rw[JE]; omega)) #[e,?_]
 refine#[y,_,I.lset (its':=its.eraseIdx k) hH e ?_ (r.eraseIdx k) ?_,rw',q]
 ·show its.toArray.eraseIdxIfInBounds k=(its.eraseIdx k).toArray;rw[List.eraseIdxIfInBounds_toArray]
 ·have:=md xs k;omega
abbrev Hy:R2:=λx y H Q=>∃l b xs zs,x=.ref l/\y=.ref b/\H l=gV (.lst xs)/\H b=gV (.lst zs)/\xs.length+zs.length<=sizeLine/\∀p,H p=td->Q (.ref p) (bS H p (.lst (xs++zs)))
def Da:OpR X (binaryOp .Add) Hy:=by
 intro J s Y H x y v u Q I rx ry h;obtain⟨l,b,xs,zs,rfl,rfl,hH,hB,hz,q⟩:=h;cases rx;cases ry;obtain⟨z,its,n,r,hl,e⟩:=I.lstM hH;obtain⟨z2,its2,n2,r2,hl2,e2⟩:=I.lstM hB;refine PySem.P.add_list e e2 ?_ (by rw[JE,JE]; omega)
 have ea:its.toArray++its2.toArray=(its++its2).toArray:=by simp
 rw[ea];exact#[.ref _,_,I.lnew (t':=s.toks) (r.append r2) (by rw[Je]; omega),rfl,q _ I.fresh]
abbrev Hz:R2:=λx y H Q=>∃l k xs,x=.ref l/\y=.int k/\H l=gV (.lst xs)/\-(2 ^ 63)<=k/\k < 2 ^ 63/\xs.length*k.toNat<=sizeLine/\
 ∀p,H p=td->Q (.ref p) (bS H p (.lst (Ke k.toNat xs).flatten))
def zW {α:Type}(xs:Ja α)(k:Jg):(Ke k xs).flatten.length=k*xs.length:=by
 induction k with
 | zero=>simp
 | succ k ih=>rw[Lf,LW,Je,ih,Na,Rh]
def Db:OpR X (binaryOp .Mult) Hz:=by
 intro J s Y H x y v u Q I rx ry h;obtain⟨l,k,xs,rfl,rfl,hH,h1,h2,hz,q⟩:=h;cases rx;obtain⟨t,rfl⟩:=ry;obtain⟨z,its,n,r,hl,e⟩:=I.lstM hH;have hlen:its.toArray.size*k.toNat<=sizeLine:=by rw[JE,<- hl]; exact hz
 have hcap:¬ its.toArray.size*k.toNat > (2 ^ 63 - 1) / 8:=by
  have:(sizeLine:Jg)<=(2 ^ 63 - 1) / 8:=by decide
  omega
 have hfit:¬ (!Qy k)=true:=by
  rw[Qx h1 h2];exact JF
 have hlong:¬ L1 (its.toArray.size*k.toNat)=true:=by
  rw[oM hlen];exact JF
 have hnew:Qw (λx1 x2=>x1++x2) #[] (Ke (if its.toArray.isEmpty=true then 0 else k.toNat) its.toArray)=(Ke k.toNat its).flatten.toArray:=by
  have f0:∀m:Jg,Qw (λx1 x2=>x1++x2) #[] (Ke m its.toArray)=(Ke m its).flatten.toArray:=λm=>by
   have:=mf its m [];rw[Od]at this;exact this
  rw[f0];cases its with
  | nil=>simp
  | cons a r'=>rw[JU (by simp)]
 refine wpAny_binaryOp_repeat_ref (T:="list") (U:="int") #v[] #[_,e,rfl] (λs'=>Qv s' k t) noFill_list_mul F.fills_int_mul F.slot_int_rmul repeat_list F.slot_int_index.lookup
  (MZ F.slot_int_rmul (Qv s k t) F.entry_int_rmul (F.args_int_rmul_2 _ _) (int___rmul___int_list k t l its.toArray n)
   #[e,rfl,#[_,e,rfl],MZ F.slot_list_mul #[_,e,rfl] F.entry_list_mul (F.args_list_mul_2 _ _) (Pg l its.toArray n k t hfit hcap hlong) #[e,?_]])
 rw[hnew];exact#[.ref _,_,I.lnew (t':=s.toks) (r.rep k.toNat) (by rw[zW,Ri]; exact hz),rfl,q _ I.fresh]
end
noncomputable abbrev KT (H:Hp):Ja (Ja lM×V)->Ja (Ja lM×Jn×Jd)->Prop:=ND λp q=>p.1=q.1/\H q.2.1=gV (.tup (p.1.map kV))/\RelV p.2 q.2.2
section
variable{X:Cx}{J:Ja (Jn×KZ)}{Y:St}{H:Hp}{s:Jh}{a:Jn}{y v:V}{u r:Jd}{o:Ji V}{A:J7}{E:Jd->Jh->Prop}
def Inv.big (I:Inv X J Y H s):sysModules < s.heap.objs.size:=by
 have h:mainGlobals < s.heap.objs.size:=(I.mod.glob.keeps I.bk).lt;exact Lp #v[] h
def nq {h':Kl}{t':Jg}{ob:HO}(I:Inv X J Y H s)(mu:EH (H a))(hs:LS a s.heap h')(he:∃q,h'.get? a=gV q)(new:ObjOk X.prog X.w (bS H a ob) h' a ob) :
  Inv X J Y (bS H a ob) { s with heap:=h',toks:=t' }:=
 I.write (x:=a) (e:=a) mu (.inl rfl) (λb q hb z=>(hs.2 b hb).trans z) he new
end
noncomputable abbrev VV:Ja (V×V)->Ja (Jd×Jd)->Prop:=ND λp q=>RelV p.1 q.1/\RelV p.2 q.2
end L2
namespace Att
open PySem PySem.W PySem.Calls PyProof.Rows
def jM {P:O7}{h:Kl}:∀(ns:Ja Jk) (vs:Ja Jd),WellAll P h vs (ns.map WData.int)->Qo vs ns:=by
 intro ns
 induction ns with
 | nil=>
  intro vs w;rw[Pw]at w;cases w;exact .nil
 | cons n ns ih=>
  intro vs w;rw[KD]at w;cases w with
  | cons a b=>
   cases a;exact .cons _ _ (ih _ b)
def t9 {l:OpenLaw}{n:Jg}(hn:l.most=gV n){P:O7}{h:Kl}{args:Ja WData}{vals:Ja Jd}
  (hpre:l.row.toRowW.claim.pre args=true) (hwl:WellAll P h vals args) :
  ∃a vs ns,vals=[Kj a]/\args=[WData.list (ns.map WData.int)]/\h.get? a=gV { cls:=.type "list",data:=.seq vs.toArray }/\Qo vs ns/\ns.length<=n:=by
 have hsh:WShape.hasAll [] args [.list .int]=true:=(pre_splitW hpre).1;have hc:l.pre.holds [] { args:=args }=true:=(pre_splitW hpre).2;obtain⟨d,r,rfl,h1,h2⟩:=hasAllW_cons hsh;obtain rfl:=hasAllW_nil h2;obtain⟨xs,rfl,h3⟩:=hasW_list h1;obtain⟨ns,rfl⟩:=items_int h3;have hlen:ns.length<=n:=by
  unfold OpenLaw.pre at hc;have h4:(WTm.not (.lt (.lit (.int (n:Jk))) (.len (.arg 0)))).holds [] { args:=[.list (ns.map .int)] }=true:=by
   have h4:=(holds_andW hc).1;rw[hn]at h4;exact h4
  have h5:=condW_of h4 (w_not (w_lt w_lit (w_len_list (w_arg rfl))));rw[Jb]at h5;refine Nat.le_of_not_lt λq=>?_
  have q':(n:Jk) < ((ns.length:Jg):Jk):=∅
  first
   | (rw[Kf q']at h5; exact absurd h5 #v[])
   | (simp at h5; omega)
 cases hwl with
 | cons w1 w2=>
  cases w2;cases w1 with
  | list ho hall=>exact#[_,_,ns,rfl,rfl,ho,jM ns _ hall,hlen]
def ub (l:OpenLaw)(args:Ja WData):l.row.toRowW.claim.post args (.bool true) args=true:=
 postW_of (r:=l.row.toRowW) (X:=(true==true))
  (show WShape.has [] (.bool true) .bool=true by first|rfl|decide|simp[WShape.has,WShape.arms,WShape.armsAll])
  (show(WTm.eq .res (.lit (.bool true))).value [] { args:=args,res:=gV (.bool true),after:=args }=gV (.bool (true==true))from w_eq_bool (w_res rfl) w_lit) rfl
def attach_call {l:OpenLaw}{n:Jg}{q:J0}{loose:Ja JG}{XP:(JG->Ji Jd)->Kl->Prop}{YP:Kc->Kl->Prop}{d:DefRec}
  (hn:l.most=gV n) (hdf:d.params.defaults=[])
  (call:∀(w:Kc) (s₀ s₁:Jh) (mg mb:JG->Ji Jd) (fa:Jn) (o:KZ) (pm cd doc:Jd) (a:Jn) (vs:Ja Jd) (ns:Ja Jk),
   Ground q loose [] XP w s₀ mg mb s₁.heap->YP w s₁.heap->
   s₁.heap.get? fa=gV o->o.data=.func (docDef d.name d.params d.body d.scope pm cd doc)->s₁.heap.CodeRec cd d.name->mg d.name=gV (.ref fa)->
   s₁.heap.get? a=gV { cls:=.type "list",data:=.seq vs.toArray }->Qo vs ns->ns.length<=n->s₁.gens=#[]->
   codeAny (model l.prog w) callerA (.call (.ref fa) #[[.ref a],[]]) (λr s'=>r=.ok (.ret (.bool true))/\OldK s₁.heap s'.heap/\s'.os=s₁.os/\Nz s'.gens) s₁) :
  WalkO q loose XP YP l.row.toRowW d [] (λf vs=>Qz f vs):=by
 intro w s₀ s₁ mg mb G Yq fa o pm cd doc dV kV ho hd hcd hD hmg hg args vals as hpre hlay hrd hwl hlo;obtain rfl:dV=.none:=Dflts.none hD hdf;obtain rfl:kV=.none:=Dflts.noKw hD;obtain⟨a,vs,ns,rfl,rfl,hobj,hints,hlen⟩:=t9 hn hpre hwl;refine enter_call (N1 (call w s₀ s₁ mg mb fa o pm cd doc a vs ns G Yq ho (fd_plain hd) hcd hmg hobj hints hlen hg) λr s' hq=>?_)
 obtain⟨rfl,h2,h3,h4⟩:=hq;exact#[.inl #[.bool true,.bool true,[],rfl,λ_=>rfl,.bool true,ub l _,λ_=>#[RS,λ_ hm=>(nomatch hm)]],h2,h3,h4]
end Att
namespace L2
open PySem PySem.Spec PyProof.Rows
def mj:∀ {vs:Ja Jd} {ns:Ja Jk},Qo vs ns->Vals (ns.map V.int) vs
 | _,_,.nil=>.nil
 | _,_,.cons n t h=>.cons #[t,rfl] (mj h)
abbrev vV (H:Hp):Prop:=∀b,H b=td\/∃o xs,H b=gV (.frz o (.lst xs))
def vW {P:J0}{w:Kc}{K:Jx}{mg mb:JG->Ji Jd}{CX:vz}{k:Jg}{fa a:Jn}{fd:Lr}{x:JG}{sp:Sp}{s₁:Jh}{vs:Ja Jd}{ns:Ja Jk}
  (KX:K.In s₁.heap) (hns:s₁.heap.Ns mainGlobals mg) (hb:s₁.heap.Ns builtinsNs mb) (hbb:∀x:JG,x≠"__name__"->mb x=bootBuiltins x) (hlim:s₁.heap.NoLimit) (hg:s₁.gens=#[])
  (ha:s₁.heap.get? a=gV { cls:=.type "list",data:=.seq vs.toArray }) (hi:Qo vs ns) (hl:ns.length<=sizeLine) (hr:Room k callerA)
  (F:∀base:Kl,K.In base->base.Ns mainGlobals mg->FnOk P w K mg base CX k fa fd [x] sp) (hbind:∀(s:Jh) (u:Jd),Pn s fd #[[u],[]] [(x,u)])
  (hsp:∀H:Hp,vV H->SqL K H a (ns.map V.int)->sp [.ref a] H (λv _=>v=.bl true) λ_ _ _=>KA)
  (hCX:∀H e s',CX [] H s₁ (λ_ _ _=>KA) e s'->KA) :
  codeAny (model P w) callerA (.call (.ref fa) #[[.ref a],[]]) (λr s'=>r=.ok (.ret (.bool true))/\OldK s₁.heap s'.heap/\s'.os=s₁.os/\Nz s'.gens) s₁:=by
 have rv:=mj hi;have lenV:=hi.length;have core:∀H:Hp,vV H->SqL K H a (ns.map V.int)->HOk P w H s₁.heap->(∀b,H b≠td->b=a)->(H a≠td->K.lookup a=td)->
   codeAny (model P w) callerA (.call (.ref fa) #[[.ref a],[]]) (λr s'=>r=.ok (.ret (.bool true))/\OldK s₁.heap s'.heap/\s'.os=s₁.os/\Nz s'.gens) s₁:=by
  intro H hO hS hok hA hK;have base_of:∀ {b:Jn} {o:KZ},s₁.heap.get? b=gV o->H b=td->(mX s₁.heap H).get? b=gV o:=λe n=>vC e n
  have noA:∀ {b:Jn} {o:KZ} {es:Kh Lx} {ep:Jg},s₁.heap.get? b=gV o->o.data=.dict es ep->H b=td:=λ{b o es ep} e d=>by
   cases q:H b with
   | none=>rfl
   | some u=>
    have e':b=a:=hA b (by rw[q]; simp)
    subst e';rw[ha]at e; cases e
    have d':Data.seq vs.toArray _=Data.dict es ep:=d;cases d'
  have nsK:∀ {b:Jn} {m:JG->Ji Jd},s₁.heap.Ns b m->(mX s₁.heap H).Ns b m:=λ{b m} #[o,es,ep,e,d,r]=>#[o,es,ep,base_of e (noA e d),d,r]
  have hKb:K.In (mX s₁.heap H):=λb o e=>base_of (KX b o e) (by
   cases q:H b with
   | none=>rfl
   | some u=>
    have e':b=a:=hA b (by rw[q]; simp)
    subst e';rw[hK (by rw[q]; simp)]at e; cases e)
  have hM:Mod K mg (mX s₁.heap H):=#[hKb,nsK hns,#[mb,nsK hb,hbb],let ⟨mc,h1,h2⟩:=hlim; #[mc,nsK h1,h2]]
  have e0:Env0 P w K mg (mX s₁.heap H) callerA [] s₁ H:=#[rfl,hM,λb o e=>zy e,Nat.le_of_eq (tN _ _),trivial,λb hb=>absurd (show b∈([]:Ja Jn)from hb) (by simp),hok,.of_eq hg]
  refine N1 ((F _ hKb (nsK hns)).run callerA [] s₁ H #[[.ref a],[]] [.ref a] [.ref a] _ _ hr e0 (hbind s₁ (.ref a)) #v[rfl] (hsp H hO hS)) λr s' h=>?_
  cases r with
  | error e=>exact(hCX H e s' h).elim
  | ok fl=>
   cases fl with
   | next=>exact KA.elim h
   | brk=>exact KA.elim h
   | cont=>exact KA.elim h
   | ret u=>
    obtain⟨v,H',os,bare,un,hok',r',q⟩:=h;have q':v=.bl true:=q;subst q';obtain rfl:u=Nd true:=r';refine#[rfl,OldK.of_keep λb o e=>?_,os,bare]
    cases q:H b with
    | none=>exact un.keep b o e q (by intro z; exact absurd (show b∈([]:Ja Jn)from z) (by simp)) (by simp)
    | some u=>
     rcases hO b with z|⟨ob,xs,z⟩
     ·rw[q]at z; cases z
     ·have z2:=un.frzs b ob _ z;obtain⟨e1,_⟩:=hok b _ z;obtain⟨e2,_⟩:=hok' b _ z2;rw[e]at e1; cases e1
      exact e2
 cases hk:K.lookup a with
 | some o=>
  have e:=KX a o hk;rw[ha]at e;cases e;refine core (λ_=>td) (λ_=>.inl rfl) (.inr #[_,vs.toArray,_,hk,rfl,rfl,rfl,by rw[JE,lenV]; exact hl,by simpa using rv]) (λb u z=>by have z':(td:Ji HO)=gV u:=z; cases z') (λb z=>absurd rfl z) λz=>absurd rfl z
 | none=>
  refine core (λb=>if b=a then gV (.frz { cls:=.type "list",data:=.seq vs.toArray } (.lst (ns.map V.int)))else td) (λb=>?_) (.inl (.inr #[{ cls:=.type "list",data:=.seq vs.toArray },JK rfl])) (λb u z=>?_) (λb z=>?_) λ_=>hk
  ·by_cases hb:b=a
   ·exact .inr #[_,_,JK hb]
   ·exact .inl (JU hb)
  ·by_cases hb:b=a
   ·have z':=(JK hb).symm.trans z;cases z';subst hb;exact#[ha,by rw[Jb]; exact hl,vs,_,rv,ha]
   ·have z':=(JU hb).symm.trans z;cases z'
  ·by_cases hb:b=a
   ·exact hb
   ·exact absurd (JU hb) z
def zX {l:Oe}{n k:Jg}{q:J0}{loose:Ja JG}{XP:(JG->Ji Jd)->Kl->Prop}{YP:Kc->Kl->Prop}{d:DefRec}{K:O7->Jx}{CX:Kc->vz}{sp:Kc->Sp}{x:JG}
  (hn:l.most=gV n) (hn2:n<=sizeLine) (hdf:d.params.defaults=[]) (hr:Room k callerA)
  (hY:∀(w:Kc) (h:Kl),YP w h->(K w.params).In h)
  (F:∀(w:Kc) (mg:JG->Ji Jd) (fa:Jn) (h:Kl),(K w.params).In h->h.Ns mainGlobals mg->mg d.name=gV (.ref fa)->
   ∃fd:Lr,(∀(s:Jh) (u:Jd),Pn s fd #[[u],[]] [(x,u)])/\
    ∀base:Kl,(K w.params).In base->base.Ns mainGlobals mg->FnOk l.prog w (K w.params) mg base (CX w) k fa fd [x] (sp w))
  (hsp:∀(w:Kc) (H:Hp) (a:Jn) (ns:Ja Jk),ns.length<=n->vV H->SqL (K w.params) H a (ns.map V.int)->sp w [.ref a] H (λv _=>v=.bl true) λ_ _ _=>KA)
  (hCX:∀(w:Kc) (H:Hp) (s:Jh) (e:Jd) (s':Jh),CX w [] H s (λ_ _ _=>KA) e s'->KA) :
  QV q loose XP YP l.row.toRowW d [] (λf vs=>Qz f vs):=by
 refine Att.attach_call hn hdf λw s₀ s₁ mg mb fa o pm cd doc a vs ns G Yq ho hd hcd hmg hobj hints hlen hg=>?_
 have KX:=hY w _ Yq;obtain⟨fd,hb,hF⟩:=F w mg fa _ KX G.T.g hmg;exact vW KX G.T.g G.T.b G.T.builtins G.T.nolimit hg hobj hints (JY hlen hn2) hr hF hb (λH hO hS=>hsp w H a ns hlen hO hS) λH e s'=>hCX w H s₁ e s'
abbrev dI (s:L4):Arguments:=match s with
 | .FunctionDef _ a _ _ _ _ _ _ _ _=>a
 | _=>{ posonlyargs:=[],args:=[],vararg:=td,kwonlyargs:=[],kw_defaults:=[],kwarg:=td,defaults:=[] }
abbrev cD (s:L4):Ja L4:=match s with
 | .FunctionDef _ _ b _ _ _ _ _ _ _=>b
 | _=>[]
abbrev aW (s:L4):Ml:=match s with
 | .FunctionDef _ _ _ _ _ _ sc _ _ _=>sc
 | _=>{ kind:=.function,names:=[],isGenerator:=false,isCoroutine:=false }
noncomputable abbrev rX:vz:=λ_ _ _ _ _ _=>KA
noncomputable abbrev E0:XK:=λ_ _ _=>KA
def rY {X:Cx}:jb rX X E0:=λ_ _ _ _ _ _ _ h=>h.elim
structure Fun (K:Jx)(x qual:JG)(st:L4)(f:Jn)(fd:Lr):Prop where
 ex:∃(oc:Jd) (od:Ji Jn) (kV doc pm:Jd) (an:Ji Jn) (cdv ct:Jd) (osl:Kh (Ji Jd)),
  fd=Lo x qual (dI st) (cD st) (aW st) .none kV doc pm an cdv ct/\K.lookup f=gV #[oc,od,.func fd,osl]/\L8 K cdv qual=true
 kp:Kv K (.ref f)=true
section
variable{P:J0}{w:Kc}{K:Jx}{mg:JG->Ji Jd}{base:Kl}
def Fun.ok {x qual:JG}{st:L4}{f:Jn}{fd:Lr}{N ps:Ja JG}{k:Jg}{sp:Sp}(F:Fun K x qual st f fd)(S:FnScope N ps (aW st))(len:∀vs H Q E,sp vs H Q E->vs.length=ps.length)
  (hbody:∀(cdv:Jd) (A:J7) (outer:Ja Pi) (s:Jh) (H:Hp) (vs:Ja V) (Q:VK) (E:XK),Room k (A.deeper (envOfC qual (aW st) s.heap.objs.size f cdv))->sp vs H Q E->
   ∃t,PSs (qw rX P w K mg base N qual (aW st) f cdv A outer s H E).nox (cD st) t/\t { nx:=λ_ H'=>Q .non H',rt:=Q } (fN N vs) H):FnOk P w K mg base rX (k+1) f fd ps sp:=by
 obtain⟨oc,od,kV,doc,pm,an,cdv,ct,osl,rfl,lk,hcd⟩:=F.ex;refine E5 lk hcd S len λA outer s H vs Q E hr hsp=>?_
 obtain⟨t,h,q⟩:=hbody cdv A outer s H vs Q E hr hsp;exact#[t,h.nox,q]
def Fun.binds {x qual:JG}{st:L4}{f:Jn}{fd:Lr}{ps:Ja JG}(F:Fun K x qual st f fd)
  (h:∀(kV doc pm:Jd) (an:Ji Jn) (cdv ct:Jd) (us:Ja Jd),us.length=ps.length->bindArgs (Lo x qual (dI st) (cD st) (aW st) .none kV doc pm an cdv ct) #[us,[]]=pure (ps.zip us)):Binds K fd ps []:=by
 obtain⟨oc,od,kV,doc,pm,an,cdv,ct,osl,rfl,lk,hcd⟩:=F.ex;exact .all (h kV doc pm an cdv ct)
def vX {x qual:JG}{st:L4}{f:Jn}{oc:Jd}{od an:Ji Jn}{osl:Kh (Ji Jd)}{kV doc pm cdv ct:Jd}(l:K.lookup f=gV #[oc,od,.func (Lo x qual (dI st) (cD st) (aW st) .none kV doc pm an cdv ct),osl])
  (c:L8 K cdv qual=true) (k:Kv K (.ref f)=true):Fun K x qual st f (Lo x qual (dI st) (cD st) (aW st) .none kV doc pm an cdv ct):=#[#[oc,od,kV,doc,pm,an,cdv,ct,osl,rfl,l,c],k]
end
end L2
namespace Mi
open PySem PySem.Spec PyProof.Rows L2
inductive W where
 | non|bl (b:JL)|int (i:Jk)|str (x:JG)|tup (xs:Ja W)|ref (i:Jg)
inductive T where
 | int (i:Jk)|str (x:JG)|tup (xs:Ja T)
mutual
noncomputable def T.beq:T->T->JL
 | .int i,.int j=>i==j
 | .str x,.str y=>x==y
 | .tup xs,.tup ys=>T.beqs xs ys
 | _,_=>false
noncomputable def T.beqs:Ja T->Ja T->JL
 | [],[]=>true
 | x::xs,y::ys=>T.beq x y&&T.beqs xs ys
 | _,_=>false
end
mutual
theorem T.beq_iff:∀x y:T,T.beq x y=true↔x=y
 | .int i,.int j=>by simp[T.beq]
 | .str x,.str y=>by simp[T.beq]
 | .tup xs,.tup ys=>by simp[T.beq,T.beqs_iff xs ys]
 | .int _,.str _|.int _,.tup _|.str _,.int _|.str _,.tup _|.tup _,.int _|.tup _,.str _=>by simp[T.beq]
theorem T.beqs_iff:∀xs ys:Ja T,T.beqs xs ys=true↔xs=ys
 | [],[]=>by simp[T.beqs]
 | x::xs,y::ys=>by simp[T.beqs,T.beq_iff x y,T.beqs_iff xs ys]
 | [],_::_|_::_,[]=>by simp[T.beqs]
end
noncomputable instance:Mo T:=λx y=>decidable_of_iff (T.beq x y=true) (T.beq_iff x y)
mutual
noncomputable def T.w:T->W
 | .int i=>.int i
 | .str x=>.str x
 | .tup xs=>.tup (T.ws xs)
noncomputable def T.ws:Ja T->Ja W
 | []=>[]
 | x::xs=>T.w x::T.ws xs
end
mutual
noncomputable def W.t:W->Ji T
 | .int i=>gV (.int i)
 | .str x=>gV (.str x)
 | .tup xs=>(W.ts xs).map .tup
 | _=>td
noncomputable def W.ts:Ja W->Ji (Ja T)
 | []=>gV []
 | x::xs=>match W.t x,W.ts xs with
  | some y,gV ys=>gV (y::ys)
  | _,_=>td
end
mutual
theorem W.t_w:∀ {w:W} {k:T},W.t w=gV k->k.w=w
 | .int i,_,h=>by cases h; rfl
 | .str x,_,h=>by cases h; rfl
 | .tup xs,_,h=>by
  simp only[W.t,Jf]at h;obtain⟨ks,h1,h2⟩:=h;subst h2;simp only[T.w,W.ts_w h1]
 | .non,_,h|.bl _,_,h|.ref _,_,h=>by cases h
theorem W.ts_w:∀ {ws:Ja W} {ks:Ja T},W.ts ws=gV ks->T.ws ks=ws
 | [],_,h=>by cases h; rfl
 | w::ws,_,h=>by
  simp only[W.ts]at h;split at h
  ·rename_i y ys h1 h2;cases h;simp only[T.ws,W.t_w h1,W.ts_w h2]
  ·cases h
end
mutual
theorem T.w_t:∀k:T,W.t k.w=gV k
 | .int _=>rfl
 | .str _=>rfl
 | .tup xs=>by simp only[T.w,W.t,T.ws_ts xs,J4]
theorem T.ws_ts:∀ks:Ja T,W.ts (T.ws ks)=gV ks
 | []=>rfl
 | x::xs=>by simp only[T.ws,W.ts,T.w_t x,T.ws_ts xs]
end
mutual
noncomputable def T.depth:T->Jg
 | .tup xs=>T.depths xs+1
 | _=>0
noncomputable def T.depths:Ja T->Jg
 | []=>0
 | x::xs=>max (T.depth x) (T.depths xs)
end
mutual
noncomputable def T.draws:T->Jg
 | .tup xs=>T.drawss xs+1
 | _=>1
noncomputable def T.drawss:Ja T->Jg
 | []=>0
 | x::xs=>T.draws x+T.drawss xs
end
mutual
noncomputable def oN (wd:Kc):T->Jk
 | .int i=>hashInt i
 | .str x=>hashStr wd x
 | .tup xs=>reduceHash (Nq (kh wd xs))
noncomputable def kh (wd:Kc):Ja T->Ja Jk
 | []=>[]
 | x::xs=>oN wd x::kh wd xs
end
abbrev T.isTup:T->JL
 | .tup _=>true
 | _=>false
abbrev bm:Jg:=6
inductive O where
 | lst (xs:Ja W)
 | fro (xs:Ja W)
 | rng (lo hi:Jk)
 | dic (U:Ja (T×W))
 | frd (U:Ja (T×W))
noncomputable abbrev aa:=Ja O
noncomputable abbrev Fm:=Ja (Ji W)
section
variable (K:Jx) (A:Ja Jn) (H:Hp)
mutual
inductive Rel:W->V->Prop
 | non:Rel .non .non
 | bl {b:JL}:Rel (.bl b) (.bl b)
 | int {i:Jk}:Rel (.int i) (.int i)
 | str {x:JG}:Rel (.str x) (.str x)
 | tup {ws:Ja W} {a:Jn} {vs:Ja V}:SqT K H a vs->RelL ws vs->Rel (.tup ws) (.ref a)
 | ref {i:Jg} {a:Jn}:A[i]?=gV a->Rel (.ref i) (.ref a)
inductive RelL:Ja W->Ja V->Prop
 | nil:RelL [] []
 | cons {w:W} {v:V} {ws:Ja W} {vs:Ja V}:Rel w v->RelL ws vs->RelL (w::ws) (v::vs)
end
end
section
variable{K:Jx}{A A' A'':Ja Jn}{H H' H'':Hp}
structure Ext (K:Jx)(A:Ja Jn)(H:Hp)(A':Ja Jn)(H':Hp):Prop where
 ad:∀(i:Jg) (a:Jn),A[i]?=gV a->A'[i]?=gV a
 tp:∀(a:Jn) (vs:Ja V),SqT K H a vs->SqT K H' a vs
 fz:∀(a:Jn) (o:KZ) (u:HO),H a=gV (.frz o u)->H' a=gV (.frz o u)
def Ext.refl:Ext K A H A H:=#[λ_ _ h=>h,λ_ _ h=>h,λ_ _ _ h=>h]
def Ext.trans (e:Ext K A H A' H')(f:Ext K A' H' A'' H''):Ext K A H A'' H'':=#[λi a h=>f.ad i a (e.ad i a h),λa vs h=>f.tp a vs (e.tp a vs h),λa o u h=>f.fz a o u (e.fz a o u h)]
mutual
theorem Rel.mono (e:Ext K A H A' H'):∀ {w:W} {v:V},Rel K A H w v->Rel K A' H' w v
 | _,_,.non=>.non
 | _,_,.bl=>.bl
 | _,_,.int=>.int
 | _,_,.str=>.str
 | _,_,.tup h r=>.tup (e.tp _ _ h) (RelL.mono e r)
 | _,_,.ref h=>.ref (e.ad _ _ h)
theorem RelL.mono (e:Ext K A H A' H'):∀ {ws:Ja W} {vs:Ja V},RelL K A H ws vs->RelL K A' H' ws vs
 | _,_,.nil=>.nil
 | _,_,.cons r t=>.cons (Rel.mono e r) (RelL.mono e t)
end
def RelL.length:∀ {ws:Ja W} {vs:Ja V},RelL K A H ws vs->ws.length=vs.length
 | _,_,.nil=>rfl
 | _,_,.cons _ t=>by simp[RelL.length t]
def RelL.get:∀ {ws:Ja W} {vs:Ja V} {i:Jg} {w:W},RelL K A H ws vs->ws[i]?=gV w->∃v,vs[i]?=gV v/\Rel K A H w v
 | _,_,_,_,.nil,e=>by simp at e
 | _,_,0,_,.cons r _,e=>by simp at e; subst e; exact#[_,rfl,r]
 | _,_,i+1,w,.cons _ t,e=>by
  obtain⟨u,h1,h2⟩:=RelL.get (i:=i) (w:=w) t (by simpa using e)
  exact#[u,by simpa using h1,h2]
def RelL.append:∀ {xs ys:Ja W} {us ws:Ja V},RelL K A H xs us->RelL K A H ys ws->RelL K A H (xs++ys) (us++ws)
 | _,_,_,_,.nil,s=>s
 | _,_,_,_,.cons r t,s=>.cons r (RelL.append t s)
def RelL.take:∀ {xs:Ja W} {us:Ja V} (n:Jg),RelL K A H xs us->RelL K A H (xs.take n) (us.take n)
 | _,_,0,_=>.nil
 | _,_,_+1,.nil=>.nil
 | _,_,n+1,.cons r t=>.cons r (RelL.take n t)
def RelL.drop:∀ {xs:Ja W} {us:Ja V} (n:Jg),RelL K A H xs us->RelL K A H (xs.drop n) (us.drop n)
 | _,_,0,r=>r
 | _,_,_+1,.nil=>.nil
 | _,_,n+1,.cons _ t=>RelL.drop n t
def RelL.set {x:W}{u:V}(r:Rel K A H x u):∀ {xs:Ja W} {us:Ja V} (i:Jg),RelL K A H xs us->RelL K A H (xs.set i x) (us.set i u)
 | _,_,_,.nil=>.nil
 | _,_,0,.cons _ t=>.cons r t
 | _,_,i+1,.cons q t=>.cons q (RelL.set r i t)
def RelL.rep {xs:Ja W}{us:Ja V}(h:RelL K A H xs us):∀k:Jg,RelL K A H (Ke k xs).flatten (Ke k us).flatten
 | 0=>.nil
 | k+1=>by
  rw[Lf,Lf,LW,LW];exact RelL.append h (RelL.rep h k)
def RelL.eraseIdx:∀ {xs:Ja W} {us:Ja V} (i:Jg),RelL K A H xs us->RelL K A H (xs.eraseIdx i) (us.eraseIdx i)
 | _,_,_,.nil=>.nil
 | _,_,0,.cons _ t=>t
 | _,_,i+1,.cons r t=>.cons r (RelL.eraseIdx i t)
abbrev FroL (K:Jx)(H:Hp)(a:Jn)(vs:Ja V):Prop:=
 (∃o,H a=gV (.frz o (.lst vs)))\/
  ∃(o:KZ) (its:Kh Jd) (n:Jg),K.lookup a=gV o/\o.cls=.type "list"/\o.dict=td/\o.data=.seq its n/\its.size<=sizeLine/\Vals vs its.toList
def FroL.sq {a:Jn}{vs:Ja V}(h:FroL K H a vs):SqL K H a vs:=by
 rcases h with⟨o,h⟩|h
 ·exact .inl (.inr #[o,h])
 ·exact .inr h
abbrev vY (wd:Kc)(x:T×Jn×Jd):Lx:=#[oN wd x.1,.ref x.2.1,x.2.2]
abbrev DicAt (wd:Kc)(a:Jn)(xs:Ja (T×Jn×Jd))(h:Kl):Prop:=
 xs.length<=sizeLine/\(a==sysModules)=false/\(xs.map (·.1)).Nodup/\∃o es ep,h.get? a=gV o/\o.ExactDict/\o.data=.dict es ep/\es.toList=xs.map (vY wd)
abbrev dY (wd:Kc)(a:Jn)(xs:Ja (T×Jn×Jd)):HO:=.ext (DicAt wd a xs)
abbrev KRel (K:Jx)(A:Ja Jn)(H:Hp):Ja (T×W)->Ja (T×Jn×Jd)->Prop:=
 ND λ(p:T×W) (q:T×Jn×Jd)=>p.1=q.1/\p.1.isTup=true/\p.1.depth<=bm/\Rel K A H p.1.w (.ref q.2.1)/\∃v,Rel K A H p.2 v/\RelV v q.2.2
def KRel.mono (e:Ext K A H A' H'){U:Ja (T×W)}{xs:Ja (T×Jn×Jd)}(h:KRel K A H U xs):KRel K A' H' U xs:=
 Paired.mapP h λ_ _ #[h1,h2,h3,h4,v,h5,h6]=>#[h1,h2,h3,h4.mono e,v,h5.mono e,h6]
variable{wd:Kc}
abbrev ObjRel (wd:Kc)(K:Jx)(A:Ja Jn)(H:Hp)(a:Jn):O->Prop
 | .lst ws=>∃vs,H a=gV (.lst vs)/\RelL K A H ws vs
 | .fro ws=>∃vs,FroL K H a vs/\RelL K A H ws vs
 | .rng lo hi=>H a=gV (.rng lo hi)
 | .dic U=>∃xs,H a=gV (dY wd a xs)/\KRel K A H U xs
 | .frd U=>∃o xs,H a=gV (.frz o (dY wd a xs))/\KRel K A H U xs
abbrev O.mut:O->JL
 | .fro _=>false
 | .rng _ _=>false
 | .frd _=>false
 | _=>true
structure StoreOk (wd:Kc)(K:Jx)(A:Ja Jn)(H:Hp)(S:aa):Prop where
 len:A.length=S.length
 nd:∀(i j:Jg) (a:Jn) (o u:O),S[i]?=gV o->o.mut=true->S[j]?=gV u->u.mut=true->A[i]?=gV a->A[j]?=gV a->i=j
 obj:∀(i:Jg) (o:O) (a:Jn),S[i]?=gV o->A[i]?=gV a->ObjRel wd K A H a o
abbrev EnvRel (K:Jx)(A:Ja Jn)(H:Hp)(Z:Fm)(Y:L2.St):Prop:=
 Z.length=Y.length/\∀(i:Jg) (w:W),Z[i]?=gV (gV w)->∃v,Y[i]?=gV (gV v)/\Rel K A H w v
def EnvRel.mono {Z:Fm}{Y:L2.St}(e:Ext K A H A' H')(h:EnvRel K A H Z Y):EnvRel K A' H' Z Y:=
 #[h.1,λi w q=>let ⟨v,a,b⟩:=h.2 i w q; #[v,a,b.mono e]]
def EnvRel.set {Z:Fm}{Y:L2.St}{w:W}{v:V}(h:EnvRel K A H Z Y)(r:Rel K A H w v)(i:Jg):EnvRel K A H (Z.set i (gV w)) (Y.set i (gV v)):=by
 refine#[by simp[h.1],λj w' q=>?_]
 rw[Ld]at q ⊢
 by_cases e:i=j
 ·subst e;rw[JK rfl]at q ⊢
  by_cases hl:i < Z.length
  ·rw[JK hl]at q;rw[JK (h.1 ▸ hl)];cases q;exact#[v,rfl,r]
  ·rw[JU hl]at q; cases q
 ·rw[JU e]at q ⊢;exact h.2 j w' q
abbrev Wr (H:Hp)(p:Jn):Prop:=H p=td\/(∃xs,H p=gV (.lst xs))\/(∃φ,H p=gV (.ext φ))\/∃ks,H p=gV (.dK ks)
def Wr.lst {p:Jn}{xs:Ja V}(h:H p=gV (.lst xs)):Wr H p:=.inr (.inl #[xs,h])
def Wr.ext {p:Jn}{φ:Kl->Prop}(h:H p=gV (.ext φ)):Wr H p:=.inr (.inr (.inl #[φ,h]))
def Wr.ne_tup {p a:Jn}{xs:Ja V}(hp:Wr H p)(h:H a=gV (.tup xs)):a≠p:=by
 intro e; subst e
 rcases hp with q|⟨xs,q⟩|⟨φ,q⟩|⟨ks,q⟩ <;> (rw[h]at q; cases q)
def Wr.ne_frz {p a:Jn}{o:KZ}{u:HO}(hp:Wr H p)(h:H a=gV (.frz o u)):a≠p:=by
 intro e; subst e
 rcases hp with q|⟨xs,q⟩|⟨φ,q⟩|⟨ks,q⟩ <;> (rw[h]at q; cases q)
def Wr.ne_rng {p a:Jn}{lo hi:Jk}(hp:Wr H p)(h:H a=gV (.rng lo hi)):a≠p:=by
 intro e; subst e
 rcases hp with q|⟨xs,q⟩|⟨φ,q⟩|⟨ks,q⟩ <;> (rw[h]at q; cases q)
def rZ {p:Jn}{o:HO}(hp:Wr H p){a:Jn}{vs:Ja V}(h:SqT K H a vs):SqT K (bS H p o) a vs:=by
 rcases h with(h|⟨o',h⟩)|h
 ·exact .inl (.inl (by rw[aI (hp.ne_tup h)]; exact h))
 ·exact .inl (.inr #[o',by rw[aI (hp.ne_frz h)]; exact h])
 ·exact .inr h
def vZ {p:Jn}{o:HO}(hp:Wr H p){a:Jn}{vs:Ja V}(h:FroL K H a vs):FroL K (bS H p o) a vs:=by
 rcases h with⟨o',h⟩|h
 ·exact .inl #[o',by rw[aI (hp.ne_frz h)]; exact h]
 ·exact .inr h
def dm {p:Jn}{o:HO}(hp:Wr H p):Ext K A H A (bS H p o):=#[λ_ _ h=>h,λ_ _ h=>rZ hp h,λ_ _ _ h=>by rw[aI (hp.ne_frz h)]; exact h]
def dZ {p:Jn}{o:HO}(hp:H p=td):Ext K A H (A++[p]) (bS H p o):=
 #[λi a h=>by rw[JZ (Jz.mp h).1]; exact h,λ_ _ h=>rZ (.inl hp) h,λ_ _ _ h=>by rw[aI (Wr.ne_frz (.inl hp) h)]; exact h]
def ObjRel.keep {p a:Jn}{o:HO}{b:O}(hp:Wr H p)(hne:b.mut=true->a≠p)(e:Ext K A H A' (bS H p o))(h:ObjRel wd K A H a b):ObjRel wd K A' (bS H p o) a b:=by
 cases b with
 | lst ws=>
  obtain⟨vs,q,r⟩:=h;exact#[vs,by rw[aI (hne rfl)]; exact q,r.mono e]
 | fro ws=>
  obtain⟨vs,q,r⟩:=h;exact#[vs,vZ hp q,r.mono e]
 | rng lo hi=>
  have h:H a=gV (.rng lo hi):=h;show bS H p o a=gV (.rng lo hi);rw[aI (hp.ne_rng h)];exact h
 | dic U=>
  obtain⟨xs,q,r⟩:=h;exact#[xs,by rw[aI (hne rfl)]; exact q,r.mono e]
 | frd U=>
  obtain⟨ob,xs,q,r⟩:=h;exact#[ob,xs,by rw[aI (hp.ne_frz q)]; exact q,r.mono e]
def ObjRel.there {a:Jn}{b:O}(h:ObjRel wd K A H a b)(hm:b.mut=true):H a≠td:=by
 cases b with
 | lst ws=>obtain⟨vs,q,r⟩:=h; rw[q]; intro z; cases z
 | fro ws=>cases hm
 | rng lo hi=>cases hm
 | dic U=>obtain⟨vs,q,r⟩:=h; rw[q]; intro z; cases z
 | frd ws=>cases hm
def ObjRel.wr {a:Jn}{b:O}(h:ObjRel wd K A H a b)(hm:b.mut=true):Wr H a:=by
 cases b with
 | lst ws=>obtain⟨vs,q,r⟩:=h; exact .lst q
 | fro ws=>cases hm
 | rng lo hi=>cases hm
 | dic U=>obtain⟨vs,q,r⟩:=h; exact .ext q
 | frd ws=>cases hm
def StoreOk.lay {S:aa}{p:Jn}{o:HO}(h:StoreOk wd K A H S)(hp:H p=td):StoreOk wd K A (bS H p o) S:=
 #[h.len,h.nd,λi b a e ea=>(h.obj i b a e ea).keep (.inl hp) (λhm z=>(h.obj i b a e ea).there hm (z ▸ hp)) (dm (.inl hp))]
def StoreOk.pushO {S:aa}{p:Jn}{n:O}{u:HO}(h:StoreOk wd K A H S)(hp:H p=td)(r:ObjRel wd K (A++[p]) (bS H p u) p n):StoreOk wd K (A++[p]) (bS H p u) (S++[n]):=by
 have ex:Ext K A H (A++[p]) (bS H p u):=dZ hp;have old:∀ {i:Jg} {o:O} {a:Jn},(S++[n])[i]?=gV o->(A++[p])[i]?=gV a->i < S.length->S[i]?=gV o/\A[i]?=gV a:=λ{i o a} e ea hl=>by
  rw[JZ hl]at e;rw[JZ (h.len ▸ hl)]at ea;exact#[e,ea]
 have new:∀ {i:Jg} {o:O} {a:Jn},(S++[n])[i]?=gV o->(A++[p])[i]?=gV a->¬ i < S.length->i=S.length/\o=n/\a=p:=λ{i o a} e ea hl=>by
  have hi:i=S.length:=by
   have:=(Jz.mp e).1;simp at this;omega
  subst hi;simp at e;rw[<- h.len]at ea;simp at ea;exact#[rfl,e.symm,ea.symm]
 refine#[by simp[h.len],λi j a o u e1 m1 e2 m2 a1 a2=>?_,λi o a e ea=>?_]
 ·by_cases hi:i < S.length <;> by_cases hj:j < S.length
  ·obtain⟨x1,y1⟩:=old e1 a1 hi;obtain⟨x2,y2⟩:=old e2 a2 hj;exact h.nd i j a o u x1 m1 x2 m2 y1 y2
  ·obtain⟨x1,y1⟩:=old e1 a1 hi;obtain⟨_,_,z⟩:=new e2 a2 hj;subst z;exact absurd hp ((h.obj i o a x1 y1).there m1)
  ·obtain⟨x2,y2⟩:=old e2 a2 hj;obtain⟨_,_,z⟩:=new e1 a1 hi;subst z;exact absurd hp ((h.obj j u a x2 y2).there m2)
  ·rw[(new e1 a1 hi).1,(new e2 a2 hj).1]
 ·by_cases hi:i < S.length
  ·obtain⟨x1,y1⟩:=old e ea hi;exact(h.obj i o a x1 y1).keep (.inl hp) (λhm z=>(h.obj i o a x1 y1).there hm (z ▸ hp)) ex
  ·obtain⟨_,rfl,rfl⟩:=new e ea hi;exact r
def StoreOk.push {S:aa}{p:Jn}{ws:Ja W}{vs:Ja V}(h:StoreOk wd K A H S)(hp:H p=td)(r:RelL K A H ws vs):StoreOk wd K (A++[p]) (bS H p (.lst vs)) (S++[.lst ws]):=
 h.pushO hp #[vs,be,r.mono (dZ hp)]
def StoreOk.writeO {S:aa}{i:Jg}{p:Jn}{o0 n:O}{u:HO}(h:StoreOk wd K A H S)(e:S[i]?=gV o0)(m0:o0.mut=true)(ea:A[i]?=gV p)(r:ObjRel wd K A (bS H p u) p n) :
  StoreOk wd K A (bS H p u) (S.set i n)/\Ext K A H A (bS H p u):=by
 have hw:Wr H p:=(h.obj i _ p e ea).wr m0;have ex:Ext K A H A (bS H p u):=dm hw;have hl:i < S.length:=(Jz.mp e).1;refine#[#[by simp[h.len],λj k a o u e1 m1 e2 m2 a1 a2=>?_,λj o a e1 a1=>?_],ex]
 ·have get:∀ {j:Jg} {o:O},(S.set i n)[j]?=gV o->o.mut=true->∃o',S[j]?=gV o'/\o'.mut=true:=λ{j o} q m=>by
   rw[Ld]at q
   by_cases z:i=j
   ·subst z; exact#[_,e,m0]
   ·rw[JU z]at q; exact#[o,q,m]
  obtain⟨o',x1,m1'⟩:=get e1 m1;obtain⟨u',x2,m2'⟩:=get e2 m2;exact h.nd j k a o' u' x1 m1' x2 m2' a1 a2
 ·rw[Ld]at e1
  by_cases z:i=j
  ·subst z;rw[JK rfl,JK hl]at e1;cases e1;rw[ea]at a1; cases a1
   exact r
  ·rw[JU z]at e1;exact(h.obj j o a e1 a1).keep hw (λhm q=>z (h.nd i j p _ o e m0 e1 hm ea (q ▸ a1))) ex
def StoreOk.write {S:aa}{i:Jg}{p:Jn}{ws:Ja W}{us:Ja V}{ws0:Ja W}(h:StoreOk wd K A H S)(e:S[i]?=gV (.lst ws0))(ea:A[i]?=gV p)(r:RelL K A H ws us) :
  StoreOk wd K A (bS H p (.lst us)) (S.set i (.lst ws))/\Ext K A H A (bS H p (.lst us)):=
 h.writeO e rfl ea #[us,be,r.mono (dm ((h.obj i _ p e ea).wr rfl))]
end
abbrev iq (S:aa)(i:Jg):Ji (Ja W):=match S[i]? with
 | some (.lst xs)=>gV xs
 | some (.fro xs)=>gV xs
 | _=>td
abbrev oB (S:aa)(i:Jg):Ji (Ja W):=match S[i]? with
 | some (.lst xs)=>gV xs
 | _=>td
abbrev lO (S:aa)(xs:Ja W):Ji (W×aa):=if xs.length<=sizeLine then gV (.ref S.length,S++[.lst xs])else td
abbrev qB (S:aa)(xs:Ja W):Ji (W×aa):=if xs.length<=sizeLine then gV (.tup xs,S)else td
abbrev zY (j:Jk):JL:=decide (0 < j)&&decide (j < 1073741824)
abbrev uc (i j:Jk):JL:=(decide (-(2 ^ 64) < i)&&decide (i < 2 ^ 64))||(decide (-(2 ^ 64) < j)&&decide (j < 2 ^ 64))
abbrev Fa (i j:Jk):JL:=decide (0<=j)&&decide (j<=1000000)&&decide (i.natAbs < 2 ^ 64)
inductive BOp where|add|sub|mul|fdiv|mod|pow
 deriving Mo
abbrev zt (c:Jk->Jk->JL)(f:Jk->Jk->Jk)(x y:W)(S:aa):Ji (W×aa):=match x,y with
 | .int i,.int j=>if c i j then gV (.int (f i j),S)else td
 | _,_=>td
abbrev v6 (x y:W)(S:aa):Ji (W×aa):=match x with
 | .int i=>match y with
  | .int j=>gV (.int (i+j),S)
  | _=>td
 | .str x=>match y with
  | .str y=>if x.length+y.length<=sizeLine then gV (.str (x++y),S)else td
  | _=>td
 | .tup xs=>match y with
  | .tup ys=>qB S (xs++ys)
  | _=>td
 | .ref i=>match y with
  | .ref j=>match oB S i,oB S j with
   | some xs,gV ys=>lO S (xs++ys)
   | _,_=>td
  | _=>td
 | _=>td
abbrev zZ (x y:W)(S:aa):Ji (W×aa):=match x with
 | .str x=>match y with
  | .int k=>if k < 2 ^ 24/\-(2 ^ 24)<=k/\x.length*k.toNat<=sizeLine then gV (.str (Sc x k),S)else td
  | _=>td
 | .ref i=>match y with
  | .int k=>match oB S i with
   | some xs=>if k < 2 ^ 24/\-(2 ^ 24)<=k/\xs.length*k.toNat<=sizeLine then lO S (Ke k.toNat xs).flatten else td
   | none=>td
  | _=>td
 | x=>zt uc (· * ·) x y S
abbrev iu:BOp->W->W->aa->Ji (W×aa)
 | .add,x,y,S=>v6 x y S
 | .sub,x,y,S=>zt (λ_ _=>true) (· - ·) x y S
 | .mul,x,y,S=>zZ x y S
 | .fdiv,x,y,S=>zt (λ_ j=>zY j) (· / ·) x y S
 | .mod,x,y,S=>zt (λ_ j=>decide (0 < j)) (· % ·) x y S
 | .pow,x,y,S=>zt Fa (λi j=>i ^ j.toNat) x y S
abbrev BOp.py:BOp->Pl
 | .add=>.Add|.sub=>.Sub|.mul=>.Mult|.fdiv=>.FloorDiv|.mod=>.Mod|.pow=>.Pow
section
variable (X:Cx)
abbrev dF (J:Ja (Jn×KZ))(Y:L2.St)(A:Ja Jn)(H:Hp)(S':aa)(w:W)(u:Jd)(s':Jh):Prop:=
 ∃v H' A',Inv X J Y H' s'/\RelV v u/\Ext X.K A H A' H'/\StoreOk X.w X.K A' H' S'/\Rel X.K A' H' w v
noncomputable abbrev FE:=Fm->aa->Ji (W×aa)
abbrev LOp (f:Jd->Jd->Rp Jd)(g:W->W->aa->Ji (W×aa)):Prop:=
 ∀(J:Ja (Jn×KZ)) (s:Jh) (Y:L2.St) (H:Hp) (A:Ja Jn) (S:aa) (x y:W) (a b:V) (u v:Jd) (w:W) (S':aa),Inv X J Y H s->StoreOk X.w X.K A H S->
  Rel X.K A H x a->RelV a u->Rel X.K A H y b->RelV b v->g x y S=gV (w,S')->wpAny (model X.prog X.w) X.A (f u v) (dF X J Y A H S' w) X.xe s
end
section
variable{X:Cx}
def ki {S:aa}{i:Jg}{xs:Ja W}(h:oB S i=gV xs):S[i]?=gV (.lst xs):=by
 unfold oB at h;split at h
 ·cases h; assumption
 ·cases h
def eH {A:Ja Jn}{H:Hp}{S:aa}{i:Jg}{xs:Ja W}{a:Jn}(so:StoreOk X.w X.K A H S)(h:oB S i=gV xs)(ea:A[i]?=gV a):∃vs,H a=gV (.lst vs)/\RelL X.K A H xs vs:=
 so.obj i _ a (ki h) ea
def cY {A:Ja Jn}{H:Hp}{S:aa}{i:Jg}{xs:Ja W}{a:Jn}(so:StoreOk X.w X.K A H S)(h:iq S i=gV xs)(ea:A[i]?=gV a):∃vs,SqL X.K H a vs/\RelL X.K A H xs vs:=by
 unfold iq at h;split at h
 ·cases h;obtain⟨vs,q,r⟩:=so.obj i _ a (by assumption) ea
  exact#[vs,.of q,r]
 ·cases h;obtain⟨vs,q,r⟩:=so.obj i _ a (by assumption) ea
  exact#[vs,q.sq,r]
 ·cases h
def jT {S S':aa}{xs:Ja W}{w:W}(h:lO S xs=gV (w,S')):xs.length<=sizeLine/\w=.ref S.length/\S'=S++[.lst xs]:=by
 unfold lO at h;split at h
 ·cases h; exact#[by assumption,rfl,rfl]
 ·cases h
def r0 {S S':aa}{xs:Ja W}{w:W}(h:qB S xs=gV (w,S')):xs.length<=sizeLine/\w=.tup xs/\S'=S:=by
 unfold qB at h;split at h
 ·cases h; exact#[by assumption,rfl,rfl]
 ·cases h
def z4 {A:Ja Jn}{H:Hp}{S:aa}{ws:Ja W}{vs:Ja V}{Q:VK}{p:Jn}(so:StoreOk X.w X.K A H S)(r:RelL X.K A H ws vs)(hp:H p=td)
  (q:∀v H' A',Ext X.K A H A' H'->StoreOk X.w X.K A' H' (S++[.lst ws])->Rel X.K A' H' (.ref S.length) v->Q v H'):Q (.ref p) (bS H p (.lst vs)):=
 q _ _ (A++[p]) (dZ hp) (so.push hp r) (.ref (by rw[<- so.len]; simp))
def z5 {A:Ja Jn}{H:Hp}{S:aa}{ws:Ja W}{vs:Ja V}{Q:VK}{p:Jn}(so:StoreOk X.w X.K A H S)(r:RelL X.K A H ws vs)(hp:H p=td)
  (q:∀v H' A',Ext X.K A H A' H'->StoreOk X.w X.K A' H' S->Rel X.K A' H' (.tup ws) v->Q v H'):Q (.ref p) (bS H p (.tup vs)):=
 q _ _ A (dm (.inl hp)) (so.lay hp) (.tup (.of be) (r.mono (dm (.inl hp))))
abbrev Fb (K:Jx):R2:=λx y H Q=>∃a b xs ys,x=.ref a/\y=.ref b/\SqT K H a xs/\SqT K H b ys/\xs.length+ys.length<=sizeLine/\
 (xs=[]->Q (.ref b) H)/\(ys=[]->Q (.ref a) H)/\(∀p,H p=td->Q (.ref p) (bS H p (.tup (xs++ys))))
def z6:OpR X (binaryOp .Add) (Fb X.K):=by
 intro J s Y H x y v u Q I rx ry h;obtain⟨a,b,xs,ys,rfl,rfl,ha,hb,hz,q0,q1,q2⟩:=h;cases rx;cases ry;obtain⟨its,r1,p1,_⟩:=I.tuple ha;obtain⟨its2,r2,p2,_⟩:=I.tuple hb
 by_cases hx:xs=[]
 ·obtain⟨⟨cls,dd,data,sl⟩,ho,hc,n,hd⟩:=id p1;obtain⟨⟨cls2,dd2,data2,sl2⟩,ho2,hc2,n2,hd2⟩:=id p2;simp only at hc hd hc2 hd2;subst hc hd hc2 hd2;exact Pp #[_,ho,rfl] #[_,ho2,rfl] NP OS MR MN (MD _ _)
   (tuple_addW0 a b its.toArray its2.toArray n n2 dd dd2 sl sl2 (by simp[r1.nil_iff.mpr hx])) #[ho,ho2,#[.ref b,H,I,rfl,q0 hx]]
 ·refine HT.zN p1 p2 (λz=>hx (r1.nil_iff.mp z)) (λz=>#[.ref a,H,I,rfl,q1 (r2.nil_iff.mp z)]) (λz=>?_) (by rw[<- r1.length,<- r2.length]; exact hz)
  refine#[.ref s.heap.objs.size,_,I.laid (t':=s.toks) (o:=.tup (xs++ys)) (λb ob q=>Jm _ q) (Jo _) ?_,rfl,q2 _ (I.hok.fresh (Jo _))]
  exact#[#[by rw[Je]; exact hz,NoD.new _ _ _],_,r1.append r2,PR _ _]
def RelL.nil_iff {K:Jx}{A:Ja Jn}{H:Hp}{ws:Ja W}{vs:Ja V}(r:RelL K A H ws vs):vs=[]↔ws=[]:=by
 cases r <;> simp
def qC:OpR X (binaryOp .Mult) (λx y H Q=>∃z k,x=.str z/\y=.int k/\MulOk z k/\Q (.str (Sc z k)) H):=by
 intro J s Y H x y v u Q I rx ry h;obtain⟨z,k,rfl,rfl,ok,q⟩:=h;obtain⟨t,rfl⟩:=rx;obtain⟨t',rfl⟩:=ry;exact SB.mul ok λt2 k2=>#[.str _,H,I.tok _,#[_,rfl],q]
def v8 {x:JG}{k:Jk}(h1:k < 16777216)(h2 : -16777216<=k)(h3:x.length*k.toNat<=sizeLine):MulOk x k:=by
 have hs:sizeLine=16777216:=Kq;rw[hs]at h3;refine#[?_,λa b=>?_,λ_ _=>?_]
 ·rw[Bool.or_eq_false_iff];exact#[JX ∅,JX ∅]
 ·have hk:0 < k:=∅
  have e:(x.length:Jk)*k=((x.length*k.toNat:Jg):Jk):=by
   rw[Int.natCast_mul,L6 ∅]
  intro hgt;have h4:(2 ^ 63 - 1:Jk) < (x.length:Jk)*k:=(Int.ediv_lt_iff_lt_mul hk).mp hgt;rw[e]at h4;generalize x.length*k.toNat=z at h3 h4;omega
 ·unfold QM;rw[hs];exact JX ∅
abbrev EndV (wd:Kc)(K:Jx)(A:Ja Jn)(H:Hp)(S':aa)(w:W):VK:=λv H'=>∃A',Ext K A H A' H'/\StoreOk wd K A' H' S'/\Rel K A' H' w v
def EndV.here {A:Ja Jn}{H:Hp}{S:aa}{w:W}{v:V}(so:StoreOk X.w X.K A H S)(r:Rel X.K A H w v):EndV X.w X.K A H S w v H:=#[A,.refl,so,r]
def EndV.lst {A:Ja Jn}{H:Hp}{S:aa}{ws:Ja W}{vs:Ja V}{p:Jn}(so:StoreOk X.w X.K A H S)(r:RelL X.K A H ws vs)(hp:H p=td):EndV X.w X.K A H (S++[.lst ws]) (.ref S.length) (.ref p) (bS H p (.lst vs)):=
 z4 (Q:=EndV X.w X.K A H (S++[.lst ws]) (.ref S.length)) so r hp λv H' A' a b c=>#[A',a,b,c]
def EndV.tup {A:Ja Jn}{H:Hp}{S:aa}{ws:Ja W}{vs:Ja V}{p:Jn}(so:StoreOk X.w X.K A H S)(r:RelL X.K A H ws vs)(hp:H p=td):EndV X.w X.K A H S (.tup ws) (.ref p) (bS H p (.tup vs)):=
 z5 (Q:=EndV X.w X.K A H S (.tup ws)) so r hp λv H' A' a b c=>#[A',a,b,c]
def EP.post {J:Ja (Jn×KZ)}{Y:L2.St}{A:Ja Jn}{H:Hp}{S':aa}{w:W}{u:Jd}{s':Jh}(h:EP X J Y (EndV X.w X.K A H S' w) u s'):dF X J Y A H S' w u s':=by
 obtain⟨v,H',I',r,A',x,y,z⟩:=h;exact#[v,H',A',I',r,x,y,z]
def OpR.go {f:Jd->Jd->Rp Jd}{r:R2}(h:OpR X f r){J:Ja (Jn×KZ)}{Y:L2.St}{A:Ja Jn}{H:Hp}{S':aa}{w:W}{s:Jh}{a b:V}{u v:Jd}(I:Inv X J Y H s)(ru:RelV a u)(rv:RelV b v)
  (q:r a b H (EndV X.w X.K A H S' w)):wpAny (model X.prog X.w) X.A (f u v) (dF X J Y A H S' w) X.xe s:=bj (h J s Y H a b u v _ I ru rv q) λ_ _=>EP.post
def z7:LOp X (binaryOp .Add) (iu .add):=by
 intro J s Y H A S x y a b u v w S' I so rx ru ry rv e;cases rx with
 | int=>cases ry with
  | int=>cases e; exact OpR.go CP I ru rv #[_,_,rfl,rfl,.here so .int]
  | _=>cases e
 | str=>cases ry with
  | str=>
   dsimp only[iu,v6]at e;split at e
   ·cases e; exact OpR.go qu I ru rv #[_,_,rfl,rfl,by assumption,.here so .str]
   ·cases e
  | _=>cases e
 | tup h1 r1=>cases ry with
  | tup h2 r2=>
   obtain⟨hl,rfl,rfl⟩:=r0 (show qB S _=_ from e)
   rw[Je,r1.length,r2.length]at hl;refine OpR.go z6 I ru rv #[_,_,_,_,rfl,rfl,h1,h2,hl,λz=>?_,λz=>?_,λp hp=>.tup so (r1.append r2) hp]
   ·have z':=r1.nil_iff.mp z;subst z';exact .here so (.tup h2 r2)
   ·have z':=r2.nil_iff.mp z;subst z';rw[Ky];exact .here so (.tup h1 r1)
  | _=>cases e
 | ref h1=>cases ry with
  | ref h2=>
   dsimp only[iu,v6]at e;split at e
   ·obtain⟨hl,rfl,rfl⟩:=jT e;obtain⟨vs,q1,r1⟩:=eH so (by assumption) h1
    obtain⟨us,q2,r2⟩:=eH so (by assumption) h2
    rw[Je,r1.length,r2.length]at hl;exact OpR.go Da I ru rv #[_,_,_,_,rfl,rfl,q1,q2,hl,λp hp=>.lst so (r1.append r2) hp]
   ·cases e
  | _=>cases e
 | _=>cases e
def oO {f:Jd->Jd->Rp Jd}{c:Jk->Jk->JL}{g:Jk->Jk->Jk}{r:R2}(h:OpR X f r)(hr:∀i j H Q,c i j=true->Q (.int (g i j)) H->r (.int i) (.int j) H Q):LOp X f (zt c g):=by
 intro J s Y H A S x y a b u v w S' I so rx ru ry rv e;cases rx with
 | int=>cases ry with
  | int=>
   unfold zt at e;dsimp only at e;split at e
   ·cases e; exact OpR.go h I ru rv (hr _ _ _ _ (by assumption) (.here so .int))
   ·cases e
  | _=>cases e
 | _=>cases e
def z8:LOp X (binaryOp .Sub) (iu .sub):=oO CQ λ_ _ _ _ _ q=>#[_,_,rfl,rfl,q]
def z9 {i j:Jk}(h:uc i j=true):CMul i j:=by
 unfold uc at h;rw[K7,Jj,Jj,JP,JP,JP,JP]at h;exact h
def Aa:LOp X (binaryOp .Mult) (iu .mul):=by
 have hI:LOp X (binaryOp .Mult) (zt uc (· * ·)):=oO CS λ_ _ _ _ h q=>#[_,_,rfl,rfl,z9 h,q]
 intro J s Y H A S x y a b u v w S' I so rx ru ry rv e;cases x with
 | str z=>
  cases rx with
  | str=>cases ry with
   | int=>
    dsimp only[iu,zZ]at e;split at e
    ·rename_i hc;cases e; exact OpR.go qC I ru rv #[_,_,rfl,rfl,v8 ∅ ∅ hc.2.2,.here so .str]
    ·cases e
   | _=>cases e
 | ref z=>
  cases rx with
  | ref h1=>cases ry with
   | int=>
    dsimp only[iu,zZ]at e;split at e
    ·split at e
     ·rename_i hc;obtain⟨hl,rfl,rfl⟩:=jT e;obtain⟨vs,q1,r1⟩:=eH so (by assumption) h1
      rw[r1.length]at hc;exact OpR.go Db I ru rv #[_,_,_,rfl,rfl,q1,∅,∅,hc.2.2,λp hp=>.lst so (r1.rep _) hp]
     ·cases e
    ·cases e
   | _=>cases e
 | _=>exact hI _ _ _ _ _ _ _ _ _ _ _ _ _ _ I so rx ru ry rv e
def wa:LOp X (binaryOp .FloorDiv) (iu .fdiv):=oO zI λ_ _ _ _ h q=>#[_,_,rfl,rfl,by
 unfold zY at h;rw[Jj,JP,JP]at h;exact h,q]
def Ab:LOp X (binaryOp .Mod) (iu .mod):=oO CT λ_ _ _ _ h q=>#[_,_,rfl,rfl,J8 h,q]
def Ac:LOp X (binaryOp .Pow) (iu .pow):=oO CU λ_ _ _ _ h q=>#[_,_,rfl,rfl,by
 unfold Fa at h;rw[Jj,Jj,JP,JP,JP]at h;exact#[h.1.1,h.1.2,h.2],q]
def r6 (o:BOp):LOp X (binaryOp o.py) (iu o):=by
 cases o
 ·exact z7
 ·exact z8
 ·exact Aa
 ·exact wa
 ·exact Ab
 ·exact Ac
end
abbrev fO (f:W->W->Ji JL):Ja W->Ja W->Ji JL
 | [],[]=>gV true
 | [],_::_=>gV false
 | _::_,[]=>gV false
 | x::xs,y::ys=>match f x y,fO f xs ys with
  | some a,gV b=>gV (a&&b)
  | _,_=>td
abbrev b2 (b:JL):Jk:=if b then 1 else 0
abbrev gU (S:aa):Jg->W->W->Ji JL
 | _,.non,y=>match y with
  | .non=>gV true
  | _=>td
 | _,.bl a,y=>match y with
  | .bl b=>gV (a==b)
  | _=>td
 | _,.int a,y=>match y with
  | .int b=>gV (a==b)
  | _=>td
 | _,.str a,y=>match y with
  | .str b=>gV (a==b)
  | _=>td
 | 0,_,_=>td
 | d+1,.tup xs,y=>match y with
  | .tup ys=>fO (gU S d) xs ys
  | _=>td
 | d+1,.ref i,y=>match y with
  | .ref j=>match oB S i,oB S j with
   | some xs,gV ys=>if xs.length=ys.length then fO (gU S d) xs ys else gV false
   | _,_=>td
  | _=>td
section
variable{X:Cx}{J:Ja (Jn×KZ)}{Y:L2.St}{H:Hp}{s:Jh}{A:Ja Jn}{S:aa}
abbrev RU (K:Jx)(A:Ja Jn)(H:Hp)(w:W)(u:Jd):Prop:=∃v,Rel K A H w v/\RelV v u
def r8 {ws:Ja W}{vs:Ja V}{us:Ja Jd}(r:RelL X.K A H ws vs)(q:Vals vs us):∀(j:Jg) (h1:j < ws.length) (h2:j < us.length),RU X.K A H ws[j] us[j]:=by
 induction ws generalizing vs us with
 | nil=>intro j h1; simp at h1
 | cons w ws ih=>
  cases r with
  | cons r1 rr=>
   cases q with
   | cons q1 qq=>
    intro j h1 h2;cases j with
    | zero=>exact#[_,r1,q1]
    | succ j=>exact ih rr qq j (by simpa using h1) (by simpa using h2)
def wb {ws:Ja W}{u:Jd}(I:Inv X J Y H s)(h:RU X.K A H (.tup ws) u):∃a its,u=.ref a/\Ph s.heap a its/\its.size=ws.length/\ws.length<=sizeLine/\∀(j:Jg) (h1:j < ws.length) (h2:j < its.size),RU X.K A H ws[j] its[j]:=by
 obtain⟨v,r,q⟩:=h;cases r with
 | tup sq rl=>
  obtain⟨its,rv,ht,hz⟩:=I.tuple sq;refine#[_,its.toArray,q,ht,by rw[JE,<- rv.length,rl.length],by rw[rl.length]; exact hz,λj h1 h2=>?_]
  have:=r8 rl rv j h1 (by simpa using h2)
  simpa using this
def wc {i:Jg}{ws:Ja W}{u:Jd}(I:Inv X J Y H s)(so:StoreOk X.w X.K A H S)(e:oB S i=gV ws)(h:RU X.K A H (.ref i) u):∃a its,u=.ref a/\A[i]?=gV a/\s.heap.IsList a its/\its.size=ws.length/\ws.length<=sizeLine/\∀(j:Jg) (h1:j < ws.length) (h2:j < its.size),RU X.K A H ws[j] its[j]:=by
 obtain⟨v,r,q⟩:=h;cases r with
 | ref ea=>
  obtain⟨vs,hq,rl⟩:=eH so e ea;obtain⟨its,rv,ht,hz⟩:=I.list (.of hq);refine#[_,its.toArray,q,ea,ht.isList,by rw[JE,<- rv.length,rl.length],by rw[rl.length]; exact hz,λj h1 h2=>?_]
  have:=r8 rl rv j h1 (by simpa using h2)
  simpa using this
def kj {f:W->W->Ji JL}:∀ {xs ys:Ja W} {k:JL},fO f xs ys=gV k->∃e:Jg->JL,(∀(j:Jg) (h1:j < xs.length) (h2:j < ys.length),f xs[j] ys[j]=gV (e j))/\
  k=((Jw (min xs.length ys.length)).all e&&xs.length==ys.length)
 | [],[],k,h=>#[λ_=>true,λj h1=>by simp at h1,by cases h; rfl]
 | [],_::_,k,h=>#[λ_=>true,λj h1=>by simp at h1,by cases h; simp]
 | _::_,[],k,h=>#[λ_=>true,λj h1 h2=>by simp at h2,by cases h; simp]
 | x::xs,y::ys,k,h=>by
  dsimp only[fO]at h;split at h
  ·rename_i a b ha hb;cases h;obtain⟨e,h1,h2⟩:=kj hb;refine#[λj=>match j with|0=>a|j+1=>e j,λj hj1 hj2=>?_,?_]
   ·cases j with
    | zero=>exact ha
    | succ j=>exact h1 j (by simpa using hj1) (by simpa using hj2)
   ·subst h2;simp only[J2,Nat.add_min_add_right,List.range_succ_eq_map,Ki,List.all_map,Bool.and_assoc];congr 2;simp
  ·cases h
def Ad (I:Inv X J Y H s)(so:StoreOk X.w X.K A H S):∀(d:Jg) {x y:W} {v:V} {k:JL},Rel X.K A H x v->Rel X.K A H y v->gU S d x y=gV k->k=true:=by
 intro d
 induction d with
 | zero=>
  intro x y v k rx ry e;cases rx with
  | non=>cases ry; cases e; rfl
  | bl=>cases ry; cases e; exact Kr _
  | int=>cases ry; cases e; exact Kr _
  | str=>cases ry; cases e; exact Kr _
  | tup _ _=>cases e
  | ref _=>cases e
 | succ d ih=>
  have lists:∀ {xs ys:Ja W} {vs:Ja V} {k:JL},RelL X.K A H xs vs->RelL X.K A H ys vs->fO (gU S d) xs ys=gV k->k=true:=by
   intro xs
   induction xs with
   | nil=>
    intro ys vs k r1 r2 e;cases r1; cases r2; cases e; rfl
   | cons x xs ihx=>
    intro ys vs k r1 r2 e;cases r1 with
    | cons p1 q1=>
     cases r2 with
     | cons p2 q2=>
      dsimp only[fO]at e;split at e
      ·rename_i a b ha hb;cases e;rw[ih p1 p2 ha,ihx q1 q2 hb];rfl
      ·cases e
  intro x y v k rx ry e;cases rx with
  | non=>cases ry; cases e; rfl
  | bl=>cases ry; cases e; exact Kr _
  | int=>cases ry; cases e; exact Kr _
  | str=>cases ry; cases e; exact Kr _
  | tup h1 r1=>
   cases ry with
   | tup h2 r2=>
    rw[I.tuple_inj h1 h2]at r1;exact lists r1 r2 e
   | ref ea=>cases e
  | ref ea=>
   cases ry with
   | tup h2 r2=>cases e
   | ref eb=>
    dsimp only[gU]at e;split at e
    ·rename_i xs ys hx hy;have:=so.nd _ _ _ _ _ (ki hx) rfl (ki hy) rfl ea eb;subst this;rw[hx]at hy; cases hy
     rw[JK rfl]at e;obtain⟨vs,q,r⟩:=eH so hx ea;exact lists r r e
    ·cases e
def bh (A:J7):A.in1.units=A.units+1:=rfl
noncomputable abbrev Ey (B:J7)(s:Jh)(u v:Jd)(k:JL):Prop:=SeqAt.RcAt B s u v k/\SeqAt.RcNeAt B s u v (!k)/\MY B s u v k
open SeqAt in
def BY (I:Inv X J Y H s)(so:StoreOk X.w X.K A H S):∀(d:Jg) (B:J7) {x y:W} {u v:Jd} {k:JL},B.units+d < cLine->RU X.K A H x u->RU X.K A H y v->gU S d x y=gV k->Ey B s u v k:=by
 have non:∀ {B:J7} {y:W} {u v:Jd} {k:JL} {d:Jg},RU X.K A H .non u->RU X.K A H y v->gU S d .non y=gV k->Ey B s u v k:=by
  intro B y u v k d ⟨_,rx,ra⟩ ⟨_,ry,rb⟩ e;cases rx;cases(show u=Kt from ra)
  cases y with
  | non=>
   have e:gV (true)=gV k:=by cases d <;> exact e
   cases e;cases ry;cases(show v=Kt from rb)
   exact#[.none_none,.none_none,.same _]
  | _=>cases d <;> cases e
 have bl:∀ {B:J7} {b:JL} {y:W} {u v:Jd} {k:JL} {d:Jg},RU X.K A H (.bl b) u->RU X.K A H y v->gU S d (.bl b) y=gV k->Ey B s u v k:=by
  intro B b y u v k d ⟨_,rx,ra⟩ ⟨_,ry,rb⟩ e;cases rx;cases(show u=Nd _ from ra)
  cases y with
  | bl c=>
   have e:gV (b==c)=gV k:=by cases d <;> exact e
   cases e;cases ry;cases(show v=Nd _ from rb)
   exact#[.bool_bool _ _,.bool_bool _ _,.bool_bool _ _]
  | _=>cases d <;> cases e
 have int:∀ {B:J7} {b:Jk} {y:W} {u v:Jd} {k:JL} {d:Jg},RU X.K A H (.int b) u->RU X.K A H y v->gU S d (.int b) y=gV k->Ey B s u v k:=by
  intro B b y u v k d ⟨_,rx,ra⟩ ⟨_,ry,rb⟩ e;cases rx;obtain⟨t0,rfl⟩ : ∃t,u=NN _ t:=ra;cases y with
  | int c=>
   have e:gV (b==c)=gV k:=by cases d <;> exact e
   cases e;cases ry;obtain⟨t,rfl⟩ : ∃t,v=NN _ t:=rb;exact#[.int_int _ _ _ _,.int_int _ _ _ _,.int_int _ _ _ _]
  | _=>cases d <;> cases e
 have str:∀ {B:J7} {b:JG} {y:W} {u v:Jd} {k:JL} {d:Jg},RU X.K A H (.str b) u->RU X.K A H y v->gU S d (.str b) y=gV k->Ey B s u v k:=by
  intro B b y u v k d ⟨_,rx,ra⟩ ⟨_,ry,rb⟩ e;cases rx;obtain⟨t0,rfl⟩ : ∃t,u=NO _ t:=ra;cases y with
  | str c=>
   have e:gV (b==c)=gV k:=by cases d <;> exact e
   cases e;cases ry;obtain⟨t,rfl⟩ : ∃t,v=NO _ t:=rb;exact#[.str_str _ _ _ _,.str_str _ _ _ _,.str_str _ _ _ _]
  | _=>cases d <;> cases e
 intro d
 induction d with
 | zero=>
  intro B x y u v k hu rx ry e;cases x with
  | non=>exact non rx ry e
  | bl b=>exact bl rx ry e
  | int b=>exact int rx ry e
  | str b=>exact str rx ry e
  | _=>cases e
 | succ d ih=>
  intro B x y u v k hu rx ry e;have hu0:B.units < cLine:=∅
  have hu1:B.in1.units+d < cLine:=by rw[bh]; omega
  have rx0:=rx;have ry0:=ry;have fin:∀ {a b:Jn},u=.ref a->v=.ref b->RcAt B s u v k->RcNeAt B s u v (!k)->Ey B s u v k:=by
   intro a b ea eb h1 h2;subst ea eb;refine#[h1,h2,?_]
   by_cases hab:a=b
   ·subst hab;obtain⟨v1,q1,z1⟩:=rx0;obtain⟨v2,q2,z2⟩:=ry0;have e12:v1=v2:=z1.inj z2;subst e12;have:=Ad I so (d+1) q1 q2 e;subst this;exact EqAt.same _
   ·exact EqAt.of_refs hab h1
  cases x with
  | non=>exact non rx ry e
  | bl b=>exact bl rx ry e
  | int b=>exact int rx ry e
  | str b=>exact str rx ry e
  | tup xs=>
   cases y with
   | tup ys=>
    obtain⟨a,its,rfl,ht,hs,_,hi⟩:=wb I rx;obtain⟨b,its2,rfl,ht2,hs2,_,hi2⟩:=wb I ry;obtain⟨f,h1,h2⟩:=kj (show fO (gU S d) xs ys=gV k from e)
    have he:∀j (h1:j < its.size) (h2:j < its2.size),EqAt B.in1 s its[j] its2[j] (f j):=λj j1 j2=>
     (ih B.in1 hu1 (hi j (hs ▸ j1) j1) (hi2 j (hs2 ▸ j2) j2) (h1 j (hs ▸ j1) (hs2 ▸ j2))).2.2
    rw[<- hs,<- hs2]at h2;subst h2;exact fin rfl rfl (RcAt.tuples ht ht2 hu0 he) (RcNeAt.tuples ht ht2 hu0 he)
   | _=>cases e
  | ref i=>
   cases y with
   | ref j=>
    dsimp only[gU]at e;split at e
    ·rename_i ws ws2 hw hw2;obtain⟨a,its,rfl,_,hl,hs,_,hi⟩:=wc I so hw rx;obtain⟨b,its2,rfl,_,hl2,hs2,_,hi2⟩:=wc I so hw2 ry;split at e
     ·rename_i hlen;obtain⟨f,h1,h2⟩:=kj e;have he:∀j (h1:j < its.size) (h2:j < its2.size),EqAt B.in1 s its[j] its2[j] (f j):=λj j1 j2=>
       (ih B.in1 hu1 (hi j (hs ▸ j1) j1) (hi2 j (hs2 ▸ j2) j2) (h1 j (hs ▸ j1) (hs2 ▸ j2))).2.2
      have hk:k=(Jw its.size).all f:=by rw[h2,hs,hlen]; simp
      subst hk;exact fin rfl rfl (RcAt.lists hl hl2 (by rw[hs,hs2,hlen]) hu0 he) (RcNeAt.lists hl hl2 (by rw[hs,hs2,hlen]) hu0 he)
     ·rename_i hlen;cases e;have hb:(its.size != its2.size)=true:=by rw[hs,hs2]; simpa using hlen
      exact fin rfl rfl (RcAt.lists_lengths hl hl2 hb hu0) (RcNeAt.lists_lengths hl hl2 hb hu0)
    ·cases e
   | _=>cases e
end
abbrev LtAt (B:J7)(s:Jh)(u v:Jd)(k:JL):Prop:=
 ∀(prog:J0) (w:Kc) (E:Jd->Jh->Prop) (Q:Jd->Jh->Prop),Q (.bool k) s->wpAny (model prog w) B (richCompare .Lt u v) Q E s
inductive LexR (B:J7)(s:Jh):Ja Jd->Ja Jd->JL->Prop
 | nn:LexR B s [] [] false
 | nc {v:Jd} {vs:Ja Jd}:LexR B s [] (v::vs) true
 | cn {v:Jd} {vs:Ja Jd}:LexR B s (v::vs) [] false
 | eq {u v:Jd} {us vs:Ja Jd} {k:JL}:MY B s u v true->LexR B s us vs k->LexR B s (u::us) (v::vs) k
 | ne {u v:Jd} {us vs:Ja Jd} {k:JL}:MY B s u v false->LtAt B s u v k->LexR B s (u::us) (v::vs) k
section
open PySem.SeqAt
open PySem.AutoSeq1 (wpAny_loadPart')
open PySem.MeetsSeq PySem.MeetsSeq2 PySem.MeetsSeq3
def nr (l b:Jn)(items items2:Kh Jd)(n n2:Jg)(dd dd2:Ji Jn)(sl sl2:Kh (Ji Jd))(k:JL) :
  Meets (N3.«tuple.__lt__» #[[.ref l,.ref b],[]])
   (λB R s=>s.heap.get? l=gV { cls:=.type "tuple",dict:=dd,data:=.seq items n,slots:=sl }/\s.heap.get? b=gV { cls:=.type "tuple",dict:=dd2,data:=.seq items2 n2,slots:=sl2 }/\
    LexR B.in1 s items.toList items2.toList k/\R (.ok (.ret (.bool k))) s):=
 .of_wp λprog w A R s h=>by
  obtain⟨hp,g,d,tk,os⟩:=s; obtain⟨hl,hb,hx,h⟩:=h
  have f2:=QX;have z1:items.toList.length=items.size:=by simp
  have z2:items2.toList.length=items2.size:=by simp
  wp_walk using MH hl,MH hb,NR _ (λcz b s'=>b.1=td/\s'=#[hp,g,d,tk,os]/\∃(vs ws:Ja Jd),cz=vs.zip ws/\
   LexR A.in1 #[hp,g,d,tk,os] vs ws k/\vs.length+items2.size=ws.length+items.size) _
  case turn=>
   rintro⟨y,x⟩ cz b s' ⟨hb',rfl,vs,ws,hz,hlx,hlen⟩;cases hlx with
   | nn=>rw[Px]at hz; cases hz
   | nc=>rw[Px]at hz; cases hz
   | cn=>rw[List.zip_nil_right]at hz; cases hz
   | eq he hr=>
    rw[Mb]at hz;injection hz with hyx hrest
    injection hyx with hy hx
    subst hy hx;simp only[J2]at hlen;refine Jc (he prog w _ _ ?_)
    wp_walk
    exact#[rfl,rfl,_,_,hrest,hr,∅]
   | ne he hr=>
    rw[Mb]at hz;injection hz with hyx hrest
    injection hyx with hy hx
    subst hy hx;refine Jc (he prog w _ _ ?_);have hri:=hr prog w
    wp_walk using hri
    exact#[_,rfl,by simpa using h]
  case fin=>
   rintro⟨b1,b2⟩ s' ⟨hb',rfl,vs,ws,hz,hlx,hlen⟩;simp only at hb';subst hb';have hv:k=decide (items.size < items2.size):=by
    cases hlx with
    | nn=>simp only[Lg]at hlen; exact(JX ∅).symm
    | nc=>simp only[Lg,J2]at hlen; exact(Kf ∅).symm
    | cn=>simp only[Lg,J2]at hlen; exact(JX ∅).symm
    | eq _ _=>rw[Mb]at hz; cases hz
    | ne _ _=>rw[Mb]at hz; cases hz
   subst hv
   wp_walk
   exact#[_,rfl,by simpa [PN]using h]
  case h=>
   exact#[rfl,rfl,items.toList,items2.toList,rfl,hx,∅]
end
def LtAt.tuples {B:J7}{s:Jh}{l b:Jn}{items items2:Kh Jd}{k:JL}(hl:Ph s.heap l items)(hb:Ph s.heap b items2)(hu:B.units < cLine)(hx:LexR B.in1 s items.toList items2.toList k) :
  LtAt B s (.ref l) (.ref b) k:=λprog w E Q h=>by
 obtain⟨⟨cls,dd,data,sl⟩,ho,hc,n,hd⟩:=id hl;obtain⟨⟨cls2,dd2,data2,sl2⟩,ho2,hc2,n2,hd2⟩:=id hb;simp only at hc hd hc2 hd2;subst hc hd hc2 hd2;exact richCompare_meets_room (op:=.Lt) #[_,ho,rfl] #[_,ho2,rfl] PySem.F.slot_tuple_lt PySem.F.entry_tuple_lt (PySem.F.args_tuple_lt_2 _ _) (nr l b items items2 n n2 dd dd2 sl sl2 k)
  #[ho,ho2,hx,show Nd k≠Value.notImplemented/\Q (.bool k) s from#[(λx=>nomatch x),h]] hu
inductive COp where|eq|ne|lt|le|gt|ge|isin|notin|is|isnot
 deriving Mo
abbrev COp.py:COp->Qb
 | .eq=>.Eq|.ne=>.NotEq|.lt=>.Lt|.le=>.LtE|.gt=>.Gt|.ge=>.GtE|.isin=>.In|.notin=>.NotIn|.is=>.Is|.isnot=>.IsNot
abbrev bB:W->JL
 | .non=>true
 | .bl _=>true
 | .int _=>true
 | .str _=>true
 | _=>false
abbrev jz:W->W->JL
 | .non,.non=>true
 | .bl a,.bl b=>a==b
 | .bl a,.int b=>b2 a==b
 | .int a,.bl b=>a==b2 b
 | .int a,.int b=>a==b
 | .str a,.str b=>a==b
 | _,_=>false
abbrev eN (S:aa):W->Ji (Ja W)
 | .tup xs=>gV xs
 | .ref i=>iq S i
 | _=>td
noncomputable abbrev fP:Jg:=20
abbrev Ae (x y:W)(S:aa):Ji JL:=match eN S y with
 | some ys=>if bB x&&ys.all bB then gV (ys.any λz=>jz z x)else td
 | none=>td
abbrev we:W->JL
 | .non=>true
 | _=>false
abbrev wf (f:Jk->Jk->JL):W->W->Ji JL
 | .int i,.int j=>gV (f i j)
 | _,_=>td
abbrev ud:COp->W->W->aa->Ji JL
 | .eq,x,y,S=>gU S fP x y
 | .ne,x,y,S=>(gU S fP x y).map (!·)
 | .lt,x,y,_=>wf (λi j=>decide (i < j)) x y
 | .le,x,y,_=>wf (λi j=>decide (i<=j)) x y
 | .gt,x,y,_=>wf (λi j=>decide (j < i)) x y
 | .ge,x,y,_=>wf (λi j=>decide (j<=i)) x y
 | .isin,x,y,S=>Ae x y S
 | .notin,x,y,S=>(Ae x y S).map (!·)
 | .is,x,y,_=>if we y then gV (we x)else td
 | .isnot,x,y,_=>if we y then gV (!we x)else td
abbrev dC (o:COp)(x y:W)(S:aa):Ji (W×aa):=(ud o x y S).map λk=>(.bl k,S)
section
variable{X:Cx}
def r9 {J:Ja (Jn×KZ)}{Y:L2.St}{H:Hp}{s:Jh}{A:Ja Jn}{S:aa}{k:JL}(I:Inv X J Y H s)(so:StoreOk X.w X.K A H S):dF X J Y A H S (.bl k) (.bool k) s:=
 #[.bl k,H,A,I,rfl,.refl,so,.bl]
def Ag {o:COp}{x y w:W}{S S':aa}(h:dC o x y S=gV (w,S')):∃k,ud o x y S=gV k/\w=.bl k/\S'=S:=by
 unfold dC at h;rw[Jf]at h;obtain⟨k,h1,h2⟩:=h;cases h2;exact#[k,h1,rfl,rfl]
def km {A:Ja Jn}{H:Hp}{w:W}{v:V}(r:Rel X.K A H w v)(f:bB w=true):gS v=true:=by
 cases r <;> first|rfl|cases f
def jc {A:Ja Jn}{H:Hp}:∀ {ws:Ja W} {vs:Ja V},RelL X.K A H ws vs->ws.all bB=true->vs.all gS=true
 | _,_,.nil,_=>rfl
 | _,_,.cons r t,f=>by
  rw[Ki,Jj]at f ⊢;exact#[km r f.1,jc t f.2]
def sa {A:Ja Jn}{H:Hp}{x y:W}{u v:V}(r:Rel X.K A H x u)(q:Rel X.K A H y v)(fx:bB x=true)(fy:bB y=true):zT u v=jz x y:=by
 cases r <;> cases q <;> first|rfl|cases fx|cases fy
def sd {A:Ja Jn}{H:Hp}{y:W}{v:V}(q:Rel X.K A H y v)(fy:bB y=true):∀ {ws:Ja W} {vs:Ja V},RelL X.K A H ws vs->ws.all bB=true->GV v vs=ws.any λz=>jz z y
 | _,_,.nil,_=>rfl
 | _,_,.cons r t,f=>by
  rw[Ki,Jj]at f;have:=sd q fy t f.2;unfold GV at this ⊢;rw[LZ,LZ,sa r q f.1 fy,this]
def se {J:Ja (Jn×KZ)}{Y:L2.St}{H:Hp}{s:Jh}{A:Ja Jn}{S:aa}{y:W}{b:V}{ys:Ja W}(so:StoreOk X.w X.K A H S)(r:Rel X.K A H y b)(e:eN S y=gV ys):∃p vs,b=.ref p/\(SqL X.K H p vs\/SqT X.K H p vs)/\RelL X.K A H ys vs:=by
 cases r with
 | tup h1 r1=>cases e; exact#[_,_,rfl,.inr h1,r1]
 | ref ea=>
  obtain⟨vs,h1,r1⟩:=cY so e ea;exact#[_,vs,rfl,.inl h1,r1]
 | _=>cases e
def wg {neg:JL}{o:Qb}(ho:OpR X (compareOp o) (Hv X.K neg)){J:Ja (Jn×KZ)}{Y:L2.St}{H:Hp}{s:Jh}{A:Ja Jn}{S:aa}{x y:W}{a b:V}{u v:Jd}{ys:Ja W}(I:Inv X J Y H s)(so:StoreOk X.w X.K A H S)
  (rx:Rel X.K A H x a) (ru:RelV a u) (ry:Rel X.K A H y b) (rv:RelV b v) (e:eN S y=gV ys) (f:(bB x&&ys.all bB)=true) :
  wpAny (model X.prog X.w) X.A (compareOp o u v) (dF X J Y A H S (.bl (if neg then !ys.any λz=>jz z x else ys.any λz=>jz z x))) X.xe s:=by
 obtain⟨p,vs,rfl,hq,rl⟩:=se (J:=J) (Y:=Y) (s:=s) so ry e;rw[Jj]at f;refine OpR.go ho I ru rv #[p,vs,rfl,hq,km rx f.1,jc rl f.2,?_];rw[sd rx f.1 rl f.2];exact .here so .bl
def iy (hu:X.A.units+fP < cLine)(o:COp):LOp X (compareOp o.py) (dC o):=by
 intro J s Y H A S x y a b u v w S' I so rx ru ry rv e;obtain⟨k,ek,e1,e2⟩:=Ag e;subst e1;subst e2;clear e
 rename aa=>S
 have twoI:∀ {f:Jk->Jk->JL},wf f x y=gV k->∃i j,x=.int i/\y=.int j/\k=f i j:=by
  intro f h;cases x with
  | int i=>cases y with
   | int j=>cases h; exact#[i,j,rfl,rfl,rfl]
   | _=>cases h
  | _=>cases h
 have hu1:X.A.units+1 < cLine:=by have:fP=20:=rfl; omega
 have ofSq:∀ {c:JL},Ae x y S=gV c->(∃ys,eN S y=gV ys/\(bB x&&ys.all bB)=true/\c=ys.any λz=>jz z x):=by
  intro c h;unfold Ae at h;split at h
  ·split at h
   ·cases h; exact#[_,by assumption,by assumption,rfl]
   ·cases h
  ·cases h
 have ofN:∀ {c:JL},(if we y then gV c else td)=gV k->y=.non/\k=c:=by
  intro c h;cases y with
  | non=>cases h; exact#[rfl,rfl]
  | _=>cases h
 cases o with
 | eq=>exact(BY I so fP X.A hu #[a,rx,ru] #[b,ry,rv] ek).1 _ _ _ _ (r9 I so)
 | ne=>
  obtain⟨k',h1,rfl⟩:=Jf.mp ek;exact(BY I so fP X.A hu #[a,rx,ru] #[b,ry,rv] h1).2.1 _ _ _ _ (r9 I so)
 | lt=>
  obtain⟨i,j,rfl,rfl,rfl⟩:=twoI ek;cases rx; cases ry
  exact OpR.go E1 I ru rv #[_,_,rfl,rfl,.here so .bl]
 | le=>
  obtain⟨i,j,rfl,rfl,rfl⟩:=twoI ek;cases rx; cases ry
  exact OpR.go E2 I ru rv #[_,_,rfl,rfl,.here so .bl]
 | gt=>
  obtain⟨i,j,rfl,rfl,rfl⟩:=twoI ek;cases rx; cases ry
  exact OpR.go E3 I ru rv #[_,_,rfl,rfl,.here so .bl]
 | ge=>
  obtain⟨i,j,rfl,rfl,rfl⟩:=twoI ek;cases rx; cases ry
  exact OpR.go E4 I ru rv #[_,_,rfl,rfl,.here so .bl]
 | isin=>
  obtain⟨ys,h1,h2,rfl⟩:=ofSq ek;exact wg (neg:=false) tY I so rx ru ry rv h1 h2
 | notin=>
  obtain⟨c,h,rfl⟩:=Jf.mp ek;obtain⟨ys,h1,h2,rfl⟩:=ofSq h;exact wg (neg:=true) nj I so rx ru ry rv h1 h2
 | is=>
  obtain⟨rfl,rfl⟩:=ofN ek;cases ry;refine OpR.go CW I ru rv #[rfl,?_];cases rx <;> exact .here so .bl
 | isnot=>
  obtain⟨rfl,rfl⟩:=ofN ek;cases ry;refine OpR.go zJ I ru rv #[rfl,?_];cases rx <;> exact .here so .bl
end
end Mi
namespace HT
open PySem PyProof.Rows
section
variable{prog:J0}{w:Kc}{A:J7}{E:Jd->Jh->Prop}{s:Jh}
def gJ {t sl:Jn}{items:Kh Jd}{vl vu:Jd}{lo hi:Ji Jk}{Q:Jd->Jh->Prop}(ht:Ph s.heap t items)(hs:s.heap.IsSliceOf sl vl vu .none)(pl:Ni vl lo)(pu:Ni vu hi)
  (hw:cx items.size 0 lo=0/\cx items.size items.size hi=items.size) (h:Q (.ref t) s):wpAny (model prog w) A (getItem (.ref t) (.ref sl)) Q E s:=by
 obtain⟨os,hos,hcs,hds⟩:=id hs;have hTs:s.TypeIs (.ref sl) "slice":=#[os,hos,hcs];unfold getItem
 try with_reducible refine KP ?_
 first|refine Jc (Js ?_)|skip
 refine Jc (Pq ht.typeIs #v[] ?_)
 refine Jc (Kx (name:=LD "__getitem__") ht.typeIs Lh
  (KI Lh ht.typeIs OM ?_ (O5 _ _)))
 show wpAny _ _ (Mq (.ref t) >>= _) _ _ s;refine Jc (QR ht ?_);refine Jc (M9 hTs ?_);rw[JK #v[]]
 refine Jc (eL hs pl pu ?_);have hyes:((((cx items.size 0 lo:Jg):Jk)==0&&(1:Jk)==1&&(cx items.size items.size hi - cx items.size 0 lo)==items.size)=true):=by
  rw[hw.1,hw.2];simp
 show wpAny _ _ (if (((cx items.size 0 lo:Jg):Jk)==0&&(1:Jk)==1&&(cx items.size items.size hi - cx items.size 0 lo)==items.size)=true then _ else _) _ _ s
 rw[JK hyes];unfold QC;refine Jc (Jc (M9 ht.typeIs (Js ?_)));rw[JK #v[]]
 exact Jc (O1 (Jc (Js (Js #[_,rfl,Js h]))))
end
end HT
namespace Mi
open PySem PySem.Spec PyProof.Rows L2
abbrev ue (x y:W)(S:aa):Ji (W×aa):=match x,y with
 | .tup xs,.int i=>(oJ xs i).map λw=>(w,S)
 | .ref r,.int i=>match iq S r with
  | some xs=>(oJ xs i).map λw=>(w,S)
  | none=>td
 | .str x,.int i=>if x.length<=sizeLine then(oJ x.cps.toList i).map λc=>(.str #[[c].toArray],S)else td
 | _,_=>td
abbrev jN (xs:Ja W)(lo hi:Ji Jk):Ja W:=(xs.drop (HT.cx xs.length 0 lo)).take (HT.cx xs.length xs.length hi - HT.cx xs.length 0 lo)
abbrev lP (x:W)(lo hi:Ji Jk)(S:aa):Ji (W×aa):=match x with
 | .tup xs=>gV (.tup (jN xs lo hi),S)
 | .ref r=>match iq S r with
  | some xs=>gV (.ref S.length,S++[.lst (jN xs lo hi)])
  | none=>td
 | _=>td
abbrev uf (o i v:W)(S:aa):Ji aa:=match o,i with
 | .ref r,.int k=>match oB S r with
  | some xs=>match rV xs.length k with
   | some j=>gV (S.set r (.lst (xs.set j v)))
   | none=>td
  | none=>td
 | _,_=>td
section
variable (X:Cx)
abbrev LIx (g:W->W->aa->Ji (W×aa)):Prop:=
 ∀(value slice:JM) (J:Ja (Jn×KZ)) (s:Jh) (Y:L2.St) (H:Hp) (A:Ja Jn) (S:aa) (x y:W) (a b:V) (u v:Jd) (w:W) (S':aa),Inv X J Y H s->StoreOk X.w X.K A H S->
  Rel X.K A H x a->RelV a u->Rel X.K A H y b->RelV b v->g x y S=gV (w,S')->subscripted slice false u v=operate [u,v] (getItem u v)->wpAny (model X.prog X.w) X.A (subscriptTail value slice u v) (dF X J Y A H S' w) X.xe s
abbrev LSl (g:W->Ji Jk->Ji Jk->aa->Ji (W×aa)):Prop:=
 ∀(J:Ja (Jn×KZ)) (s:Jh) (Y:L2.St) (H:Hp) (A:Ja Jn) (S:aa) (x:W) (a:V) (v vl vu:Jd) (lo hi:Ji Jk) (sl:Jn) (w:W) (S':aa),Inv X J Y H s->StoreOk X.w X.K A H S->
  Rel X.K A H x a->RelV a v->s.heap.IsSliceOf sl vl vu .none->Ni vl lo->Ni vu hi->g x lo hi S=gV (w,S')->
  ∃T id,typeLookup (.type T) "__getitem__" = pure (gV (.builtin id))/\s.TypeIs v T/\wpAny (model X.prog X.w) X.A (getItem v (.ref sl)) (dF X J Y A H S' w) X.xe s
abbrev LSet (g:W->W->W->aa->Ji aa):Prop:=
 ∀(J:Ja (Jn×KZ)) (s:Jh) (Y:L2.St) (H:Hp) (A:Ja Jn) (S:aa) (o i x:W) (ao ai ax:V) (uo ui ux:Jd) (S':aa),Inv X J Y H s->StoreOk X.w X.K A H S->
  Rel X.K A H o ao->RelV ao uo->Rel X.K A H i ai->RelV ai ui->Rel X.K A H x ax->RelV ax ux->g o i x S=gV S'->
  wpAny (model X.prog X.w) X.A (setItem uo ui ux) (λ_ s'=>∃H' A',Inv X J Y H' s'/\Ext X.K A H A' H'/\StoreOk X.w X.K A' H' S') X.xe s
abbrev LCall (f:Jd)(g:Ja W->aa->Ji (W×aa)):Prop:=
 ∀(J:Ja (Jn×KZ)) (s:Jh) (Y:L2.St) (H:Hp) (A:Ja Jn) (S:aa) (xs:Ja W) (vs:Ja V) (us:Ja Jd) (w:W) (S':aa),Inv X J Y H s->StoreOk X.w X.K A H S->
  RelL X.K A H xs vs->Vals vs us->g xs S=gV (w,S')->wpAny (model X.prog X.w) X.A (call f us) (dF X J Y A H S' w) X.xe s
abbrev mo (id:KL)(g:W->Ja W->aa->Ji (W×aa)):Prop:=
 ∀(J:Ja (Jn×KZ)) (s:Jh) (Y:L2.St) (H:Hp) (A:Ja Jn) (S:aa) (x:W) (a:V) (u:Jd) (xs:Ja W) (vs:Ja V) (us:Ja Jd) (w:W) (S':aa),Inv X J Y H s->StoreOk X.w X.K A H S->
  Rel X.K A H x a->RelV a u->RelL X.K A H xs vs->Vals vs us->g x xs S=gV (w,S')->wpAny (model X.prog X.w) X.A (call (.builtin id) (u::us)) (dF X J Y A H S' w) X.xe s
end
section
variable{X:Cx}{J:Ja (Jn×KZ)}{Y:L2.St}{H:Hp}{s:Jh}{A:Ja Jn}{S:aa}
def IxR.go {r:R2}(h:IxR X r){S':aa}{w:W}{a b:V}{u v:Jd}{value slice:JM}(I:Inv X J Y H s)(ru:RelV a u)(rv:RelV b v)(q:r a b H (EndV X.w X.K A H S' w))(hs:subscripted slice false u v=operate [u,v] (getItem u v)) :
  wpAny (model X.prog X.w) X.A (subscriptTail value slice u v) (dF X J Y A H S' w) X.xe s:=bj (h value slice J s Y H a b u v _ I ru rv q hs) λ_ _=>EP.post
def CallR.go {f:Jd}{r:Ja V->Hp->VK->Prop}(h:CallR X f r){S':aa}{w:W}{vs:Ja V}{us:Ja Jd}(I:Inv X J Y H s)(rv:Vals vs us)(q:r vs H (EndV X.w X.K A H S' w)) :
  wpAny (model X.prog X.w) X.A (call f us) (dF X J Y A H S' w) X.xe s:=bj (h J s Y H vs us _ I rv q) λ_ _=>EP.post
def MtR.go {id:KL}{r:V->Ja V->Hp->VK->Prop}(h:MtR X id r){S':aa}{w:W}{a:V}{u:Jd}{vs:Ja V}{us:Ja Jd}(I:Inv X J Y H s)(ru:RelV a u)(rv:Vals vs us)(q:r a vs H (EndV X.w X.K A H S' w)) :
  wpAny (model X.prog X.w) X.A (call (.builtin id) (u::us)) (dF X J Y A H S' w) X.xe s:=bj (h J s Y H a vs u us _ I ru rv q) λ_ _=>EP.post
def sf {xs:Ja W}{vs:Ja V}{i:Jk}{w:W}(r:RelL X.K A H xs vs)(e:oJ xs i=gV w):∃v,oJ vs i=gV v/\Rel X.K A H w v:=by
 unfold oJ at e ⊢;rw[r.length]at e;cases q:rV vs.length i with
 | none=>rw[q]at e; cases e
 | some j=>
  rw[q]at e;obtain⟨v,h1,h2⟩:=r.get (show xs[j]?=gV w from e)
  exact#[v,h1,h2]
def IH (hu:X.A.units+10 < cLine):LIx X ue:=by
 intro value slice J s Y H A S x y a b u v w S' I so rx ru ry rv e hs;cases rx with
 | tup h1 r1=>cases ry with
  | int=>
   (dsimp only[ue]at e; simp only[Jf]at e)
   obtain⟨w',e1,e2⟩:=e;cases e2;obtain⟨z,h2,r2⟩:=sf r1 e1;exact IxR.go C6 I ru rv #[_,_,_,_,rfl,rfl,h1,h2,.here so r2] hs
  | _=>cases e
 | ref ea=>cases ry with
  | int=>
   dsimp only[ue]at e;split at e
   ·rename_i ws hw;rw[Jf]at e;obtain⟨w',e1,e2⟩:=e;cases e2;obtain⟨vs,h1,r1⟩:=cY so hw ea;obtain⟨z,h2,r2⟩:=sf r1 e1;exact IxR.go zR I ru rv #[_,_,_,_,rfl,rfl,h1,h2,.here so r2] hs
   ·cases e
  | _=>cases e
 | str=>cases ry with
  | int=>
   dsimp only[ue]at e;split at e
   ·rw[Jf]at e;obtain⟨c,e1,e2⟩:=e;cases e2;exact IxR.go C7 I ru rv #[_,_,_,rfl,rfl,by assumption,e1,.here so .str] hs
   ·cases e
  | _=>cases e
 | _=>cases ry <;> cases e
def nu {xs:Ja W}{vs:Ja V}{lo hi:Ji Jk}(r:RelL X.K A H xs vs):RelL X.K A H (jN xs lo hi) (kg vs lo hi):=by
 unfold jN kg;rw[r.length];exact(r.drop _).take _
def Ah:E7 X (λx lo hi H Q=>∃a xs,x=.ref a/\SqT X.K H a xs/\(kg xs lo hi=xs->Q (.ref a) H)/\∀p,H p=td->Q (.ref p) (bS H p (.tup (kg xs lo hi)))):=by
 intro J s Y H x v vl vu lo hi sl Q I rx hs pl pu h;obtain⟨a,xs,rfl,hx,q0,q⟩:=h
 by_cases hw:(HT.cx xs.length 0 lo=0/\HT.cx xs.length xs.length hi=xs.length)
 ·cases rx;obtain⟨its,r,ht,hz⟩:=I.tuple hx;have hlen:its.toArray.size=xs.length:=by rw[JE]; exact r.length.symm
  refine#["tuple",_,PyProof.Rows.slot_tuple_getitem.lookup,ht.typeIs,?_];refine HT.gJ ht hs pl pu (by rw[hlen]; exact hw) #[.ref a,H,I,rfl,q0 ?_]
  unfold kg;rw[hw.1,hw.2];simp
 ·exact C5 J s Y H (.ref a) v vl vu lo hi sl Q I rx hs pl pu #[a,xs,rfl,hx,hw,q]
def II:LSl X lP:=by
 intro J s Y H A S x a v vl vu lo hi sl w S' I so rx rv hs pl pu e;cases rx with
 | tup h1 r1=>
  cases e;obtain⟨T,id,z1,z2,z3⟩:=Ah J s Y H _ v vl vu lo hi sl (EndV X.w X.K A H S (.tup (jN _ lo hi))) I rv hs pl pu #[_,_,rfl,h1,λq=>.here so (.tup h1 (by have:=nu (lo:=lo) (hi:=hi) r1; rw[q]at this; exact this)),λp hp=>.tup so (nu r1) hp]
  exact#[T,id,z1,z2,bj z3 λ_ _=>EP.post]
 | ref ea=>
  simp only[lP]at e;split at e
  ·rename_i ws hw;cases e;obtain⟨vs,h1,r1⟩:=cY so hw ea;obtain⟨T,id,z1,z2,z3⟩:=zS J s Y H _ v vl vu lo hi sl (EndV X.w X.K A H (S++[.lst (jN ws lo hi)]) (.ref S.length)) I rv hs pl pu #[_,_,rfl,h1,λp hp=>.lst so (nu r1) hp]
   exact#[T,id,z1,z2,bj z3 λ_ _=>EP.post]
  ·cases e
 | _=>cases e
def lset (hu:X.A.units+10 < cLine):LSet X uf:=by
 intro J s Y H A S o i x ao ai ax uo ui ux S' I so ro ruo ri rui rx rux e;cases ro with
 | ref ea=>cases ri with
  | int=>
   simp only[uf]at e;split at e
   ·rename_i ws hw;split at e
    ·rename_i j hj;cases e;obtain⟨vs,h1,r1⟩:=eH so hw ea;rw[r1.length]at hj;obtain⟨so',ex⟩:=so.write (ki hw) ea (r1.set rx j);exact bj (vS J s Y H _ _ _ uo ui ux (λH'=>H'=bS H _ (.lst (vs.set j ax))) I ruo rui rux #[_,_,_,_,rfl,rfl,h1,hj,rfl]) λ_ s' #[H',I',e']=>#[_,A,e' ▸ I',ex,so']
    ·cases e
   ·cases e
  | _=>cases e
 | _=>cases ri <;> cases e
abbrev qD (xs:Ja W)(S:aa):Ji (W×aa):=match xs with
 | [.tup ys]=>gV (.int ys.length,S)
 | [.str y]=>if y.length<=sizeLine then gV (.int y.length,S)else td
 | [.ref i]=>(iq S i).map λys=>(.int ys.length,S)
 | _=>td
def ug:LCall X (.builtin "len") qD:=by
 intro J s Y H A S xs vs us w S' I so rl rv e;cases rl with
 | nil=>cases e
 | cons r t=>
  cases t with
  | cons _ _=>cases r <;> cases e
  | nil=>
   cases r with
   | tup h1 r1=>cases e; rw[r1.length]; exact CallR.go j9 I rv #[_,_,rfl,.inr #[_,h1,rfl],.here so .int]
   | str=>
    dsimp only[qD]at e;split at e
    ·cases e; exact CallR.go j9 I rv #[_,_,rfl,#[by assumption,rfl],.here so .int]
    ·cases e
   | ref ea=>
    (dsimp only[qD]at e; simp only[Jf]at e)
    obtain⟨ws,hw,e2⟩:=e;cases e2;obtain⟨vs',h1,r1⟩:=cY so hw ea;rw[r1.length];exact CallR.go j9 I rv #[_,_,rfl,.inl #[_,h1,rfl],.here so .int]
   | _=>cases e
abbrev gW (xs:Ja W)(S:aa):Ji (W×aa):=match xs with
 | [x]=>match eN S x with
  | some ys=>gV (.ref S.length,S++[.lst ys])
  | none=>td
 | _=>td
def hG:LCall X (.type "list") gW:=by
 intro J s Y H A S xs vs us w S' I so rl rv e;cases rl with
 | nil=>cases e
 | cons r t=>
  cases t with
  | cons _ _=>cases e
  | nil=>
   simp only[gW]at e;split at e
   ·rename_i ys hy;cases e;obtain⟨p,vs',rfl,hq,r1⟩:=se (J:=J) (Y:=Y) (s:=s) so r hy;exact CallR.go nk I rv #[p,vs',rfl,hq,λl hl=>.lst so r1 hl]
   ·cases e
abbrev kn (xs:Ja W)(S:aa):Ji (W×aa):=match xs with
 | [.tup ys]=>gV (.tup ys,S)
 | [.ref i]=>match iq S i with
  | some ys=>gV (.tup ys,S)
  | none=>td
 | _=>td
def jA:LCall X (.type "tuple") kn:=by
 intro J s Y H A S xs vs us w S' I so rl rv e;cases rl with
 | nil=>cases e
 | cons r t=>
  cases t with
  | cons _ _=>cases r <;> cases e
  | nil=>
   cases r with
   | tup h1 r1=>cases e; exact CallR.go gT I rv #[_,_,rfl,.inr #[h1,.here so (.tup h1 r1)]]
   | ref ea=>
    dsimp only[kn]at e;split at e
    ·rename_i ys hy;cases e;obtain⟨vs',h1,r1⟩:=cY so hy ea;exact CallR.go gT I rv #[_,_,rfl,.inl #[h1,λl hl=>.tup so r1 hl]]
    ·cases e
   | _=>cases e
abbrev Fc (xs:Ja W)(S:aa):Ji (W×aa):=match xs with
 | [.int i]=>gV (.int i,S)
 | [.bl b]=>gV (.int (if b then 1 else 0),S)
 | _=>td
def uh:LCall X (.type "int") Fc:=by
 intro J s Y H A S xs vs us w S' I so rl rv e;cases rl with
 | nil=>cases e
 | cons r t=>
  cases t with
  | cons _ _=>cases r <;> cases e
  | nil=>
   cases r with
   | int=>cases e; exact CallR.go lZ I rv (.inl #[_,rfl,.here so .int])
   | bl=>cases e; exact CallR.go lZ I rv (.inr #[_,rfl,.here so .int])
   | _=>cases e
abbrev iz (x:W)(xs:Ja W)(S:aa):Ji (W×aa):=match x,xs with
 | .ref i,[y]=>match oB S i with
  | some ys=>if ys.length < sizeLine then gV (.non,S.set i (.lst (ys++[y])))else td
  | none=>td
 | _,_=>td
def jd {i:Jg}{p:Jn}{ws ws0:Ja W}{us:Ja V}(so:StoreOk X.w X.K A H S)(e:oB S i=gV ws0)(ea:A[i]?=gV p)(r:RelL X.K A H ws us){w:W}{v:V}(rw':Rel X.K A H w v) :
  EndV X.w X.K A H (S.set i (.lst ws)) w v (bS H p (.lst us)):=by
 obtain⟨so',ex⟩:=so.write (ki e) ea r;exact#[A,ex,so',rw'.mono ex]
def nv:mo X "list.append" iz:=by
 intro J s Y H A S x a u xs vs us w S' I so rx ru rl rv e;cases rx with
 | ref ea=>
  cases rl with
  | nil=>cases e
  | cons r t=>
   cases t with
   | cons _ _=>cases e
   | nil=>
    simp only[iz]at e;split at e
    ·rename_i ys hy;split at e
     ·rename_i hl;cases e;obtain⟨vs',h1,r1⟩:=eH so hy ea;rw[r1.length]at hl;exact MtR.go tZ I ru rv #[_,_,_,rfl,rfl,h1,hl,jd so hy ea (r1.append #v[r]) .non]
     ·cases e
    ·cases e
 | _=>cases e
abbrev iA (x:W)(xs:Ja W)(S:aa):Ji (W×aa):=match x,xs with
 | .ref i,[.ref j]=>match oB S i,oB S j with
  | some ys,gV zs=>if ys.length+zs.length<=sizeLine then gV (.non,S.set i (.lst (ys++zs)))else td
  | _,_=>td
 | _,_=>td
def nw:mo X "list.extend" iA:=by
 intro J s Y H A S x a u xs vs us w S' I so rx ru rl rv e;cases rx with
 | ref ea=>
  cases rl with
  | nil=>cases e
  | cons r t=>
   cases t with
   | cons _ _=>cases r <;> cases e
   | nil=>
    cases r with
    | ref eb=>
     dsimp only[iA]at e;split at e
     ·rename_i ys zs hy hz;split at e
      ·rename_i hl;cases e;obtain⟨vs',h1,r1⟩:=eH so hy ea;obtain⟨vs2,h2,r2⟩:=eH so hz eb;rw[r1.length,r2.length]at hl;exact MtR.go t8 I ru rv #[_,_,_,_,rfl,rfl,h1,h2,hl,jd so hy ea (r1.append r2) .non]
      ·cases e
     ·cases e
    | _=>cases e
 | _=>cases e
abbrev Ai (x:W)(xs:Ja W)(S:aa):Ji (W×aa):=match x,xs with
 | .ref i,[.int k]=>match oB S i with
  | some ys=>if -(2 ^ 63)<=k/\k < 2 ^ 63 then match seqIndex? k ys.length with
   | some j=>match ys[j]? with
    | some y=>gV (y,S.set i (.lst (ys.eraseIdx j)))
    | none=>td
   | none=>td
   else td
  | none=>td
 | _,_=>td
def uj:mo X "list.pop" Ai:=by
 intro J s Y H A S x a u xs vs us w S' I so rx ru rl rv e;cases rx with
 | ref ea=>
  cases rl with
  | nil=>cases e
  | cons r t=>
   cases t with
   | cons _ _=>cases r <;> cases e
   | nil=>
    cases r with
    | int=>
     dsimp only[Ai]at e;split at e
     ·rename_i ys hy;split at e
      ·rename_i hk;split at e
       ·rename_i j hj;split at e
        ·rename_i y hyj;cases e;obtain⟨vs',h1,r1⟩:=eH so hy ea;obtain⟨v',h2,r2⟩:=r1.get hyj;rw[r1.length]at hj;exact MtR.go vU I ru rv #[_,_,_,_,_,rfl,rfl,h1,hk.1,hk.2,hj,h2,jd so hy ea (r1.eraseIdx j) r2]
        ·cases e
       ·cases e
      ·cases e
     ·cases e
    | _=>cases e
 | _=>cases e
def je {tx:RQ}{A:J7}{E:Jd->Jh->Prop}{s:Jh}{β:Type}{m:Jg}(f:Jg->β->Rp (ForInStep β))(I:Jg->β->Jh->Prop)(Q:β->Jh->Prop)
  (turn:∀i b s,i < m->I i b s->wpAny tx A (f i b) (λr s'=>match r with|.yield b'=>I (i+1) b' s'|.done b'=>Q b' s') E s)
  (fin:∀b s,I m b s->Q b s) (b:β) (h:I 0 b s):wpAny tx A (forIn [0:m] b f) Q E s:=by
 rw[Std.Legacy.Range.forIn_eq_forIn_range'];simp only[Std.Legacy.Range.size,Py,O8,Nat.div_one];refine NR _ (λcz b s'=>∃i,i<=m/\cz=Rx i (m - i)/\I i b s') _ ?_ ?_ _ _ #[0,Lq _,by simp,h]
 ·rintro x cz b s' ⟨i,hi,hr,hI⟩;have hlt:i < m:=by
   rcases Pz i m with h|h
   ·exact h
   ·rw[Nat.sub_eq_zero_of_le h]at hr; simp at hr
  obtain⟨rfl,hrest⟩ : x=i/\cz=Rx (i+1) (m - (i+1)):=by
   have e:m - i=(m - (i+1))+1:=∅
   rw[e,P1]at hr;injection hr with h1 h2
   exact#[h1,h2]
  refine Lc (turn x b s' hlt hI) (λr s2 hr2=>?_) λ_ _ e=>e
  cases r with
  | yield b'=>exact#[x+1,hlt,hrest,hr2]
  | done b'=>exact hr2
 ·rintro b s' ⟨i,hi,hr,hI⟩;have:i=m:=by
   rcases Pz i m with h|h
   ·have e:m - i=(m - (i+1))+1:=∅
    rw[e,P1]at hr; cases hr
   ·omega
  exact fin b s' (this ▸ hI)
open SeqAt in
def lQ (l:Jn)(items:Kh Jd)(n:Jg)(dd:Ji Jn)(sl:Kh (Ji Jd))(x:Jd)(e:Jd->JL)(j:Jg)(hj:j < items.size)
  (hit:e items[j]=true) (hno:∀m (hm:m < items.size),m < j->e items[m]=false) :
  Meets (N3.«tuple.index» #[[.ref l,x],[]])
   (λA R s=>s.heap.get? l=gV { cls:=.type "tuple",dict:=dd,data:=.seq items n,slots:=sl }/\(∀y,y∈items->EqAt A.in1 s y x (e y))/\R (.ok (.ret (.int j s.toks))) { s with toks:=s.toks+1 }):=
 .of_wp λprog w A R s h=>by
  obtain⟨hp,g,d,tk,os⟩:=s; obtain⟨hl,he,h⟩:=h
  wp_walk using MH hl,je _ (λi b s'=>b.1=td/\s'=#[hp,g,d,tk,os]/\i<=j) _
  case turn=>
   rintro i b s' hi ⟨hb,rfl,hij⟩;have hi2:i < items.size:=∅
   rw[My hi2];refine Jc (he _ (Array.getElem_mem hi2) prog w _ _ ?_)
   by_cases ej:i=j
   ·subst ej;rw[hit]
    wp_walk
    exact#[_,rfl,h]
   ·rw[hno i hi2 ∅]
    wp_walk
    exact#[rfl,rfl,∅]
  case fin=>
   rintro b s' ⟨hb,rfl,hij⟩;rw[LF]at hij;omega
  case h=>exact#[rfl,rfl,Lq _]
def ny {A:Ja Jn}{H:Hp}:∀ {ws:Ja W} {vs:Ja V} {us:Ja Jd},RelL X.K A H ws vs->Vals vs us->ws.all bB=true->∀(j:Jg) (h:j < us.length) (h':j < ws.length),oK .non us[j]=jz ws[j] .non
 | _,_,_,.nil,.nil,_,j,h,_=>absurd h (Qi _)
 | _,_,_,.cons r t,.cons q p,f,j,h,h'=>by
  rw[Ki,Jj]at f;cases j with
  | zero=>exact(qA q (km r f.1)).trans (sa r .non f.1 rfl)
  | succ j=>exact ny t p f.2 j (N4 h) (N4 h')
abbrev iB (x:W)(xs:Ja W)(S:aa):Ji (W×aa):=match x,xs with
 | .tup ys,[.non]=>if ys.all bB then(ys.findIdx? λz=>jz z .non).map λj=>(.int (j:Jg),S)else td
 | _,_=>td
def oP:mo X "tuple.index" iB:=by
 intro J s Y H A S x a u xs vs us w S' I so rx ru rl rv e;cases rx with
 | tup hq r1=>
  cases rl with
  | nil=>cases e
  | cons r t=>
   cases t with
   | cons _ _=>cases r <;> cases e
   | nil=>
    cases r with
    | non=>
     dsimp only[iB]at e;split at e
     ·rename_i hf;rw[Jf]at e;obtain⟨j,hj,e⟩:=e;cases e;cases ru;obtain⟨u',rfl,q'⟩:=rv.one;cases(show u'=Kt from q')
      obtain⟨its,r2,⟨⟨cls,dd,data,sl⟩,eo,hc,n,hd⟩,hz⟩:=I.tuple hq;dsimp only at hc hd;subst hc hd;have hl:its.length=_:=r2.length.symm.trans r1.length.symm;obtain⟨hj1,hj2,hj3⟩:=LN.mp hj;refine MZ NF #[_,eo,rfl] PySem.F.entry_tuple_index (PySem.F.args_tuple_index_2 _ _) (lQ _ its.toArray n dd sl .none (oK .non) j (by rw[JE,hl]; exact hj1) ?_ λm hm h=>?_) #[eo,λy hy=>eM (x:=.non) rfl rfl r2 (jc r1 hf) y (by simpa using hy),#[.int _,H,A,I.tok _,#[_,rfl],.refl,so,.int]]
      ·exact(ny r1 r2 hf j (by rw[hl]; exact hj1) hj1).trans hj2
      ·have hm':m < its.length:=by simpa using hm
       exact(ny r1 r2 hf m hm' (by rw[<- hl]; exact hm')).trans (by simpa using hj3 m h)
     ·cases e
    | _=>cases e
 | _=>cases e
abbrev cU (S:aa):W->Ji JL
 | .non=>gV false
 | .bl b=>gV b
 | .int i=>gV (i != 0)
 | .str y=>if y.length<=sizeLine then gV ((y.length:Jk) != 0)else td
 | .tup xs=>gV (!xs.isEmpty)
 | .ref i=>(iq S i).map λxs=>!xs.isEmpty
def jB {ws:Ja W}{vs:Ja V}(r:RelL X.K A H ws vs):(!ws.isEmpty) = !vs.isEmpty:=by cases r <;> rfl
def HA {x:W}{a:V}{u:Jd}{k:JL}{Q:JL->Jh->Prop}(I:Inv X J Y H s)(so:StoreOk X.w X.K A H S)(rx:Rel X.K A H x a)(ru:RelV a u)(e:cU S x=gV k)(hq:∀s',Inv X J Y H s'->Q k s') :
  wpAny (model X.prog X.w) X.A (truthy u) Q X.xe s:=by
 refine bj (CY J s Y H a u (λb H'=>b=k/\H'=H) I ru #[k,?_,rfl,rfl]) λb s' #[H',I',e1,e2]=>?_
 ·cases rx with
  | non=>cases e; rfl
  | bl=>cases e; rfl
  | int=>cases e; rfl
  | str=>
   simp only[cU]at e;split at e
   ·cases e; exact#[by assumption,rfl]
   ·cases e
  | tup h1 r1=>cases e; exact .inr (.inl #[_,h1,jB r1])
  | ref ea=>
   simp only[cU,Jf]at e;obtain⟨ws,hw,e2⟩:=e;subst e2;obtain⟨vs,h1,r1⟩:=cY so hw ea;exact .inl #[_,h1,jB r1]
 ·subst e1 e2;exact hq s' I'
end
section
variable{α:Type}{prog:J0}{w:Kc}{A:J7}{E:Jd->Jh->Prop}{s:Jh}
def oQ:∀ {l:Ja α} {i:Jg} (h:i < l.length),(l[i]::l.eraseIdx i).Perm l
 | x::l,0,_=>.refl _
 | x::l,i+1,h=>(R5 _ _ _).trans ((oQ (l:=l) (i:=i) (by simpa using h)).cons x)
end
abbrev wj (S:aa)(i:Jg):Ji (Jk×Jk):=match S[i]? with
 | some (.rng lo hi)=>gV (lo,hi)
 | _=>td
abbrev qE (xs:Ja W)(S:aa):Ji (W×aa):=match xs with
 | [.int j]=>if -(2 ^ 62)<=j/\j < 2 ^ 62 then gV (.ref S.length,S++[.rng 0 j])else td
 | _=>td
abbrev Fd (lo:Jk)(n:Jg):Ja W:=(Jw n).map λ(k:Jg)=>.int (lo+(k:Jk))
abbrev ko (xs:Ja W)(S:aa):Ji (W×aa):=match xs with
 | [.ref i]=>match wj S i with
  | some (lo,hi)=>if -(2 ^ 62)<=lo/\lo < 2 ^ 62/\-(2 ^ 62)<=hi/\hi < 2 ^ 62/\(hi - lo).toNat<=sizeLine then gV (.ref S.length,S++[.lst (Fd lo (hi - lo).toNat)])else td
  | none=>gW [.ref i] S
 | xs=>gW xs S
section
variable{X:Cx}{J:Ja (Jn×KZ)}{Y:L2.St}{H:Hp}{s:Jh}{A:Ja Jn}{S:aa}
def Inv.drawn (I:Inv X J Y H s)(d:R4):Inv X J Y H { s with drawn:=d }:=#[I.ok,I.os,I.bare,I.base,I.loc,I.cell,I.free,I.freeC,I.pin,I.hok,I.len]
def oR {h':Kl}{tk:Jg}{dr:R4}{D:Jn}{n:O}{u:HO}(I:Inv X J Y H s)(so:StoreOk X.w X.K A H S)(hk:∀b o,s.heap.get? b=gV o->h'.get? b=gV o)(hD:s.heap.objs.size<=D)(new:ObjOk X.prog X.w (bS H D u) h' D u)
  (r:H D=td->ObjRel X.w X.K (A++[D]) (bS H D u) D n):dF X J Y A H (S++[n]) (.ref S.length) (.ref D) { s with heap:=h',toks:=tk,drawn:=dr }:=by
 have hn:H D=td:=I.hok.fresh hD;refine#[.ref D,_,A++[D],Mi.Inv.drawn (I.laid (a:=D) (o:=u) (t':=tk) hk hD new) dr,rfl,dZ hn,so.pushO hn (r hn),.ref ?_];rw[<- so.len]; simp
def nz:∀ {vs:Ja V} {us:Ja Jd},vs.length=us.length->(∀(i:Jg) v u,vs[i]?=gV v->us[i]?=gV u->L2.RelV v u)->Vals vs us
 | [],[],_,_=>.nil
 | v::vs,u::us,hl,h=>.cons (h 0 v u rfl rfl) (nz (by simpa using hl) λi v u a b=>h (i+1) v u (by simpa using a) (by simpa using b))
 | [],_::_,hl,_=>by cases hl
 | _::_,[],hl,_=>by cases hl
def nA {K:Jx}{lo:Jk}:∀(l:Ja Jg),RelL K A H (l.map λ(k:Jg)=>W.int (lo+(k:Jk))) (l.map λ(k:Jg)=>V.int (lo+(k:Jk)))
 | []=>.nil
 | _::l=>.cons .int (nA l)
def sg {xs:Ja W}{vs:Ja V}{us:Ja Jd}{i:Jg}(rl:RelL X.K A H [.ref i] vs)(rv:Vals vs us):∃a,A[i]?=gV a/\us=[.ref a]:=by
 cases rl with
 | cons r t=>
  cases t;cases r with
  | @ref _ a ea=>
   cases rv with
   | cons ru rv=>
    cases rv;obtain rfl:_=Kj a:=ru;exact#[a,ea,rfl]
def oS:LCall X (.type "range") qE:=by
 intro J s Y H A S xs vs us w S' I so rl rv e;unfold qE at e;split at e
 ·rename_i j;split at e
  ·rename_i hb;cases e;cases rl with
   | cons r t=>
    cases t;cases r;cases rv with
    | cons ru rv=>
     cases rv;obtain⟨tk,rfl⟩:=ru;exact Rg (oR (dr:=s.drawn) (u:=.rng 0 j) I so (λb o e=>Jm _ e) (Jo _) #[_,_,_,JH _ rfl] λ_=>be)
  ·cases e
 ·cases e
def oT (hh:X.A.handled=td):LCall X (.type "list") ko:=by
 intro J s Y H A S xs vs us w S' I so rl rv e;unfold ko at e;split at e
 ·rename_i i;split at e
  ·rename_i lo hi hr;split at e
   ·rename_i hb;cases e;obtain⟨a,ea,rfl⟩:=sg (xs:=[]) rl rv;obtain⟨b1,b2,b3,b4,b5⟩:=hb;have hH:H a=gV (.rng lo hi):=by
     unfold wj at hr;split at hr
     ·rename_i hx; cases hr; exact so.obj i _ a hx ea
     ·cases hr
    obtain⟨t,u,v,ho⟩:=I.hok a _ hH;have hn:La lo hi 1=((hi - lo).toNat:Jg):=by rw[OR]; split <;> omega
    refine call_list_range hh ho (Rc b1 b2 b3 b4) hn b5 λh' tk acc c hk hD hacc=>?_
    have hv:Vals ((Jw (hi - lo).toNat).map λ(k:Jg)=>V.int (lo+(k:Jk))) acc.toList:=by
     refine nz (by rw[Jb,JS,J6,hacc.1]) λi v u e1 e2=>?_
     rw[Jl,Jf]at e1;obtain⟨k,e1,rfl⟩:=e1;obtain⟨hk,rfl⟩:=Jz.mp e1;obtain⟨t,rfl⟩:=hacc.2 i u (by rw[<- K1]; exact e2)
     exact#[t,by simp]
    refine oR (dr:=s.drawn) (u:=.lst ((Jw (hi - lo).toNat).map λ(k:Jg)=>V.int (lo+(k:Jk)))) I so hk (Jo _) #[by simpa using b5,acc.toList,c,hv,by simpa using hD] λhn=>#[_,be,?_]
    exact nA _
   ·cases e
  ·exact hG J s Y H A S _ vs us w S' I so rl rv e
 ·exact hG J s Y H A S _ vs us w S' I so rl rv e
end
mutual
inductive IsT (h:Kl):T->Jd->Prop
 | int {i:Jk} {t:Sb}:IsT h (.int i) (.int i t)
 | str {x:JG} {t:Sb}:IsT h (.str x) (.str x t)
 | tup {ks:Ja T} {a:Jn} {o:KZ} {items:Kh Jd} {n:Jg}:h.get? a=gV o->o.cls=.type "tuple"->o.data=.seq items n->IsTs h ks items.toList->IsT h (.tup ks) (.ref a)
inductive IsTs (h:Kl):Ja T->Ja Jd->Prop
 | nil:IsTs h [] []
 | cons {k:T} {v:Jd} {ks:Ja T} {vs:Ja Jd}:IsT h k v->IsTs h ks vs->IsTs h (k::ks) (v::vs)
end
mutual
theorem IsT.inj {h:Kl}:∀ {x y:T} {v:Jd},IsT h x v->IsT h y v->x=y
 | _,_,_,.int,h2=>by cases h2; rfl
 | _,_,_,.str,h2=>by cases h2; rfl
 | _,_,_,.tup a1 _ d1 t1,h2=>by
  cases h2 with
  | tup a2 _ d2 t2=>
   rw[a1]at a2; cases a2
   rw[d1]at d2; cases d2
   rw[IsTs.inj t1 t2]
theorem IsTs.inj {h:Kl}:∀ {x y:Ja T} {v:Ja Jd},IsTs h x v->IsTs h y v->x=y
 | _,_,_,.nil,h2=>by cases h2; rfl
 | _,_,_,.cons a b,h2=>by
  cases h2 with
  | cons c d=>rw[IsT.inj a c,IsTs.inj b d]
end
mutual
theorem IsT.keeps {h h':Kl}{d:Jn}{o:KZ}{es:Kh Lx}{ep:Jg}(ho:h.get? d=gV o)(hd:o.data=.dict es ep)(hs:LS d h h'):∀ {x:T} {v:Jd},IsT h x v->IsT h' x v
 | _,_,.int=>.int
 | _,_,.str=>.str
 | _,_,.tup (a:=a) a1 c1 d1 t1=>by
  have hne:a≠d:=by
   rintro rfl;rw[a1]at ho; cases ho
   rw[d1]at hd; cases hd
  exact .tup ((hs.2 a hne).trans a1) c1 d1 (IsTs.keeps ho hd hs t1)
theorem IsTs.keeps {h h':Kl}{d:Jn}{o:KZ}{es:Kh Lx}{ep:Jg}(ho:h.get? d=gV o)(hd:o.data=.dict es ep)(hs:LS d h h'):∀ {x:Ja T} {v:Ja Jd},IsTs h x v->IsTs h' x v
 | _,_,.nil=>.nil
 | _,_,.cons a b=>.cons (IsT.keeps ho hd hs a) (IsTs.keeps ho hd hs b)
end
def IsTs.length {h:Kl}:∀ {x:Ja T} {v:Ja Jd},IsTs h x v->x.length=v.length
 | _,_,.nil=>rfl
 | _,_,.cons _ b=>by simp[IsTs.length b]
def IsTs.get {h:Kl}:∀ {x:Ja T} {v:Ja Jd},IsTs h x v->∀(j:Jg) (h1:j < x.length) (h2:j < v.length),IsT h x[j] v[j]
 | _,_,.cons a _,0,_,_=>a
 | _,_,.cons _ b,j+1,h1,h2=>IsTs.get b j (by simpa using h1) (by simpa using h2)
def d0:∀ {ks:Ja T} (j:Jg) (h:j < ks.length),(ks[j]).depth<=T.depths ks
 | k::ks,0,_=>by simp only[T.depths,List.getElem_cons_zero]; omega
 | k::ks,j+1,h=>by
  have:=d0 (ks:=ks) j (by simpa using h)
  simp only[T.depths,List.getElem_cons_succ]; omega
section
variable{prog:J0}{w:Kc}{E:Jd->Jh->Prop}
mutual
theorem oU:∀(k:T) (v:Jd) (A:J7) (s:Jh) (Q:Jk->Jh->Prop),IsT s.heap k v->A.units+k.depth < cLine->Q (oN w k) { s with toks:=s.toks+k.draws }->wpAny (model prog w) A (pyHash v) Q E s
 | .int i,_,A,s,Q,x,_,h=>by cases x; exact PP h
 | .str y,_,A,s,Q,x,_,h=>by cases x; exact PQ h
 | .tup ks,_,A,s,Q,x,hu,h=>by
  cases x with
  | @tup _ a o items n hg hc hd hw=>
   simp only[T.depth]at hu;refine PySem.W.pyHash_slot (T:="tuple") #[_,hg,hc] F.slot_tuple_hash F.entry_tuple_hash (F.args_tuple_hash_1 _) (beq_builtin_none _) (.inr ∅) ?_
   show wpAny _ _ (Mq (.ref a) >>= _) _ _ s;refine Jc (wpAny_tupleItemsOf hg hd ?_);refine Jc ?_;rw[<- O9];refine kq ks items.toList A.in1 s #[] _ hw (by rw[bh]; omega) λb hb=>?_
   show wpAny _ _ (retInt (Nq b.toList)) _ _ _;rw[hb];refine Jc (Qd (Js #[_,_,rfl,?_]))
   simpa [T.draws,QY,oN]using h
theorem kq:∀(ks:Ja T) (vs:Ja Jd) (A:J7) (s:Jh) (b:Kh Jk) (Q:Kh Jk->Jh->Prop),IsTs s.heap ks vs->A.units+T.depths ks < cLine->
  (∀b',b'.toList=b.toList++kh w ks->Q b' { s with toks:=s.toks+T.drawss ks })->
  wpAny (model prog w) A (forIn vs b λx r=>do let h <- pyHash x; pure Pa; pure (K8 (r.push h))) Q E s
 | [],_,A,s,b,Q,x,_,h=>by cases x; exact Js (h b (by simp[kh]))
 | k::ks,_,A,s,b,Q,x,hu,h=>by
  cases x with
  | cons x1 x2=>
   simp only[T.depths]at hu;rw[Of];refine Jc (Jc (oU k _ A s _ x1 ∅ ?_))
   refine Jc (Js (Js ?_));refine kq ks _ A _ _ Q x2 ∅ λb' hb=>?_
   have:=h b' (by simp[hb,kh])
   simpa [T.drawss,QY]using this
end
open SeqAt in
def uk:∀(d:Jg) (x y:T) (u v:Jd) (B:J7) (s:Jh),x.depth<=d->IsT s.heap x u->IsT s.heap y v->B.units+d < cLine->B.units+y.depth < cLine->EqAt B s u v (decide (x=y))
 | d,.int i,y,_,_,B,s,_,h1,h2,hu,hv=>by
  cases h1;cases h2 with
  | int=>
   rename_i j t2;have:decide (T.int i=T.int j)=(i==j):=by by_cases e:i=j <;> simp[e]
   rw[this]; exact .int_int _ _ _ _
  | str=>rw[JX (by simp)]; exact .int_str _ _ _ _
  | tup a c dd t=>rw[JX (by simp)]; exact .int_tuple _ _ #[_,a,c,_,dd] (by simp only[T.depth]at hv; omega)
 | d,.str z,y,_,_,B,s,_,h1,h2,hu,hv=>by
  cases h1;cases h2 with
  | int=>rw[JX (by simp)]; exact .str_int _ _ _ _
  | str=>
   rename_i z2 t2;have:decide (T.str z=T.str z2)=(z==z2):=by by_cases e:z=z2 <;> simp[e]
   rw[this]; exact .str_str _ _ _ _
  | tup a c dd t=>rw[JX (by simp)]; exact .str_tuple _ _ #[_,a,c,_,dd] (by simp only[T.depth]at hv; omega)
 | 0,.tup ks,y,_,_,B,s,hd,h1,h2,hu,hv=>by simp[T.depth]at hd
 | d+1,.tup ks,y,_,_,B,s,hd,h1,h2,hu,hv=>by
  have h1':=h1;cases h1 with
  | @tup _ a o items n a1 c1 d1 t1=>
   have hT:s.heap.IsTuple a items:=#[_,a1,c1,_,d1];simp only[T.depth]at hd;cases h2 with
   | int=>rw[JX (by simp)]; exact .tuple_int _ _ hT ∅
   | str=>rw[JX (by simp)]; exact .tuple_str _ _ hT ∅
   | @tup ks2 b o2 items2 n2 a2 c2 d2 t2=>
    have hT2:s.heap.IsTuple b items2:=#[_,a2,c2,_,d2]
    by_cases hab:a=b
    ·subst hab;have:T.tup ks=T.tup ks2:=h1'.inj (.tup a2 c2 d2 t2);rw[Kf this];exact EqAt.same _
    ·refine EqAt.of_refs hab ?_;simp only[T.depth]at hv;have l1:items.size=ks.length:=by rw[<- J6,t1.length]
     have l2:items2.size=ks2.length:=by rw[<- J6,t2.length]
     let e:Jg->JL:=λj=>if h:j < ks.length/\j < ks2.length then decide (ks[j]'h.1=ks2[j]'h.2)else true
     have he:∀j (h1:j < items.size) (h2:j < items2.size),EqAt B.in1 s items[j] items2[j] (e j):=λj j1 j2=>by
      have g1:=t1.get j (l1 ▸ j1) (by simpa using j1)
      have g2:=t2.get j (l2 ▸ j2) (by simpa using j2)
      have q1:=d0 (ks:=ks) j (l1 ▸ j1);have q2:=d0 (ks:=ks2) j (l2 ▸ j2);have:=uk d _ _ _ _ B.in1 s ∅ g1 g2 (by rw[bh]; omega) (by rw[bh]; omega)
      show EqAt B.in1 s items[j] items2[j] (if h:j < ks.length/\j < ks2.length then decide (ks[j]'h.1=ks2[j]'h.2)else true)
      rw[RT #[l1 ▸ j1,l2 ▸ j2]]
      simpa using this
     have:=RcAt.tuples hT hT2 ∅ he
     have hk:((Jw (min items.size items2.size)).all e&&items.size==items2.size)=decide (T.tup ks=T.tup ks2):=by
      rw[l1,l2]
      by_cases hl:ks.length=ks2.length
      ·by_cases hq:ks=ks2
       ·subst hq;simp only[LF,Kr,OT,decide_true,JB,Jt];intro j hj;show(if h:j < ks.length/\j < ks.length then decide (ks[j]'h.1=ks[j]'h.2)else true)=true
        rw[RT #[hj,hj]]; simp
       ·rw[JX (by simpa using hq)]
        have:∃j,∃h:j < ks.length,ks[j]≠ks2[j]'(hl ▸ h):=by
         apply Nr;intro hn;exact hq (Mv hl λj h1 h2=>Nr λz=>hn #[j,h1,z])
        obtain⟨j,hj,hne⟩:=this;rw[MW];apply Or.inl;rw[NA];refine#[j,by rw[Jt,<- hl,LF]; exact hj,?_]
        show ¬ (if h:j < ks.length/\j < ks2.length then decide (ks[j]'h.1=ks2[j]'h.2)else true)=true
        rw[RT #[hj,hl ▸ hj]]
        simpa using hne
      ·rw[JX (by simp; intro z; exact hl (by rw[z])),MW]
       right
       simpa using hl
     rw[hk]at this;exact this
def mv {n:Jg}{v:Jd}(h:∀a,v≠.ref a):eqIsQuiet n v=pure true:=by
 cases v with
 | ref a=>exact absurd rfl (h a)
 | _=>first|rfl|simp[eqIsQuiet]|(unfold eqIsQuiet; rfl)
def sh:∀(d:Jg) (k:T) (v:Jd) (A:J7) (s:Jh) (Q:JL->Jh->Prop),k.depth<=d->IsT s.heap k v->Q true s->wpAny (model prog w) A (eqIsQuiet d v) Q E s
 | d,.int i,_,A,s,Q,_,x,h=>by cases x; rw[mv (λa=>by simp)]; exact Js h
 | d,.str i,_,A,s,Q,_,x,h=>by cases x; rw[mv (λa=>by simp)]; exact Js h
 | 0,.tup ks,_,A,s,Q,hd,x,h=>by simp[T.depth]at hd
 | d+1,.tup ks,_,A,s,Q,hd,x,h=>by
  cases x with
  | @tup _ a o items n ho hc hdt hi=>
   simp only[T.depth]at hd;have hT:s.TypeIs (.ref a) "tuple":=#[_,ho,hc];unfold eqIsQuiet;refine Jc (wpAny_specialOf hT F.slot_tuple_eq.lookup ?_);show wpAny _ _ (isInstance (.ref a) (.type "tuple") >>= _) _ _ s;refine Jc (NS hT isSubtype_tuple_tuple ?_);simp only[OU,KF,LU];refine Jc (Ms ho hdt ?_);refine Jc ?_;show wpAny _ _ (forIn items _ _) _ _ s;rw[<- O9];refine NR _ (λcz r s'=>r.1=td/\s'=s/\∃kk,IsTs s.heap kk cz/\T.depths kk<=d) _ ?_ ?_ _ _ #[rfl,rfl,ks,hi,∅]
   ·rintro v cz r s' ⟨hr,rfl,kk,hall,hdk⟩;cases hall with
    | cons q1 q2=>
     simp only[T.depths]at hdk;refine Jc (sh d _ v _ _ _ ∅ q1 ?_)
     simp only[OU,KF,LU];exact Js #[rfl,rfl,_,q2,∅]
   ·rintro⟨r1,r2⟩ s' ⟨hr,rfl,_⟩;simp only at hr;subst hr;exact Js h
end
abbrev cZ (prog:J0)(w:Kc):HeapKind prog w T where
 is:=λh k a=>IsT h k (.ref a)/\k.depth<=bm
 hash:=oN w
 draws:=T.draws
 room:=λA=>A.units+bm < cLine
 inj:=λhx hy=>hx.1.inj hy.1
 keeps:=λx ho hd hs=>#[x.1.keeps ho hd hs,x.2]
 pyHash:=λhu hk h=>oU _ _ _ _ _ hk.1 (by have:=hk.2; omega) h
 eqBool:=λhu hx hy h=>uk bm _ _ _ _ _ _ hx.2 hx.1 hy.1 hu (by have:=hy.2; omega) _ _ _ _ h
 quiet:=λhk h=>sh 8 _ _ _ _ _ (by have:=hk.2; unfold bm at this; omega) hk.1 h
mutual
noncomputable def kw:T->JL
 | .int _=>true
 | .str _=>false
 | .tup xs=>eu xs
noncomputable def eu:Ja T->JL
 | []=>true
 | x::xs=>kw x&&eu xs
end
abbrev jO (S:aa)(i:Jg):Ji (Ja (T×W)):=match S[i]? with
 | some (.dic U)=>gV U
 | some (.frd U)=>gV U
 | _=>td
abbrev nB (S:aa)(i:Jg):Ji (Ja (T×W)):=match S[i]? with
 | some (.dic U)=>gV U
 | _=>td
abbrev aJ (U:Ja (T×W))(k:T):Ji W:=(U.find? λp=>decide (p.1=k)).map (·.2)
abbrev d3 (U:Ja (T×W))(k:T)(v:W):Ja (T×W):=
 if (U.any λp=>decide (p.1=k))=true then U.map (λp=>if p.1=k then(p.1,v)else p)else U++[(k,v)]
abbrev gK (w:W):Ji T:=match W.t w with
 | some k=>if k.isTup=true/\k.depth<=bm then gV k else td
 | none=>td
def dQ {w:W}{k:T}(h:gK w=gV k):k.w=w/\k.isTup=true/\k.depth<=bm:=by
 unfold gK at h;split at h
 ·rename_i k' hk;split at h
  ·rename_i hc;cases h;exact#[W.t_w hk,hc.1,hc.2]
  ·cases h
 ·cases h
def ey (U:Ja (T×W))(k:T)(v:W):(d3 U k v).length<=U.length+1:=by
 unfold d3;split
 ·rw[Jb]; omega
 ·rw[Je,J2,Lg]; omega
section
variable{X:Cx}{J:Ja (Jn×KZ)}{Y:L2.St}{H:Hp}{s:Jh}{A:Ja Jn}{S:aa}
mutual
theorem nC (I:Inv X J Y H s):∀(k:T) {v:V} {u:Jd},Rel X.K A H k.w v->RelV v u->IsT s.heap k u
 | .int i,_,_,r,q=>by
  cases r;obtain⟨t,rfl⟩ : ∃t,_=NN _ t:=q;exact .int
 | .str x,_,_,r,q=>by
  cases r;obtain⟨t,rfl⟩ : ∃t,_=NO _ t:=q;exact .str
 | .tup ks,_,_,r,q=>by
  simp only[T.w]at r;cases r with
  | tup sq rl=>
   obtain⟨its,rv,⟨o,h1,h2,n,h3⟩,hz⟩:=I.tuple sq;obtain rfl:_=Kj _:=q;exact .tup h1 h2 h3 (gA I ks rl (by simpa using rv))
theorem gA (I:Inv X J Y H s):∀(ks:Ja T) {vs:Ja V} {us:Ja Jd},RelL X.K A H (T.ws ks) vs->Vals vs us->IsTs s.heap ks us
 | [],_,_,r,q=>by
  simp only[T.ws]at r;cases r; cases q; exact .nil
 | k::ks,_,_,r,q=>by
  simp only[T.ws]at r;cases r with
  | cons r1 r2=>
   cases q with
   | cons q1 q2=>exact .cons (nC I k r1 q1) (gA I ks r2 q2)
end
def jf (I:Inv X J Y H s){k:T}{b:Jn}(r:Rel X.K A H k.w (.ref b))(hd:k.depth<=bm):(cZ X.prog X.w).is s.heap k b:=#[nC I k r rfl,hd]
def iC {w:W}{k:T}{v:V}{u:Jd}(hk:gK w=gV k)(r:Rel X.K A H w v)(q:RelV v u):∃b,v=.ref b/\u=.ref b/\Rel X.K A H k.w (.ref b):=by
 obtain⟨h1,h2,h3⟩:=dQ hk;subst h1;cases k with
 | tup ks=>
  simp only[T.w]at r;cases r with
  | tup a b=>exact#[_,rfl,q,by simp only[T.w]; exact .tup a b]
 | _=>cases h2
def KRel.is {U:Ja (T×W)}{xs:Ja (T×Jn×Jd)}(I:Inv X J Y H s)(r:KRel X.K A H U xs):∀x∈xs,(cZ X.prog X.w).is s.heap x.1 x.2.1:=by
 unfold KRel at r
 induction r with
 | nil=>intro x hx; exact nomatch hx
 | @cons p q ps qs h t ih=>
  intro x hx;rcases JR.mp hx with e|hx
  ·subst e;obtain⟨h1,h2,h3,h4,_⟩:=h;rw[h1]at h3 h4;exact jf I h4 h3
  ·exact ih x hx
def KRel.length {U:Ja (T×W)}{xs:Ja (T×Jn×Jd)}(r:KRel X.K A H U xs):U.length=xs.length:=NE r
def KRel.val {U:Ja (T×W)}{xs:Ja (T×Jn×Jd)}(r:KRel X.K A H U xs)(k:T) :
  (∀w,aJ U k=gV w->∃p v,atKey xs k=gV p/\Rel X.K A H w v/\RelV v p.2)/\(aJ U k=td->atKey xs k=td):=by
 unfold KRel at r
 induction r with
 | nil=>exact#[λw h=>(nomatch h),λ_=>rfl]
 | @cons p q ps qs h t ih=>
  obtain⟨h1,_,_,_,v,h5,h6⟩:=h
  by_cases e:p.1=k
  ·have e':q.1=k:=h1.symm.trans e;have a1:aJ (p::ps) k=gV p.2:=by simp[aJ,Lz,e]
   have a2:atKey (q::qs) k=gV q.2:=by simp[atKey,Lz,e']
   rw[a1,a2];exact#[λw hw=>(by cases hw; exact#[_,v,rfl,h5,h6]),λh=>nomatch h]
  ·have e':¬ q.1=k:=λz=>e (h1.trans z)
   have a1:aJ (p::ps) k=aJ ps k:=by simp[aJ,Lz,e]
   have a2:atKey (q::qs) k=atKey qs k:=by simp[atKey,Lz,e']
   rw[a1,a2];exact ih
def KRel.repl {U:Ja (T×W)}{xs:Ja (T×Jn×Jd)}(r:KRel X.K A H U xs)(k:T){w:W}{v:V}{u:Jd}(rw':Rel X.K A H w v)(rv:RelV v u) :
  KRel X.K A H (U.map λp=>if p.1=k then(p.1,w)else p) (xs.map (putAt k u)):=by
 unfold KRel at r ⊢
 induction r with
 | nil=>exact .nil
 | @cons p q ps qs h t ih=>
  rw[KD,KD];refine .cons ?_ ih;obtain⟨h1,h2,h3,h4,h5⟩:=h;unfold putAt
  by_cases e:p.1=k
  ·rw[JK e,JK (h1.symm.trans e)]; exact#[h1,h2,h3,h4,v,rw',rv]
  ·rw[JU e,JU (λz=>e (h1.trans z))]; exact#[h1,h2,h3,h4,h5]
def kz (k:T):∀U:Ja (T×W),(U.any λp=>decide (p.1=k))=(aJ U k).isSome
 | []=>rfl
 | p::r=>by
  rw[LZ]
  by_cases e:p.1=k
  ·have a1:aJ (p::r) k=gV p.2:=by simp[aJ,Lz,e]
   rw[a1,Kf e]; rfl
  ·have a1:aJ (p::r) k=aJ r k:=by simp[aJ,Lz,e]
   rw[a1,JX e,NG]; exact kz k r
def KRel.put {U:Ja (T×W)}{xs:Ja (T×Jn×Jd)}(r:KRel X.K A H U xs){k:T}{b:Jn}{w:W}{v:V}{u:Jd}(h1:k.isTup=true)(h2:k.depth<=bm)(h3:Rel X.K A H k.w (.ref b))(rw':Rel X.K A H w v)(rv:RelV v u) :
  KRel X.K A H (d3 U k w) (storedH xs k b u):=by
 have e:(U.any λp=>decide (p.1=k))=(atKey xs k).isSome:=by
  rw[kz];cases q:aJ U k with
  | none=>rw[(r.val k).2 q]; rfl
  | some x=>obtain⟨p,_,h,_⟩:=(r.val k).1 x q; rw[h]; rfl
 unfold d3 storedH;rw[e]
 by_cases q:(atKey xs k).isSome=true
 ·rw[JK q,JK q]; exact r.repl k rw' rv
 ·rw[JU q,JU q]; exact Paired.snoc r #[rfl,h1,h2,h3,v,rw',rv]
def DicAt.of {h:Kl}{a:Jn}{xs:Ja (T×Jn×Jd)}(hz:xs.length<=sizeLine)(hs:(a==sysModules)=false)(d:h.DictOfH (cZ X.prog X.w) a xs):DicAt X.w a xs h:=
 let ⟨o,es,ep,h1,h2,h3,h4,_,h6⟩:=d; #[hz,hs,h6,o,es,ep,h1,h2,h3,h4]
def DicAt.stay {wd:Kc}{h h':Kl}{a:Jn}{xs:Ja (T×Jn×Jd)}(d:DicAt wd a xs h)(k:∀o,h.get? a=gV o->h'.get? a=gV o):DicAt wd a xs h':=
 let ⟨h0,hs,hn,o,es,ep,h1,h2⟩:=d; #[h0,hs,hn,o,es,ep,k _ h1,h2]
def DicAt.ok {P:J0}{h:Kl}{wd:Kc}{a:Jn}{xs:Ja (T×Jn×Jd)}(d:DicAt wd a xs h):ObjOk P wd H h a (dY wd a xs):=
 #[d,let ⟨_,_,_,o,_,_,h1,_⟩:=d; #[o,h1],λ_ _ p k=>p.stay k]
def cF {a:Jn}{xs:Ja (T×Jn×Jd)}(I:Inv X J Y H s)(e:Rd H a (dY X.w a xs)):DicAt X.w a xs s.heap:=(show ObjOk X.prog X.w H s.heap a (dY X.w a xs)from e.ok I.hok).1
def DicAt.dict {U:Ja (T×W)}{a:Jn}{xs:Ja (T×Jn×Jd)}(d:DicAt X.w a xs s.heap)(I:Inv X J Y H s)(r:KRel X.K A H U xs):s.heap.DictOfH (cZ X.prog X.w) a xs:=
 let ⟨_,_,hn,o,es,ep,h1,h2,h3,h4⟩:=d; #[o,es,ep,h1,h2,h3,h4,r.is I,hn]
def fQ {i:Jg}{U:Ja (T×W)}{a:Jn}(so:StoreOk X.w X.K A H S)(e:jO S i=gV U)(ea:A[i]?=gV a):∃xs,Rd H a (dY X.w a xs)/\KRel X.K A H U xs:=by
 unfold jO at e;split at e
 ·rename_i k h;cases e;obtain⟨xs,q,r⟩:=so.obj i _ a h ea;exact#[xs,.inl q,r]
 ·rename_i k h;cases e;obtain⟨o,xs,q,r⟩:=so.obj i _ a h ea;exact#[xs,.inr #[o,q],r]
 ·cases e
def iD {i:Jg}{U:Ja (T×W)}(e:nB S i=gV U):S[i]?=gV (.dic U):=by
 unfold nB at e;split at e
 ·rename_i h; cases e; exact h
 ·cases e
def si {i:Jg}{U:Ja (T×W)}{a:Jn}(so:StoreOk X.w X.K A H S)(e:nB S i=gV U)(ea:A[i]?=gV a):∃xs,H a=gV (dY X.w a xs)/\KRel X.K A H U xs:=
 so.obj i _ a (iD e) ea
def oV {B:J7}(hu:B.units+10 < cLine):(cZ X.prog X.w).room B.in1:=by
 show B.in1.units+bm < cLine;rw[bh]; unfold bm; omega
abbrev jP (x y:W)(S:aa):Ji (W×aa):=match x,y with
 | .ref r,.tup ks=>match jO S r,gK (.tup ks)with
  | some U,gV k=>(aJ U k).map λw=>(w,S)
  | _,_=>td
 | x,y=>ue x y S
def HB (hu:X.A.units+10 < cLine):LIx X jP:=by
 intro value slice J s Y H A S x y a b u v w S' I so rx ru ry rv e hs
 by_cases hxy:∃r ks,x=.ref r/\y=.tup ks
 ·obtain⟨r,ks,rfl,rfl⟩:=hxy;simp only[jP]at e;split at e
  ·rename_i U k hk1 hk2;rw[Jf]at e;obtain⟨w',e1,e2⟩:=e;cases e2;cases rx with
   | ref ea=>
    obtain⟨xs,rd,kr⟩:=fQ so hk1 ea;have d:=cF I rd;have dd:=d.dict I kr;obtain⟨bk,rfl,rfl,rk⟩:=iC hk2 ry rv;obtain⟨p,vv,h1,h2,h3⟩:=(kr.val k).1 _ e1;obtain rfl:u=Kj _:=ru;refine MS (x:=p.2) dd.typeIs slot_dict_getitem.lookup
     (wpAny_getItem_heap (Q:=λr s'=>r=p.2/\dF X J Y A H S w r s') (oV hu) (jf I rk (dQ hk2).2.2) dd h1 #[rfl,vv,H,A,I.tok _,h3,.refl,so,h2]) hs
  ·cases e
 ·have:jP x y S=ue x y S:=by
   cases x <;> cases y <;> first|rfl|exact absurd #[_,_,rfl,rfl] hxy
  rw[this]at e;exact IH hu value slice J s Y H A S x y a b u v w S' I so rx ru ry rv e hs
abbrev iE (o i v:W)(S:aa):Ji aa:=match o,i with
 | .ref r,.tup ks=>match nB S r,gK (.tup ks)with
  | some U,gV k=>if U.length < sizeLine then gV (S.set r (.dic (d3 U k v)))else td
  | _,_=>td
 | o,i=>uf o i v S
def Fe (hu:X.A.units+10 < cLine):LSet X iE:=by
 intro J s Y H A S o i x ao ai ax uo ui ux S' I so ro ruo ri rui rx rux e
 by_cases hxy:∃r ks,o=.ref r/\i=.tup ks
 ·obtain⟨r,ks,rfl,rfl⟩:=hxy;simp only[iE]at e;split at e
  ·rename_i U k hk1 hk2;split at e
   ·rename_i hl;cases e;cases ro with
    | ref ea=>
     obtain⟨xs,hH,kr⟩:=si so hk1 ea;have d:=cF I (.inl hH);have dd:=d.dict I kr;obtain⟨bk,rfl,rfl,rk⟩:=iC hk2 ri rui;obtain⟨q1,q2,q3⟩:=dQ hk2;obtain rfl:uo=Kj _:=ruo;have hz:xs.length<=sizeLine:=by rw[<- kr.length]; omega
     refine wpAny_setItem_heap (hsz:=hz) (oV hu) (jf I rk q3) dd λh' dd' hs=>?_
     have kr':=kr.put q2 q3 rk rx rux;have hz':(storedH xs k bk ux).length<=sizeLine:=by
      rw[<- kr'.length];have:=ey U k x;omega
     have dn:DicAt X.w _ (storedH xs k bk ux) h':=.of hz' d.2.1 dd';obtain⟨so',ex⟩:=so.writeO (iD hk1) rfl ea (u:=dY X.w _ (storedH xs k bk ux)) (n:=.dic (d3 U k x)) #[_,be,kr'.mono (dm (.ext hH))];exact#[_,A,nq I (by rw[hH]; exact M0) hs (let ⟨q,_,_,hq,_⟩:=dd'; #[q,hq]) dn.ok,ex,so']
   ·cases e
  ·cases e
 ·have:iE o i x S=uf o i x S:=by
   cases o <;> cases i <;> first|rfl|exact absurd #[_,_,rfl,rfl] hxy
  rw[this]at e;exact lset hu J s Y H A S o i x ao ai ax uo ui ux S' I so ro ruo ri rui rx rux e
abbrev sj (x:W)(xs:Ja W)(S:aa):Ji (W×aa):=match x,xs with
 | .ref r,[y,z]=>match jO S r,gK y with
  | some U,gV k=>gV ((aJ U k).getD z,S)
  | _,_=>td
 | _,_=>td
def qF (hu:X.A.units+10 < cLine):mo X "dict.get" sj:=by
 intro J s Y H A S x a u xs vs us w S' I so rx ru rl rv e;cases rx with
 | ref ea=>
  cases rl with
  | nil=>cases e
  | cons r1 t1=>
   cases t1 with
   | nil=>cases e
   | cons r2 t2=>
    cases t2 with
    | cons _ _=>cases e
    | nil=>
     dsimp only[sj]at e;split at e
     ·rename_i U k hk1 hk2;cases e;obtain⟨xs,rd,kr⟩:=fQ so hk1 ea;have d:=cF I rd;have dd:=d.dict I kr;cases rv with
      | cons v1 rv2=>
       cases rv2 with
       | cons v2 rv3=>
        cases rv3;obtain⟨bk,rfl,rfl,rk⟩:=iC hk2 r1 v1;obtain rfl:u=Kj _:=ru;refine call_meetsIn Oo dd.typeIs PySem.F.entry_dict_get (PySem.F.args_dict_get_3 _ _ _) (meetsH_dict_get_default (cZ X.prog X.w) _ bk d.2.1 _) #[oV hu,k,xs,jf I rk (dQ hk2).2.2,dd,?_];cases q:aJ U k with
        | none=>
         rw[(kr.val k).2 q];exact#[_,H,A,I.tok _,v2,.refl,so,r2]
        | some w'=>
         obtain⟨p,vv,h1,h2,h3⟩:=(kr.val k).1 _ q;rw[h1];exact#[vv,H,A,I.tok _,h3,.refl,so,h2]
     ·cases e
 | _=>cases e
abbrev GX (x:W)(i:Jg)(S:aa):Ji JL:=match W.t x,iq S i with
 | some k,gV ys=>match W.ts ys with
  | some ks=>if k.depth<=bm/\T.depths ks<=bm then gV (decide (k∈ks))else td
  | none=>td
 | _,_=>td
abbrev Dc (x:W)(ys:Ja W):Ji JL:=match W.t x,W.ts ys with
 | some k,gV ks=>if k.depth<=bm/\T.depths ks<=bm then gV (decide (k∈ks))else td
 | _,_=>td
def nD {h:Kl}:∀ {ks:Ja T} {vs:Ja Jd},IsTs h ks vs->∀v∈vs,∃k∈ks,IsT h k v
 | _,_,.cons a b,v,hv=>by
  rcases JR.mp hv with rfl|hv
  ·exact#[_,.head _,a]
  ·obtain⟨k,hk,q⟩:=nD b v hv;exact#[k,.tail _ hk,q]
abbrev zu (h:Kl)(k:T)(v:Jd):JL:=@decide (IsT h k v) (Re _)
def qG {h:Kl}{k k':T}{v:Jd}(x:IsT h k' v):zu h k v=decide (k'=k):=by
 unfold zu
 by_cases e:k'=k
 ·subst e; simp[x]
 ·have:¬ IsT h k v:=λy=>e (x.inj y)
  simp[e,this]
def nE {h:Kl}{k:T}:∀ {ks:Ja T} {vs:Ja Jd},IsTs h ks vs->vs.any (zu h k)=decide (k∈ks)
 | _,_,.nil=>by simp
 | _,_,.cons (k:=k') a b=>by
  rw[LZ,qG a,nE b]
  by_cases e:k'=k
  ·simp[e]
  ·have:¬ k=k':=λz=>e z.symm
   simp[e,this]
def kA:∀ {ks:Ja T} {k:T},k∈ks->k.depth<=T.depths ks
 | x::ks,k,h=>by
  simp only[T.depths];rcases JR.mp h with rfl|h
  ·omega
  ·have:=kA h; omega
def wm {x:W}{i:Jg}{a b:V}{u v:Jd}{c:JL}(hu:X.A.units+10 < cLine)(I:Inv X J Y H s)(so:StoreOk X.w X.K A H S)(rx:Rel X.K A H x a)(ru:RelV a u)(ry:Rel X.K A H (.ref i) b)(rv:RelV b v)(e:GX x i S=gV c) :
  ∃l its k ks,v=.ref l/\s.heap.IsList l its/\(∀y,y∈its->MY X.A.in1 s y u (zu s.heap k y))/\its.any (zu s.heap k)=c/\c=decide (k∈(ks:Ja T)):=by
 unfold GX at e;split at e
 ·rename_i k ys h1 h2;split at e
  ·rename_i ks h3;split at e
   ·rename_i h4;cases e;cases ry with
    | ref ea=>
     obtain⟨vs,g1,g2⟩:=cY so h2 ea;obtain⟨its,rv',p,_⟩:=I.list g1;obtain rfl:v=Kj _:=rv;have hT:IsTs s.heap ks its:=gA I ks ((W.ts_w h3).symm ▸ g2) rv';have hk:IsT s.heap k u:=nC I k ((W.t_w h1).symm ▸ rx) ru;refine#[_,its.toArray,k,ks,rfl,p.isList,λy hy=>?_,by rw[P2]; exact nE hT,rfl]
     obtain⟨k',hk',q⟩:=nD hT y (by simpa using hy)
     rw[qG q];have:=kA hk';have kl:bm=6:=rfl;exact uk bm k' k _ _ _ _ ∅ q hk (by rw[bh]; omega) (by rw[bh]; omega)
   ·cases e
  ·cases e
 ·cases e
def Aj {x:W}{ys:Ja W}{a b:V}{u v:Jd}{c:JL}(hu:X.A.units+10 < cLine)(I:Inv X J Y H s)(rx:Rel X.K A H x a)(ru:RelV a u)(ry:Rel X.K A H (.tup ys) b)(rv:RelV b v)(e:Dc x ys=gV c) :
  ∃l its k,v=.ref l/\s.heap.IsTuple l its/\(∀y,y∈its->MY X.A.in1 s y u (zu s.heap k y))/\its.any (zu s.heap k)=c:=by
 unfold Dc at e;split at e
 ·rename_i k ks h1 h3;split at e
  ·rename_i h4;cases e;cases ry with
   | @tup _ l vs g1 g2=>
    obtain⟨its,rv',p,_⟩:=I.tuple g1;obtain rfl:v=Kj _:=rv;have hT:IsTs s.heap ks its:=gA I ks ((W.ts_w h3).symm ▸ g2) rv';have hk:IsT s.heap k u:=nC I k ((W.t_w h1).symm ▸ rx) ru;refine#[_,its.toArray,k,rfl,p,λy hy=>?_,by rw[P2]; exact nE hT]
    obtain⟨k',hk',q⟩:=nD hT y (by simpa using hy)
    rw[qG q];have:=kA hk';have kl:bm=6:=rfl;exact uk bm k' k _ _ _ _ ∅ q hk (by rw[bh]; omega) (by rw[bh]; omega)
  ·cases e
 ·cases e
abbrev aP (o:COp)(x y:W)(S:aa):Ji (W×aa):=match o,y with
 | .isin,.ref i=>match jO S i with
  | some U=>(gK x).map λk=>(.bl (aJ U k).isSome,S)
  | none=>match x with
   | .tup xs=>(GX (.tup xs) i S).map λb=>(.bl (b),S)
   | x=>dC .isin x (.ref i) S
 | .notin,.ref i=>match jO S i with
  | some U=>(gK x).map λk=>(.bl (!(aJ U k).isSome),S)
  | none=>match x with
   | .tup xs=>(GX (.tup xs) i S).map λb=>(.bl (!b),S)
   | x=>dC .notin x (.ref i) S
 | .isin,.tup ys=>match x with
  | .tup xs=>(Dc (.tup xs) ys).map λb=>(.bl b,S)
  | x=>dC .isin x (.tup ys) S
 | o,y=>dC o x y S
def oW (hu:X.A.units+fP < cLine)(o:COp):LOp X (compareOp o.py) (aP o):=by
 intro J s Y H A S x y a b u v w S' I so rx ru ry rv e;have get:∀ {i:Jg} {U:Ja (T×W)} {k:T},y=.ref i->jO S i=gV U->gK x=gV k->∃d c xs,v=.ref d/\u=.ref c/\(d==sysModules)=false/\(cZ X.prog X.w).is s.heap k c/\s.heap.DictOfH (cZ X.prog X.w) d xs/\(aJ U k).isSome=(atKey xs k).isSome:=by
  intro i U k hy hk1 hk2;subst hy;cases ry with
  | ref ea=>
   obtain⟨xs,rd,kr⟩:=fQ so hk1 ea;have d:=cF I rd;obtain⟨bk,rfl,rfl,rk⟩:=iC hk2 rx ru;obtain rfl:v=Kj _:=rv;refine#[_,bk,xs,rfl,rfl,d.2.1,jf I rk (dQ hk2).2.2,d.dict I kr,?_];cases q:aJ U k with
   | none=>rw[(kr.val k).2 q]; rfl
   | some w'=>obtain⟨p,_,h1,_⟩:=(kr.val k).1 _ q; rw[h1]; rfl
 have old:dC o x y S=gV (w,S')->wpAny (model X.prog X.w) X.A (compareOp o.py u v) (dF X J Y A H S' w) X.xe s:=λh=>iy hu o J s Y H A S x y a b u v w S' I so rx ru ry rv h
 have hu':X.A.units+10 < cLine:=by have:fP=20:=rfl; omega
 unfold aP at e;split at e
 ·split at e
  ·rename_i U hk1;rw[Jf]at e;obtain⟨k,hk2,e2⟩:=e;cases e2;obtain⟨d,c,xs,rfl,rfl,q1,q2,q3,q4⟩:=get rfl hk1 hk2;rw[q4];exact wpAny_in_heap (oV hu') q2 q1 q3 #[.bl _,H,A,I.tok _,rfl,.refl,so,.bl]
  ·split at e
   ·rw[Jf]at e;obtain⟨c,hc,e⟩:=e;cases e;obtain⟨l,its,k,ks,rfl,p1,p2,p3,_⟩:=wm hu' I so rx ru ry rv hc;refine Qh (zu s.heap k) p1 p2 ?_;rw[p3];exact#[.bl _,H,A,I,rfl,.refl,so,.bl]
   ·exact old e
 ·split at e
  ·rename_i U hk1;rw[Jf]at e;obtain⟨k,hk2,e2⟩:=e;cases e2;obtain⟨d,c,xs,rfl,rfl,q1,q2,q3,q4⟩:=get rfl hk1 hk2;rw[q4];exact wpAny_notIn_heap (oV hu') q2 q1 q3 #[.bl _,H,A,I.tok _,rfl,.refl,so,.bl]
  ·split at e
   ·rw[Jf]at e;obtain⟨c,hc,e⟩:=e;cases e;obtain⟨l,its,k,ks,rfl,p1,p2,p3,_⟩:=wm hu' I so rx ru ry rv hc;refine O6 (zu s.heap k) p1 p2 ?_;rw[p3];exact#[.bl _,H,A,I,rfl,.refl,so,.bl]
   ·exact old e
 ·split at e
  ·rw[Jf]at e;obtain⟨c,hc,e⟩:=e;cases e;obtain⟨l,its,k,rfl,p1,p2,p3⟩:=Aj hu' I rx ru ry rv hc;refine PZ (zu s.heap k) p1 p2 ?_;rw[p3];exact#[.bl _,H,A,I,rfl,.refl,so,.bl]
  ·exact old e
 ·exact old e
end
abbrev RawD (d:Jn)(es:Kh Lx)(ep:Jg)(h:Kl):Prop:=∃o,h.get? d=gV o/\o.ExactDict/\o.data=.dict es ep
def RawD.at {d:Jn}{es:Kh Lx}{ep:Jg}{h h':Kl}(x:RawD d es ep h)(e:∀o,h.get? d=gV o->h'.get? d=gV o):RawD d es ep h':=let ⟨o,ho,r⟩:=x; #[o,e _ ho,r]
def RawD.lt {d:Jn}{es:Kh Lx}{ep:Jg}{h:Kl}(x:RawD d es ep h):d < h.objs.size:=let ⟨_,ho,_⟩:=x; JJ ho
def RawD.type {d:Jn}{es:Kh Lx}{ep:Jg}{s:Jh}(x:RawD d es ep s.heap):s.TypeIs (.ref d) "dict":=let ⟨o,ho,hc,_⟩:=x; #[o,ho,hc.1]
section
variable{prog:J0}{w:Kc}{A:J7}{E:Jd->Jh->Prop}{s:Jh}{it d:Jn}{i ep:Jg}{es:Kh Lx}
def oX {Q:Jd->Jh->Prop}(hd:(d==sysModules)=false)(hm:RawD d es ep s.heap)
  (hQ:Q (.ref s.heap.objs.size) { s with heap:=s.heap.push { cls:=.type "dict_keyiterator",data:=.fields [.ref d,.int 0 0,.int es.size 0,.int ep 0].toArray } }):wpAny (model prog w) A (pyIter (.ref d)) Q E s:=by
 have hT:=hm.type;obtain⟨o,ho,hc,hdat⟩:=id hm;refine wpAny_pyIter_slot hT F.slot_dict_iter (KI F.slot_dict_iter hT F.entry_dict_iter ?_ (F.args_dict_iter_1 _));unfold N3.«dict.__iter__» QN;refine Jc (Jc (wpAny_notOrdered_dict hT ?_));show wpAny _ _ (pure (Kj d)) _ _ s;refine Js ?_;show wpAny _ _ (Op d >>= _) _ _ s;unfold Op;rw[JU (by rw[hd]; exact JF)]
 refine Jc (Js (Jc (MT ho hdat (Jc (Og ho hdat ?_)))));refine Jc (Km (Js #[_,rfl,"dict_keyiterator",_,#[_,JH _ rfl,rfl],F.slot_dict_keyiterator_next.lookup,?_]))
 simpa [rawInt]using hQ
def oY {Q:Ji Jd->Jh->Prop}(hit:s.heap.IsKeyIter it d i es.size ep)(hm:RawD d es ep s.heap)(hi:i < es.size)
  (hQ:∀h',h'.IsKeyIter it d (i+1) es.size ep->LS it s.heap h'->Q (gV es[i].key) { s with heap:=h' }):wpAny (model prog w) A (pyNext (.ref it)) Q E s:=by
 obtain⟨o,ho,hc,hd⟩:=id hit;obtain⟨od,hod,hcd,hdd⟩:=id hm;unfold pyNext;refine Jc (NH (Kx (name:=LD "__next__") hit.typeIs F.slot_dict_keyiterator_next
  (KI F.slot_dict_keyiterator_next hit.typeIs F.entry_dict_keyiterator_next ?_ (F.args_dict_keyiterator_next_1 _))))
 refine Jc (Js (Jc (Jc ?_)))
 first|refine Jc (Lu hit.typeIs (Js ?_))|refine Jc (L3 hit.typeIs (Js ?_))
 refine Jc (QD ho hd ?_);have hown:M4 "dict_keyiterator" = false:=by decide
 simp only[hown,KF,LU];show wpAny _ _ (if (Kj d==Kt)=true then _ else _) _ _ s
 rw[JU (show ¬ ((Kj d==Kt)=true)from JF)]
 refine Jc (Js (Jc (MT hod hdd ?_)));rw[JU (by simp)]
 refine Jc (Js (Jc (Og hod hdd ?_)));rw[JU (by simp)]
 refine Js ?_;simp only[show ¬ ((i:Jk) < 0)from by omega,LU,JC,My hi]
 refine Jc ?_
 first|refine Jc (Lu hit.typeIs (Js ?_))|refine Jc (L3 hit.typeIs (Js ?_))
 refine Jc (Oq hit.typeIs ?_);show wpAny _ _ (setField (.ref it) 1 (rawInt ((i:Jk)+1)) >>= _) _ _ s;refine Jc (Nk ho hd (by simp) ?_)
 have hit':(s.heap.update it (QZ (·.setIfInBounds 1 (rawInt ((i:Jk)+1))))).IsKeyIter it d (i+1) es.size ep:=
  #[_,LM _ ho (Os (MK hd _)),(PB ..).trans hc,by rw[MK hd]; simp[rawInt]]
 refine Jc (KP ?_);refine Jc (Oq (s:={ s with heap:=s.heap.update it (QZ (·.setIfInBounds 1 (rawInt ((i:Jk)+1)))) }) hit'.typeIs ?_)
 show wpAny _ _ (pure es[i].key) _ _ _;exact Js (Js #[_,rfl,Js (hQ _ hit' (MA ..))])
def sn {Q:Ji Jd->Jh->Prop}(hh:A.handled=td)(hit:s.heap.IsKeyIter it d i es.size ep)(hm:RawD d es ep s.heap)(hge:es.size<=i)
  (hQ:∀h',Ov it s.heap h'->Q td { s with heap:=h' }):wpAny (model prog w) A (pyNext (.ref it)) Q E s:=by
 obtain⟨o,ho,hc,hd⟩:=id hit;obtain⟨od,hod,hcd,hdd⟩:=id hm;unfold pyNext;refine Jc (NH (Kx (name:=LD "__next__") hit.typeIs F.slot_dict_keyiterator_next
  (KI F.slot_dict_keyiterator_next hit.typeIs F.entry_dict_keyiterator_next ?_ (F.args_dict_keyiterator_next_1 _))))
 refine Jc (Js (Jc (Jc ?_)))
 first|refine Jc (Lu hit.typeIs (Js ?_))|refine Jc (L3 hit.typeIs (Js ?_))
 refine Jc (QD ho hd ?_);have hown:M4 "dict_keyiterator" = false:=by decide
 simp only[hown,KF,LU];show wpAny _ _ (if (Kj d==Kt)=true then _ else _) _ _ s
 rw[JU (show ¬ ((Kj d==Kt)=true)from JF)]
 refine Jc (Js (Jc (MT hod hdd ?_)));rw[JU (by simp)]
 refine Jc (Js (Jc (Og hod hdd ?_)));rw[JU (by simp)]
 refine Js ?_;simp only[show ¬ ((i:Jk) < 0)from by omega,LU,JC,Array.getElem?_eq_none hge]
 refine Jc ?_
 first|refine Jc (Lu hit.typeIs (Js ?_))|refine Jc (L3 hit.typeIs (Js ?_))
 show wpAny _ _ (setField (.ref it) 0 .none >>= _) _ _ s;refine Jc (Nk ho hd (by simp) ?_)
 show wpAny _ _ (newExc (.type "StopIteration") [] >>= _) _ _ _;refine Jc ?_;simp only[newExc,newTuple];refine Jc (Km ?_ (by size_fits))
 refine Jc (m:=firstArgMember _ _) (Ow (a:=Kt) (by first|rfl|(simp only[firstArgMember]; rfl)) ?_)
 refine Km ?_ (by size_fits)
 simp only[raiseNew];refine Jc (Q1 ?_);rw[show A.in1.handled=td from hh]
 refine Jc (Js (Ry ?_));refine Jc (NS (T:="StopIteration") (b:=true) #[_,JH _ rfl,rfl] QE ?_);exact Js (hQ _ (((MA ..).extBut.push _).push _))
def uq (hh:A.handled=td)(I d:Jn)(hne:d≠I)(es:Kh Lx)(ep:Jg) :
  Walks prog w A I [I,d] [I] es.size (λi v=>∃e,es[i]?=gV e/\e.key=v) (λi h=>h.IsKeyIter I d i es.size ep/\RawD d es ep h) where
 sub:=λb hb=>by simp at hb; simp[hb]
 frame:=λ_ _ _ st hk=>#[st.1.at λo e=>hk I (by simp) o e,st.2.at λo e=>hk d (by simp) o e]
 item:=λi s Q E hi st hQ=>
  oY st.1 st.2 hi λh' hit' hs'=>hQ _ h' s.toks #[es[i],by simp[hi],rfl] #[hit',st.2.at λo e=>(hs'.2 d hne).trans e] λb o hb e=>hs'.extBut b o (λh=>hb (by simp[h])) e
 done:=λs Q E st hQ=>sn hh st.1 st.2 (Jo _) λh' he'=>hQ h' s.toks λb o hb e=>he' b o (λh=>hb (by simp[h])) e
 self:=λ_ _ _ _ st hQ=>Ox st.1 hQ
def sr (lo:(d==sysModules)=false):Oy prog w "dict" d d es.size (λi v=>∃e,es[i]?=gV e/\e.key=v) (RawD d es ep) where
 type:=λ_ hm=>hm.type
 there:=λ_ hm=>#[hm.lt,hm.lt]
 keep:=λ_ _ hm hk=>hm.at λo e=>hk d (.inl rfl) o e
 notList:=by decide
 notTuple:=by decide
 hint:=λ_ _ _ _ hm hq=>PySem.W.kdl_hint_dict hm.type hq
 iter:=λ_ _ hh hm=>#[_,_,(λ_ _ hq=>oX lo hm hq),uq hh _ d (J1 hm.lt) es ep,#[#[_,JH _ rfl,rfl,rfl],hm.at λo e=>Jm _ e]]
def wn {T:KL}{r d S:Jn}{n:Jg}{P:Jg->Jd->Prop}{OK:Kl->Prop}{R:PU->Jh->Prop}(K:Oy prog w T r d n P OK)(hh:A.handled=td)(hok:OK s.heap)(hn:n<=sizeLine)(hSr:S≠r)(hSd:S≠d)
  (hS:s.heap.get? S=gV { cls:=.type "list",data:=.seq #[] 0 })
  (hR:∀h' tk acc' c',(∀b o,b≠S->s.heap.get? b=gV o->h'.get? b=gV o)->h'.get? S=gV { cls:=.type "list",dict:=td,data:=.seq acc' c',slots:=#[] }->N5 P acc' n->R (.ok (.ret (.ref S))) { s with heap:=h',toks:=tk }) :
  codeAny (model prog w) A (.builtin "list.__iadd__" #[[.ref S,.ref r],[]]) R s:=by
 refine K9 F.entry_list_iadd ?_;rw[KO F.plain_list_iadd _];show wpAny _ A.in1 (LG (.ref S) (.ref r) (.ref S)) _ _ _;exact PySem.W.kdl_extend K hh hok S hSr hSd _ 0 hS hR hn
def oZ {T:KL}{r d:Jn}{n:Jg}{P:Jg->Jd->Prop}{OK:Kl->Prop}{Q:Ja Jd->Jh->Prop}(K:Oy prog w T r d n P OK)(hh:A.handled=td)(hok:OK s.heap)(hn:n<=sizeLine)
  (hQ:∀h' tk acc,(∀b o,s.heap.get? b=gV o->h'.get? b=gV o)->s.heap.objs.size<=h'.objs.size->N5 P acc n->Q acc.toList { s with heap:=h',toks:=tk }):wpAny (model prog w) A (collect (.ref r)) Q E s:=by
 unfold collect;refine Jc (Oz (K9 F.entry_proto_collect ?_));rw[KO F.plain_proto_collect _];show wpAny _ A.in1 (newList [] >>= λl=>again (.builtin "list.__iadd__" #[[l,.ref r],[]])) _ _ s
 refine Jc (Km ?_);have hlt:=K.there _ hok;refine Js #[Mg F.plain_list_iadd _,wn (s:={ s with heap:=s.heap.push { cls:=.type "list",data:=.seq ([]:Ja Jd).toArray } }) K hh (K.keep _ _ hok λb _ o e=>Jm _ e) hn (Ma hlt.1) (Ma hlt.2) (JH _ rfl) λh' tk acc' c' hk hS' hacc=>?_]
 show wpAny (model prog w) A (do
   let o <- load s.heap.objs.size
   match o.data with
   | .seq xs _=>pure xs.toList
   | _=>unsupported "internal:collect") Q E { s with heap:=h',toks:=tk }
 refine Jc (O2 hS' ?_);exact Js (hQ h' tk acc' (λb o e=>hk b o (J1 (JJ e)) (Jm _ e)) (MQ (JJ hS')) hacc)
end
mutual
noncomputable def gL:T->T->Ji JL
 | .int a,.int b=>gV (decide (a < b))
 | .str a,.str b=>gV (decide (a.cps.toList < b.cps.toList))
 | .tup xs,.tup ys=>db xs ys
 | _,_=>td
noncomputable def db:Ja T->Ja T->Ji JL
 | [],[]=>gV false
 | [],_::_=>gV true
 | _::_,[]=>gV false
 | x::xs,y::ys=>if x=y then db xs ys else gL x y
end
mutual
theorem IsT.kept {h h':Kl}(hk:∀b o,o.cls=.type "tuple"->h.get? b=gV o->h'.get? b=gV o):∀ {x:T} {v:Jd},IsT h x v->IsT h' x v
 | _,_,.int=>.int
 | _,_,.str=>.str
 | _,_,.tup a1 c1 d1 t1=>.tup (hk _ _ c1 a1) c1 d1 (IsTs.kept hk t1)
theorem IsTs.kept {h h':Kl}(hk:∀b o,o.cls=.type "tuple"->h.get? b=gV o->h'.get? b=gV o):∀ {x:Ja T} {v:Ja Jd},IsTs h x v->IsTs h' x v
 | _,_,.nil=>.nil
 | _,_,.cons a b=>.cons (IsT.kept hk a) (IsTs.kept hk b)
end
def Ff {B:J7}{s:Jh}{d:Jg}(hu:B.units+d < cLine)(hl:∀(x y:T) (u v:Jd) (k:JL),x.depth<=d->y.depth<=d->IsT s.heap x u->IsT s.heap y v->gL x y=gV k->LtAt B s u v k) :
  ∀(xs ys:Ja T) (us vs:Ja Jd) (k:JL),T.depths xs<=d->T.depths ys<=d->IsTs s.heap xs us->IsTs s.heap ys vs->db xs ys=gV k->LexR B s us vs k
 | [],[],_,_,k,_,_,h1,h2,e=>by cases h1; cases h2; cases e; exact .nn
 | [],y::ys,_,_,k,_,_,h1,h2,e=>by cases h1; cases h2; cases e; exact .nc
 | x::xs,[],_,_,k,_,_,h1,h2,e=>by cases h1; cases h2; cases e; exact .cn
 | x::xs,y::ys,_,_,k,d1,d2,h1,h2,e=>by
  simp only[T.depths]at d1 d2;cases h1 with
  | cons p1 q1=>
   cases h2 with
   | cons p2 q2=>
    have he:=uk d x y _ _ B s ∅ p1 p2 hu ∅
    simp only[db]at e
    by_cases hxy:x=y
    ·rw[JK hxy]at e;rw[Kf hxy]at he;exact .eq he (Ff hu hl xs ys _ _ k ∅ ∅ q1 q2 e)
    ·rw[JU hxy]at e;rw[JX hxy]at he;exact .ne he (hl x y _ _ k ∅ ∅ p1 p2 e)
def Fg:∀(d:Jg) (x y:T) (u v:Jd) (B:J7) (s:Jh) (k:JL),x.depth<=d->y.depth<=d->IsT s.heap x u->IsT s.heap y v->B.units+d < cLine->gL x y=gV k->LtAt B s u v k:=by
 intro d
 induction d with
 | zero=>
  intro x y u v B s k d1 d2 h1 h2 hu e;cases h1 with
  | int=>cases h2 with
   | int=>cases e; exact λprog w E Q h=>(ON h:wpAny (model prog w) B (compareOp .Lt _ _) Q E s)
   | _=>cases e
  | str=>cases h2 with
   | str=>cases e; exact λprog w E Q h=>(lt_str h:wpAny (model prog w) B (compareOp .Lt _ _) Q E s)
   | _=>cases e
  | tup _ _ _ _=>simp[T.depth]at d1
 | succ d ih=>
  intro x y u v B s k d1 d2 h1 h2 hu e;cases h1 with
  | int=>cases h2 with
   | int=>cases e; exact λprog w E Q h=>(ON h:wpAny (model prog w) B (compareOp .Lt _ _) Q E s)
   | _=>cases e
  | str=>cases h2 with
   | str=>cases e; exact λprog w E Q h=>(lt_str h:wpAny (model prog w) B (compareOp .Lt _ _) Q E s)
   | _=>cases e
  | tup a1 c1 e1 t1=>cases h2 with
   | tup a2 c2 e2 t2=>
    simp only[T.depth]at d1 d2;have hu1:B.in1.units+d < cLine:=by rw[bh]; omega
    exact LtAt.tuples #[_,a1,c1,_,e1] #[_,a2,c2,_,e2] ∅ (Ff hu1 (λx y u v k q1 q2 q3 q4 q5=>ih x y u v B.in1 s k q1 q2 q3 q4 hu1 q5) _ _ _ _ k ∅ ∅ t1 t2 e)
   | _=>cases e
section
variable{prog:J0}{w:Kc}{A:J7}{R:PU->Jh->Prop}{I S:Jn}{fp wr:Ja Jn}{n:Jg}{P:Jg->Jd->Prop}{St:Jg->Kl->Prop}{Ok:Kl->Prop}{bt:Jg->Jg->JL}
abbrev wo (prog:J0)(w:Kc)(A:J7)(P:Jg->Jd->Prop)(Ok:Kl->Prop)(bt:Jg->Jg->JL):Prop:=
 ∀i j vi vj (s:Jh) (Q:Jd->Jh->Prop) (E:Jd->Jh->Prop),Ok s.heap->P i vi->P j vj->Q (.bool (bt i j)) s->wpAny (model prog w) A (richCompare .Lt vi vj) Q E s
def wp (W:Walks prog w A.in1 I fp wr n P St)(hcmp:wo prog w A.in1 P Ok bt)(hSf:S∉fp)(hok:∀h h',Ok h->(∀b o,b∉wr->b≠S->h.get? b=gV o->h'.get? b=gV o)->Ok h') :
  ∀(k j:Jg) (s:Jh) (vb:Jd) (c:Jg),n - (j+1)=k->j < n->St (j+1) s.heap->P (argBest bt j) vb->Ok s.heap->s.heap.get? S=gV { cls:=.type "list",dict:=td,data:=.seq [vb,vb].toArray c,slots:=#[] }->
  (∀v h' tk,P (argBest bt (n - 1)) v->(∀b o,b∉wr->b≠S->s.heap.get? b=gV o->h'.get? b=gV o)->R (.ok (.ret v)) { s with heap:=h',toks:=tk })->
  codeAny (model prog w) A (.builtin "min.loop" #[[.ref I,.none,.ref S],[]]) R s:=by
 have hSw:S∉wr:=λh=>hSf (W.sub _ h)
 have hname:(toString "min" ++ toString ".loop" : KL) = "min.loop":=by decide
 intro k
 induction k with
 | zero=>
  intro j s vb c hk hj hst hPb hO hS hR;have hin:j+1=n:=∅
  refine K9 F.entry_min_loop ?_;rw[KO F.plain_min_loop _];show wpAny _ A.in1 (seqItems? (.ref S) >>= _) _ _ s;refine Jc (Ms hS rfl ?_);show wpAny _ A.in1 (tryCatch (pyNext (.ref I)) _ >>= _) _ _ s;refine Jc (Nl (W.done s _ _ (hin ▸ hst) λh' tk hk'=>?_))
  have hS':=hk' S _ hSw hS;show wpAny _ A.in1 (updateSeq S (λ_=>#[]) >>= _) _ _ _
  refine Jc (Oh hS' rfl (Jc (M3 (Js ?_))));have e:j=n - 1:=∅
  exact hR vb _ tk (e ▸ hPb) λb o hbw hbS e=>(Kw _ _ (Ne.symm hbS)).trans (hk' b o hbw e)
 | succ k ih=>
  intro j s vb c hk hj hst hPb hO hS hR;have hlt:j+1 < n:=∅
  refine K9 F.entry_min_loop ?_;rw[KO F.plain_min_loop _];show wpAny _ A.in1 (seqItems? (.ref S) >>= _) _ _ s;refine Jc (Ms hS rfl ?_);show wpAny _ A.in1 (tryCatch (pyNext (.ref I)) _ >>= _) _ _ s;refine Jc (Nl (W.item (j+1) s _ _ hlt hst λv h' tk hP hst' hk'=>?_))
  have hS':=hk' S _ hSw hS;have hO':Ok h':=hok _ _ hO λb o hb _ e=>hk' b o hb e
  show wpAny _ A.in1 (tryCatch (holding [v,v] (richCompare .Lt v vb >>= _)) _ >>= _) _ _ _;refine Jc (Nl (KP (Jc (hcmp (j+1) (argBest bt j) v vb _ _ _ hO' hP hPb ?_))));refine Jc (KP (KW ?_));refine Jc (M3 (Js ?_));cases hb:bt (j+1) (argBest bt j)with
  | true=>
   simp only[LV];refine Jc (Oh hS' rfl (Jc (M3 ?_)));rw[hname];refine Js #[Mg F.plain_min_loop _,ih (j+1) _ v _ ∅ hlt (W.frame _ _ _ hst' λb hbf o e=>?_) (by simp only[argBest,hb,LV]; exact hP) (hok _ _ hO' λb o _ hbS e=>(Kw _ _ (Ne.symm hbS)).trans e) (LM _ hS' rfl)
    λv' h'' tk'' hP' hk''=>?_]
   ·exact(Kw _ _ (λh:S=b=>hSf (by rw[h]; exact hbf))).trans e
   ·exact hR v' h'' tk'' hP' λb o hbw hbS e=>hk'' b o hbw hbS ((Kw _ _ (Ne.symm hbS)).trans (hk' b o hbw e))
  | false=>
   simp only[KF,LU];refine Jc (M3 ?_);rw[hname];refine Js #[Mg F.plain_min_loop _,ih (j+1) _ vb c ∅ hlt hst' (by simp only[argBest,hb,KF,LU]; exact hPb) hO' hS' λv' h'' tk'' hP' hk''=>?_]
   exact hR v' h'' tk'' hP' λb o hbw hbS e=>hk'' b o hbw hbS (hk' b o hbw e)
def ur (W:Walks prog w A.in1 I fp wr n P St)(hcmp:wo prog w A.in1 P Ok bt)(hSf:S∉fp)(hok:∀h h',Ok h->(∀b o,b∉wr->b≠S->h.get? b=gV o->h'.get? b=gV o)->Ok h')(hn:0 < n){s:Jh}{c:Jg}(hst:St 0 s.heap)(hO:Ok s.heap)
  (hS:s.heap.get? S=gV { cls:=.type "list",dict:=td,data:=.seq #[] c,slots:=#[] })
  (hR:∀v h' tk,P (argBest bt (n - 1)) v->(∀b o,b∉wr->b≠S->s.heap.get? b=gV o->h'.get? b=gV o)->R (.ok (.ret v)) { s with heap:=h',toks:=tk }) :
  codeAny (model prog w) A (.builtin "min.loop" #[[.ref I,.none,.ref S],[]]) R s:=by
 have hSw:S∉wr:=λh=>hSf (W.sub _ h)
 have hname:(toString "min" ++ toString ".loop" : KL) = "min.loop":=by decide
 refine K9 F.entry_min_loop ?_;rw[KO F.plain_min_loop _];show wpAny _ A.in1 (seqItems? (.ref S) >>= _) _ _ s;refine Jc (Ms hS rfl ?_);show wpAny _ A.in1 (tryCatch (pyNext (.ref I)) _ >>= _) _ _ s;refine Jc (Nl (W.item 0 s _ _ hn hst λv h' tk hP hst' hk'=>?_))
 have hS':=hk' S _ hSw hS;show wpAny _ A.in1 (updateSeq S (λ_=>[v,v].toArray) >>= _) _ _ _
 refine Jc (Oh hS' rfl ?_);rw[hname];have hO':Ok h':=hok _ _ hO λb o hb _ e=>hk' b o hb e
 refine Js #[Mg F.plain_min_loop _,wp W hcmp hSf hok _ 0 _ v _ rfl hn (W.frame _ _ _ hst' λb hbf o e=>?_) hP (hok _ _ hO' λb o _ hbS e=>(Kw _ _ (Ne.symm hbS)).trans e) (LM _ hS' rfl) λv' h'' tk'' hP' hk''=>?_]
 ·exact(Kw _ _ (λh:S=b=>hSf (by rw[h]; exact hbf))).trans e
 ·exact hR v' h'' tk'' hP' λb o hbw hbS e=>hk'' b o hbw hbS ((Kw _ _ (Ne.symm hbS)).trans (hk' b o hbw e))
end
section
variable{prog:J0}{w:Kc}{A:J7}{E:Jd->Jh->Prop}{s:Jh}
def wq {l:Jn}{items:Kh Jd}{bt:Jg->Jg->JL}{Q:Jd->Jh->Prop}(hh:A.handled=td)(hl:s.heap.IsList l items)(hn:0 < items.size)
  (hcmp:wo prog w A.in1 (λi v=>items[i]?=gV v) (λh=>∀b o,s.heap.get? b=gV o->h.get? b=gV o) bt)
  (hQ:∀v h' tk,items[argBest bt (items.size - 1)]?=gV v->(∀b o,s.heap.get? b=gV o->h'.get? b=gV o)->Q v { s with heap:=h',toks:=tk }) :
  wpAny (model prog w) A (call (.builtin "min") [.ref l]) Q E s:=by
 have hname:(toString "min" ++ toString ".loop" : KL) = "min.loop":=by decide
 refine call_function_tree F.kind_min F.plain_min F.entry_min (F.args_min1 _) ?_;show wpAny _ A.in1 (Nb "min" ["key","default"] 0 #[[],[]] >>= _) _ _ s;refine Jc (Ow (show Nb "min" ["key","default"] 0 #[[],[]]=pure [td,td]from rfl) ?_)
 refine Jc (Js ?_);refine Jc (PC hl ?_);refine Jc (Km ?_);rw[hname];have hlt:l < s.heap.objs.size:=let ⟨_,ho,_⟩:=hl; JJ ho
 have hne:l≠s.heap.objs.size:=J1 hlt;have W:=Walks.list (prog:=prog) (w:=w) (A:=A.in1) hh s.heap.objs.size l hne items;have hsz:∀o:KZ,(s.heap.push o).objs.size=s.heap.objs.size+1:=λo=>by simp[Heap.push]
 refine Js #[Mg F.plain_min_loop _,ur (A:=A) (Ok:=λh=>∀b o,s.heap.get? b=gV o->h.get? b=gV o) W hcmp (λhm=>?_) (λh h' ho hk b o e=>?_) hn #[?_,?_] (λb o e=>Jm _ (Jm _ e)) (JH _ rfl) λv h' tk hv hk=>?_]
 ·rcases JR.mp hm with e|hm
  ·exact absurd (show(s.heap.push _).objs.size=s.heap.objs.size from e) (by rw[hsz]; exact Nat.succ_ne_self _)
  ·have e:(s.heap.push _).objs.size=l:=Jv.mp hm;rw[hsz]at e;exact absurd hlt (by rw[<- e]; exact QF.mpr (Mr _))
 ·have hb:=JJ e;refine hk b o (λz=>?_) (λz=>?_) (ho b o e)
  ·rw[Jv.mp z]at hb; exact KC _ hb
  ·have z':b=(s.heap.push _).objs.size:=z;rw[hsz]at z';rw[z']at hb;exact absurd hb (QF.mpr (Mr _))
 ·exact#[_,Jm _ (JH _ rfl),rfl,rfl]
 ·obtain⟨o,ho,hc⟩:=hl;exact#[o,Jm _ (Jm _ ho),hc]
 ·refine hQ v h' tk hv λb o e=>hk b o (λz=>?_) (λz=>?_) (Jm _ (Jm _ e))
  ·have hb:=JJ e;rw[Jv.mp z]at hb; exact KC _ hb
  ·have hb:=JJ e;have z':b=(s.heap.push _).objs.size:=z;rw[hsz]at z';rw[z']at hb;exact absurd hb (QF.mpr (Mr _))
end
open PySem.W (KasT kas_sort kas_ask kas_cmp kas_item kas_asc kas_desc kas_tail3 kas_descPart kas_count kas_place kas_bin kas_rev)
abbrev nF {α:Type}(lt:Jg->Jg->JL):KasT α->α
 | .ret a=>a
 | .ask i j k=>nF lt (k (lt i j))
abbrev OkK {α:Type}(n:Jg)(P:α->Prop):KasT α->Prop
 | .ret a=>P a
 | .ask i j k=>i < n/\j < n/\∀b,OkK n P (k b)
def o4 {α:Type}{n:Jg}{P:α->Prop}{lt:Jg->Jg->JL}:∀(t:KasT α),OkK n P t->P (nF lt t)
 | .ret _,h=>h
 | .ask i j k,h=>o4 (k (lt i j)) (h.2.2 _)
def nG {α:Type}{n:Jg}{P:α->Prop}{lt:Jg->Jg->JL}{t:KasT α}(h:OkK n P t):P (nF lt t):=o4 t h
def OkK.bind {α β:Type}{n:Jg}{P:α->Prop}{P':β->Prop}{f:α->KasT β}:∀ {t:KasT α},OkK n P t->(∀a,P a->OkK n P' (f a))->OkK n P' (t.bind f)
 | .ret a,h,hf=>hf a h
 | .ask _ _ _,h,hf=>#[h.1,h.2.1,λb=>OkK.bind (h.2.2 b) hf]
def mw {α:Type}{n:Jg}{P:α->Prop}{lt:Jg->Jg->JL}{cmp:Jg->Jg->(JL->Jh->Prop)->Jh->Prop}{Q:α->Jh->Prop}{s:Jh}(hc:∀i j,i < n->j < n->∀C:JL->Jh->Prop,C (lt i j) s->cmp i j C s) :
  ∀ {t:KasT α},OkK n P t->Q (nF lt t) s->t.kasWp cmp Q s
 | .ret _,_,h=>h
 | .ask i j k,h,hq=>hc i j h.1 h.2.1 _ (mw hc (h.2.2 _) hq)
abbrev Pm (n:Jg)(p:Kh Jg):Prop:=p.toList.Perm (Jw n)
def Pm.size {n:Jg}{p:Kh Jg}(h:Pm n p):p.size=n:=by rw[<- J6,h.length_eq,JS]
def Pm.lt {n:Jg}{p:Kh Jg}(h:Pm n p)(hn:0 < n)(i:Jg):p.getD i 0 < n:=by
 by_cases hi:i < p.size
 ·have e:p.getD i 0=p[i]:=by simp[RL,hi]
  rw[e];have:p[i]∈p.toList:=by simp
  exact Jt.mp (h.mem_iff.mp this)
 ·have e:p.getD i 0=0:=by simp[RL,hi]
  rw[e]; exact hn
def Pm.rev {n:Jg}{p:Kh Jg}(h:Pm n p)(i j:Jg):Pm n (kas_rev p i j):=(Nm.mp (mirror_perm p i j _)).trans h
def Pm.bub {n:Jg}{p:Kh Jg}(h:Pm n p)(i j:Jg):Pm n (bubble p i j):=(Nm.mp (bubble_perm p i j)).trans h
section
variable{n:Jg}(hn:0 < n)
include hn
def qH {p:Kh Jg}(h:Pm n p):∀(f m:Jg),OkK n (λ_=>Qp) (kas_asc p f m)
 | 0,_=>trivial
 | f+1,m=>#[h.lt hn _,h.lt hn _,λb=>by
  show OkK n _ (if b=true then _ else _)
  split
  ·trivial
  ·exact qH h f (m+1)]
def jU:∀(f:Jg) (p:Kh Jg) (m q:Jg),Pm n p->OkK n (λr=>Pm n r.1) (kas_desc f p m q)
 | 0,p,m,q,h=>h
 | f+1,p,m,q,h=>#[h.lt hn _,h.lt hn _,λb=>by
  show OkK n _ (if b=true then _ else _)
  split
  ·split
   ·exact jU f _ _ _ (h.rev _ _)
   ·exact jU f _ _ _ h
  ·refine#[h.lt hn _,h.lt hn _,λc=>?_]
   show OkK n _ (if c=true then _ else _)
   split
   ·exact h
   ·exact jU f _ _ _ h]
def sv {p:Kh Jg}(h:Pm n p)(m k:Jg):OkK n (λr=>Pm n r.2) (kas_tail3 m k p):=by
 unfold kas_tail3;exact OkK.bind (qH hn (h.rev 0 m) _ _) λa _=>h.rev 0 m
def jC {p:Kh Jg}(h:Pm n p)(m k:Jg):OkK n (λr=>Pm n r.2) (kas_descPart m k p):=by
 unfold kas_descPart;refine OkK.bind (jU hn _ _ _ _ h) λr hr=>?_
 split
 ·exact sv hn (hr.rev _ _) _ _
 ·exact sv hn hr _ _
def wt {p:Kh Jg}(h:Pm n p)(k:Jg):OkK n (λr=>Pm n r.2) (kas_count k p):=by
 unfold kas_count;refine OkK.bind (qH hn h _ _) λm _=>?_
 split
 ·exact h
 ·split
  ·refine#[h.lt hn _,h.lt hn _,λc=>?_]
   show OkK n _ (if c=true then _ else _)
   split
   ·exact h
   ·exact jC hn (h.rev _ _) _ _
  ·exact jC hn h _ _
def kB {p:Kh Jg}(h:Pm n p)(k:Jg):∀(f l r:Jg),OkK n (λ_=>Qp) (kas_place p k f l r)
 | 0,_,_=>trivial
 | f+1,l,r=>by
  unfold kas_place;split
  ·trivial
  ·refine#[h.lt hn _,h.lt hn _,λc=>?_]
   show OkK n _ (if c=true then _ else _)
   split
   ·exact kB h k f _ _
   ·exact kB h k f _ _
def wu:∀(f:Jg) (p:Kh Jg) (k:Jg),Pm n p->OkK n (Pm n) (kas_bin f p k)
 | 0,p,k,h=>h
 | f+1,p,k,h=>by
  unfold kas_bin;exact OkK.bind (kB hn h k _ _ _) λl _=>wu f _ _ (h.bub _ _)
def jV:OkK n (Pm n) (kas_sort n):=by
 unfold kas_sort;refine OkK.bind (wt hn (by unfold Pm; simp) _) λr hr=>?_
 split
 ·exact wu hn _ _ _ hr
 ·exact hr
end
section
variable{prog:J0}{w:Kc}{A:J7}{E:Jd->Jh->Prop}{s:Jh}{vs:Ja Jd}
abbrev eO (lt:Jg->Jg->JL){β:Type}(d:β)(vs:Ja β):Ja β:=if vs.length < 2 then vs else(nF lt (kas_sort vs.length)).toList.map λi=>vs.getD i d
def o5 {lt:Jg->Jg->JL}{β:Type}{d:β}{vs:Ja β}:(eO lt d vs).length=vs.length:=by
 unfold eO;split
 ·rfl
 ·rw[Jb,J6,(nG (lt:=lt) (jV (n:=vs.length) ∅)).size]
def ut {a:Jn}{n:Jg}{lt:Jg->Jg->JL}{κ:NT}{P:PySem.Fin->Jh->Prop}(ho:s.heap.get? a=gV (seqObj "list" vs.toArray n))(h64:vs.length < 64)
  (hkind:2<=vs.length->∀h',(∀b o,b≠a->s.heap.get? b=gV o->h'.get? b=gV o)->∀Q:NT->Jh->Prop,Q κ { s with heap:=h' }->wpAny (model prog w) A (keyKind' vs.toArray) Q (λ_ _=>KA) { s with heap:=h' })
  (hlt:2<=vs.length->∀h',(∀b o,b≠a->s.heap.get? b=gV o->h'.get? b=gV o)->∀i j,i < vs.length->j < vs.length->∀Q:JL->Jh->Prop,Q (lt i j) { s with heap:=h' }->
   wpAny (model prog w) A (keyLt' κ (vs.getD i Kt) (vs.getD j Kt)) Q (λ_ _=>KA) { s with heap:=h' })
  (h:∀h' c,(∀b o,b≠a->s.heap.get? b=gV o->h'.get? b=gV o)->h'.get? a=gV (seqObj "list" (eO lt Kt vs).toArray c)->P (.done (.ret .none)) { s with heap:=h' }) :
  wpAny (model prog w) A (N3.«list.sort» #[[.ref a],[]]) P E s:=by
 have ha:a < s.heap.objs.size:=JJ ho;obtain⟨e1,ho1⟩ : ∃e1,(s.heap.update a (KN λ_=>(#[]:Kh Jd))).get? a=gV (seqObj "list" #[] e1):=#[_,Oi ho λ_=>#[]]
 have keep:∀b o,b≠a->s.heap.get? b=gV o->(((s.heap.update a (KN λ_=>(#[]:Kh Jd))).push (seqObj "tuple" vs.toArray 0)).push (seqObj "list" #[] 0)).get? b=gV o:=λb o hb e=>
  Jm _ (Jm _ ((MB _ _ _ _ hb).trans e))
 have ho3:(((s.heap.update a (KN λ_=>(#[]:Kh Jd))).push (seqObj "tuple" vs.toArray 0)).push (seqObj "list" #[] 0)).get? a=gV (seqObj "list" #[] e1):=Jm _ (Jm _ ho1)
 have fin:∀(out:Ja Jd),out.length=vs.length->out=eO lt Kt vs->P (.done (.ret .none)) { s with heap:=(((s.heap.update a (KN λ_=>(#[]:Kh Jd))).push (seqObj "tuple" vs.toArray 0)).push (seqObj "list" #[] 0)).update a (KN λ_=>out.toArray) }:=λout hl e=>by
  obtain⟨c2,hc2⟩ : ∃c2,((((s.heap.update a (KN λ_=>(#[]:Kh Jd))).push (seqObj "tuple" vs.toArray 0)).push (seqObj "list" #[] 0)).update a (KN λ_=>out.toArray)).get? a=gV (seqObj "list" out.toArray c2):=#[_,Oi ho3 λ_=>out.toArray]
  exact h _ c2 (λb o hb q=>(MB _ _ _ _ hb).trans (keep b o hb q)) (e ▸ hc2)
 rw[list_sort_plain];refine Jc (PD ho rfl ?_);refine Jc (NJ ho rfl ?_ (by rw[JE,Kq]; omega) (Lq _))
 refine Jc (Qe ho1 rfl ?_);refine Jc (QG ?_ (by show vs.length<=_; rw[Kq]; omega))
 refine Jc (OV ?_ (Lq _));refine KP ?_;show wpAny (model prog w) A _ P E { s with heap:=((s.heap.update a (KN λ_=>(#[]:Kh Jd))).push (seqObj "tuple" vs.toArray 0)).push (seqObj "list" #[] 0) }
 dsimp only
 by_cases h2:vs.length < 2
 ·rw[JK (by rw[JE]; exact h2),JK (by rw[JE]; exact h2)]
  refine Jc (Js (Jc ?_));rw[StateT.run_pure];refine Js ?_;dsimp only;refine Jc (Qe ho3 rfl ?_);have hs:((arrOf (SortSt.mk' general' (vs.toArray.zip vs.toArray) #[] 7 td)).map (·.2))=vs.toArray:=by
   show(vs.toArray.zip vs.toArray).map (·.2)=vs.toArray
   apply Array.toList_inj.mp;rw[Array.toList_map,Array.toList_zip];exact List.map_snd_zip (Jo _)
  rw[hs];refine Jc (NJ ho3 rfl ?_ (Lq _) (by rw[JE,Kq]; omega))
  simp only[PF,KF,LU];exact Js (fin vs rfl (by unfold eO; rw[JK h2]))
 ·have hn2:¬ vs.toArray.size < 2:=by rw[JE]; exact h2
  have h2':2<=vs.length:=∅
  rw[JU hn2,JU hn2];refine Jc (Lc (hkind h2' _ keep (λ(k:NT) (s':Jh)=>k=κ/\s'={ s with heap:=((s.heap.update a (KN λ_=>(#[]:Kh Jd))).push (seqObj "tuple" vs.toArray 0)).push (seqObj "list" #[] 0) }) #[rfl,rfl]) ?_ λ_ _ x=>x.elim)
  rintro _ _ ⟨rfl,rfl⟩;refine Jc (Lc (PySem.W.kat_run (Q:=λst' s'=>∃p:Kh Jg,p.size=vs.length/\arrOf st'=p.map (kas_item (vs.toArray.zip vs.toArray))/\failedOf st'=td/\p=nF lt (kas_sort vs.length)/\s'={ s with heap:=((s.heap.update a (KN λ_=>(#[]:Kh Jd))).push (seqObj "tuple" vs.toArray 0)).push (seqObj "list" #[] 0) })
   (G:=λp s'=>p=nF lt (kas_sort vs.length)/\s'={ s with heap:=((s.heap.update a (KN λ_=>(#[]:Kh Jd))).push (seqObj "tuple" vs.toArray 0)).push (seqObj "list" #[] 0) }) rfl h2' h64 (λp' st' s' a1 a2 a3 a4=>#[p',a1,a2,a3,a4])
   (mw (lt:=lt) (λi j hi hj C hC=>hlt h2' _ keep i j hi hj C hC) (jV (n:=vs.length) ∅) #[rfl,rfl])) ?_ λ_ _ e=>e)
  rintro⟨⟨⟩,st'⟩ s' ⟨p,hp,har,hf,ep,rfl⟩;dsimp only;have hout:=PySem.W.kat_snds rfl har;have hsz:(p.toList.map λi=>vs.getD i Kt).length=vs.length:=by rw[Jb,J6,hp]
  rw[hout];refine Jc (Qe ho3 rfl ?_);refine Jc (NJ ho3 rfl ?_ (Lq _) (by rw[JE,hsz,Kq]; omega))
  rw[hf];simp only[PF,KF,LU];exact Js (fin _ hsz (by unfold eO; rw[JU h2,ep]))
def uu {x:Jd}{lt:Jg->Jg->JL}{κ:NT}{Q:Jd->Jh->Prop}(h64:vs.length < 64)
  (hcol:∀Q':Ja Jd->Jh->Prop,(∀h' tk,(∀b o,s.heap.get? b=gV o->h'.get? b=gV o)->s.heap.objs.size<=h'.objs.size->Q' vs { s with heap:=h',toks:=tk })->wpAny (model prog w) A.in1 (collect x) Q' E s)
  (hkind:2<=vs.length->∀h' tk,(∀b o,s.heap.get? b=gV o->h'.get? b=gV o)->∀Q:NT->Jh->Prop,Q κ { s with heap:=h',toks:=tk }->wpAny (model prog w) A.in1.in1 (keyKind' vs.toArray) Q (λ_ _=>KA) { s with heap:=h',toks:=tk })
  (hlt:2<=vs.length->∀h' tk,(∀b o,s.heap.get? b=gV o->h'.get? b=gV o)->∀i j,i < vs.length->j < vs.length->∀Q:JL->Jh->Prop,Q (lt i j) { s with heap:=h',toks:=tk }->
   wpAny (model prog w) A.in1.in1 (keyLt' κ (vs.getD i Kt) (vs.getD j Kt)) Q (λ_ _=>KA) { s with heap:=h',toks:=tk })
  (h:∀D h' tk c,(∀b o,s.heap.get? b=gV o->h'.get? b=gV o)->s.heap.objs.size<=D->h'.get? D=gV (seqObj "list" (eO lt Kt vs).toArray c)->Q (.ref D) { s with heap:=h',toks:=tk }) :
  wpAny (model prog w) A (call (.builtin "sorted") [x]) Q E s:=by
 refine Nt kind_sorted plain_sorted entry_sorted (args_sorted1 _) ?_;unfold N3.«sorted»;refine Jc (m:=checkCount "sorted" 1 1 _) (Js ?_);refine Jc (hcol _ λh1 tk1 hk1 hle=>?_)
 refine Jc (OV ?_ (by rw[Kq]; omega))
 have hoL:(h1.push (seqObj "list" vs.toArray 0)).get? h1.objs.size=gV (seqObj "list" vs.toArray 0):=JH _ rfl;have kp:∀b o,s.heap.get? b=gV o->(h1.push (seqObj "list" vs.toArray 0)).get? b=gV o:=λb o e=>Jm _ (hk1 b o e)
 have hne:∀b o,s.heap.get? b=gV o->b≠h1.objs.size:=λb o e=>J1 (JW (JJ e) hle)
 show wpAny _ _ _ _ _ { s with heap:=h1.push (seqObj "list" vs.toArray 0),toks:=tk1 }
 refine Jc (KP (KI slot_list_sort #[_,hoL,rfl] entry_list_sort ?_ (args_list_sort _)));refine ut (s:={ s with heap:=h1.push (seqObj "list" vs.toArray 0),toks:=tk1 }) (lt:=lt) (κ:=κ) hoL h64 (λh2 h' hk Q hq=>hkind h2 h' tk1 (λb o e=>hk b o (hne b o e) (kp b o e)) Q hq)
  (λh2 h' hk i j hi hj Q hq=>hlt h2 h' tk1 (λb o e=>hk b o (hne b o e) (kp b o e)) i j hi hj Q hq) λh' c hk hD=>?_
 exact#[_,rfl,Js #[_,rfl,h _ h' tk1 c (λb o e=>hk b o (hne b o e) (kp b o e)) hle hD]]
end
end Mi
namespace Mi
open PySem PySem.Spec PyProof.Rows L2
abbrev fH:T->KL
 | .int _=>"int"|.str _=>"str"|.tup _=>"tuple"
abbrev bv:T->Ji T
 | .tup (x::_)=>gV x
 | _=>td
abbrev Ak (ks:Ja T):Ji Jg:=
 if ks.all (λk=>fH k == "int")then gV 0
 else if ks.all (λk=>fH k == "str")then gV 1
 else if ks.all (λk=>(bv k).any λf=>fH f == "int")then gV 2
 else if ks.all (λk=>(bv k).any λf=>fH f == "str")then gV 3
 else if ks.all (λk=>(bv k).any λf=>fH f == "tuple")then gV 4
 else td
abbrev wx:Jg->NT
 | 0=>oneType'|1=>oneType'|2=>tuples' true|3=>tuples' true|_=>tuples' false
abbrev fR (ks:Ja T):JL:=ks.all λx=>ks.all λy=>(gL x y).isSome
abbrev uy (ks:Ja T)(i j:Jg):JL:=(gL (ks.getD i (.int 0)) (ks.getD j (.int 0))).getD false
def qI {ks:Ja T}(h:fR ks=true){i j:Jg}(hi:i < ks.length)(hj:j < ks.length):gL (ks[i]) (ks[j])=gV (uy ks i j):=by
 unfold fR at h;rw[JB]at h;have h1:=h ks[i] (Kg hi);rw[JB]at h1;have h2:=h1 ks[j] (Kg hj);unfold uy;rw[show ks.getD i (.int 0)=ks[i] by simp[hi],show ks.getD j (.int 0)=ks[j] by simp[hj]]
 obtain⟨b,hb⟩:=Kn.mp h2;rw[hb]; rfl
abbrev Iu (c:Jg)(x y:T):Prop:=match c with|0=>fH x = "int"/\fH y = "int"|1=>fH x = "str"/\fH y = "str"|2=>∃f g,bv x=gV f/\bv y=gV g/\fH f = "int"/\fH g = "int"|3=>∃f g,bv x=gV f/\bv y=gV g/\fH f = "str"/\fH g = "str"|_=>∃f g,bv x=gV f/\bv y=gV g
section
variable{prog:J0}{w:Kc}{A:J7}{E:Jd->Jh->Prop}{s:Jh}
def sw {h:Kl}{k:T}{v:Jd}(x:IsT h k v):Q7 (model prog w) h (typeOf v) (.type (fH k)):=by
 cases x with
 | int=>exact .now
 | str=>exact .now
 | tup a c d t=>exact c ▸ ((RZ a).andThen .now:Q7 (model prog w) h (typeOf (.ref _)) _)
def IsTs.mem {h:Kl}:∀ {ks:Ja T} {vs:Ja Jd},IsTs h ks vs->∀v∈vs,∃k∈ks,IsT h k v
 | _,_,.cons a b,v,hv=>by
  rcases JR.mp hv with rfl|hv
  ·exact#[_,.head _,a]
  ·obtain⟨k,hk,q⟩:=IsTs.mem b v hv;exact#[k,.tail _ hk,q]
def my {h:Kl}{p:T->JL}:∀ {ks:Ja T} {vs:Ja Jd},IsTs h ks vs->ks.all (λk=>(bv k).any p)=true->∃fs,PySem.W.KatTups h vs fs/\fs.length=vs.length/\∀v∈fs,∃k,p k=true/\IsT h k v
 | _,_,.nil,_=>#[[],.nil,rfl,λv hv=>nomatch hv]
 | k::ks,_,.cons a b,hp=>by
  rw[Ki,Jj]at hp;obtain⟨fs,h1,h2,h3⟩:=my b hp.2;cases a with
  | int=>simp[bv]at hp
  | str=>simp[bv]at hp
  | @tup kk ad o items n a1 c1 d1 t1=>
   cases kk with
   | nil=>simp[bv]at hp
   | cons x xs=>
    have hx:p x=true:=by simpa [bv]using hp.1
    generalize hit:items.toList=its at t1;cases t1 with
    | @cons _ u _ us q1 q2=>
     refine#[u::fs,.cons a1 c1 d1 (by rw[<- K1,hit]; rfl) h1,by simp[h2],λv hv=>?_]
     rcases JR.mp hv with rfl|hv
     ·exact#[x,hx,q1]
     ·exact h3 v hv
def De {ks:Ja T}{vs:Ja Jd}{c:Jg}{Q:NT->Jh->Prop}(h:IsTs s.heap ks vs)(h2:2<=vs.length)(hc:Ak ks=gV c)(hq:Q (wx c) s):wpAny (model prog w) A (keyKind' vs.toArray) Q E s:=by
 have one:∀ty:KL,(Mp ty != Mp "tuple")=true->ks.all (λk=>fH k==ty)=true->Q oneType' s->wpAny (model prog w) A (keyKind' vs.toArray) Q E s:=λty hty hall hq=>
  PySem.W.kas_kind (T:=.type ty) h2 (λv hv=>by
   obtain⟨k,hk,x⟩:=h.mem v hv;have:=eq_of_beq (JB.mp hall k hk);exact this ▸ sw x) hty (by simp) hq
 have tup:∀ty:KL,ks.all (λk=>(bv k).any λf=>fH f==ty)=true->Q (tuples' (Mp ty != Mp "tuple")) s->wpAny (model prog w) A (keyKind' vs.toArray) Q E s:=λty hall hq=>by
  obtain⟨fs,h1,h3,h4⟩:=my h hall;exact PySem.W.kat_kind (T:=.type ty) h1 ∅ (λv hv=>by
   obtain⟨k,hk,x⟩:=h4 v hv;have:=eq_of_beq hk;exact this ▸ sw x) (by simp) hq
 unfold Ak at hc;split at hc
 ·cases hc; exact one "int" #v[] (by assumption) hq
 ·split at hc
  ·cases hc; exact one "str" #v[] (by assumption) hq
  ·split at hc
   ·cases hc; exact tup "int" (by assumption) hq
   ·split at hc
    ·cases hc; exact tup "str" (by assumption) hq
    ·split at hc
     ·cases hc; exact tup "tuple" (by assumption) hq
     ·cases hc
def o7 {b:JL}{Q:JL->Jh->Prop}{d:Jg}(hu:A.units+d < cLine):∀(xs ys:Ja T) (us vs:Ja Jd) (i:Jg) (k:JL),T.depths xs<=d->T.depths ys<=d->IsTs s.heap xs us->IsTs s.heap ys vs->db xs ys=gV k->
  (b=true->i=0->∀x y,xs.head?=gV x->ys.head?=gV y->(fH x = "int"/\fH y = "int")\/(fH x = "str"/\fH y = "str"))->Q k s->PySem.W.KatLex prog w A b (decide (us.length < vs.length)) Q (us.zip vs) i s
 | [],[],_,_,i,k,_,_,h1,h2,e,hb,hq=>by cases h1; cases h2; cases e; exact Oj (by simpa using hq)
 | [],y::ys,_,_,i,k,_,_,h1,h2,e,hb,hq=>by cases h1; cases h2; cases e; exact Oj (by simpa using hq)
 | x::xs,[],_,_,i,k,_,_,h1,h2,e,hb,hq=>by cases h1; cases h2; cases e; exact Oj (by simpa using hq)
 | x::xs,y::ys,_,_,i,k,d1,d2,h1,h2,e,hb,hq=>by
  simp only[T.depths]at d1 d2;cases h1 with
  | @cons _ u _ us p1 q1=>
   cases h2 with
   | @cons _ v _ vs p2 q2=>
    have he:=uk d x y _ _ A s ∅ p1 p2 hu ∅
    rw[Mb];refine PySem.W.kat_cons (he prog w _ _ ?_);simp only[db]at e;have hlen:decide ((u::us).length < (v::vs).length)=decide (us.length < vs.length):=by simp
    rw[hlen]
    by_cases hxy:x=y
    ·rw[JK hxy]at e;rw[Kf hxy];exact PySem.W.kat_yes (o7 hu xs ys us vs (i+1) k ∅ ∅ q1 q2 e (λ_ z=>absurd z (Nat.succ_ne_zero _)) hq)
    ·rw[JU hxy]at e;rw[JX hxy];refine PySem.W.kat_no ?_
     by_cases hb0:b=true/\i=0
     ·obtain⟨rfl,rfl⟩:=hb0;rcases hb rfl rfl x y rfl rfl with⟨hx,hy⟩|⟨hx,hy⟩
      ·cases p1 with
       | int=>cases p2 with
        | int=>cases e; exact oneLt_int hq
        | _=>exact absurd hy (by simp[fH])
       | _=>exact absurd hx (by simp[fH])
      ·cases p1 with
       | str=>cases p2 with
        | str=>cases e; exact oneLt_str hq
        | _=>exact absurd hy (by simp[fH])
       | _=>exact absurd hx (by simp[fH])
     ·have hf:(b&&i==0)=false:=by
       cases b with
       | false=>rfl
       | true=>
        have:i≠0:=λz=>hb0 #[rfl,z]
        simpa using this
      rw[hf];exact PySem.W.kat_one _ _ ((Fg d x y _ _ A s k ∅ ∅ p1 p2 hu e) prog w _ _ hq)
def Al {c d:Jg}{x y:T}{u v:Jd}{k:JL}{Q:JL->Jh->Prop}(hu:A.units+d < cLine)(d1:x.depth<=d)(d2:y.depth<=d)(h1:IsT s.heap x u)(h2:IsT s.heap y v)(e:gL x y=gV k)
  (hc:Iu c x y)
  (hq:Q k s):wpAny (model prog w) A (keyLt' (wx c) u v) Q E s:=by
 have tup:∀b:JL,(∃f g,bv x=gV f/\bv y=gV g/\(b=true->(fH f = "int"/\fH g = "int")\/(fH f = "str"/\fH g = "str")))->wpAny (model prog w) A (keyLt' (tuples' b) u v) Q E s:=by
  rintro b ⟨f,g,hf,hg,hb⟩;cases h1 with
  | int=>cases hf
  | str=>cases hf
  | @tup xs a o items n a1 c1 e1 t1=>
   cases h2 with
   | int=>cases hg
   | str=>cases hg
   | @tup ys a' o' items' n' a2 c2 e2 t2=>
    simp only[T.depth]at d1 d2;refine PySem.W.kat_lt a1 e1 a2 e2 ?_;have:=o7 (prog:=prog) (w:=w) (b:=b) (Q:=Q) hu xs ys items.toList items'.toList 0 k ∅ ∅ t1 t2 e (λhb' _ p q hp hq'=>by
     cases xs with
     | nil=>cases hp
     | cons x0 xs=>cases ys with
      | nil=>cases hq'
      | cons y0 ys=>cases hp; cases hq'; cases hf; cases hg; exact hb hb') hq
    simpa using this
 match c,hc with
 | 0,#[hx,hy]=>
  cases h1 with
  | int=>cases h2 with
   | int=>cases e; exact PySem.W.kat_lt_int hq
   | _=>exact absurd hy (by simp[fH])
  | _=>exact absurd hx (by simp[fH])
 | 1,#[hx,hy]=>
  cases h1 with
  | str=>cases h2 with
   | str=>cases e; exact PySem.W.kas_lt_str hq
   | _=>exact absurd hy (by simp[fH])
  | _=>exact absurd hx (by simp[fH])
 | 2,#[f,g,h1',h2',h3,h4]=>exact tup true #[f,g,h1',h2',λ_=>.inl #[h3,h4]]
 | 3,#[f,g,h1',h2',h3,h4]=>exact tup true #[f,g,h1',h2',λ_=>.inr #[h3,h4]]
 | n+4,#[f,g,h1',h2']=>exact tup false #[f,g,h1',h2',λz=>nomatch z]
end
def Am {ks:Ja T}{c:Jg}(h:Ak ks=gV c){x y:T}(hx:x∈ks)(hy:y∈ks) :
  Iu c x y:=by
 have one:∀ {ty:KL},ks.all (λk=>fH k==ty)=true->fH x=ty/\fH y=ty:=λha=>#[eq_of_beq (JB.mp ha x hx),eq_of_beq (JB.mp ha y hy)]
 have fst:∀ {ty:KL},ks.all (λk=>(bv k).any λf=>fH f==ty)=true->∃f g,bv x=gV f/\bv y=gV g/\fH f=ty/\fH g=ty:=λ{ty} ha=>by
  have h1:=JB.mp ha x hx;have h2:=JB.mp ha y hy;cases e1:bv x with
  | none=>rw[e1]at h1; cases h1
  | some f=>
   cases e2:bv y with
   | none=>rw[e2]at h2; cases h2
   | some g=>
    rw[e1]at h1; rw[e2]at h2
    exact#[f,g,rfl,rfl,eq_of_beq (by simpa using h1),eq_of_beq (by simpa using h2)]
 unfold Ak at h;split at h
 ·cases h; exact one (by assumption)
 ·split at h
  ·cases h; exact one (by assumption)
  ·split at h
   ·cases h; exact fst (by assumption)
   ·split at h
    ·cases h; exact fst (by assumption)
    ·split at h
     ·cases h;obtain⟨f,g,h1,h2,_⟩:=fst (by assumption)
      exact#[f,g,h1,h2]
     ·cases h
abbrev dD (S:aa):W->Ji (Ja W)
 | .tup xs=>gV xs
 | .ref i=>match iq S i with
  | some xs=>gV xs
  | none=>(jO S i).map λU=>U.map λp=>p.1.w
 | _=>td
abbrev eA:Jg:=8
abbrev nH (ks:Ja T):JL:=decide (ks.length < 64)&&decide (T.depths ks<=eA)&&(decide (ks.length < 2)||((Ak ks).isSome&&fR ks))
abbrev iF (xs:Ja W)(S:aa):Ji (W×aa):=match xs with
 | [x]=>match dD S x with
  | some ws=>match W.ts ws with
   | some ks=>if nH ks then gV (.ref S.length,S++[.lst (eO (uy ks) .non ws)])else td
   | none=>td
  | none=>td
 | _=>td
abbrev kC (xs:Ja W)(S:aa):Ji (W×aa):=match xs with
 | [.ref i]=>match jO S i with
  | some U=>gV (.ref S.length,S++[.lst (U.map λp=>p.1.w)])
  | none=>gW [.ref i] S
 | xs=>gW xs S
abbrev qJ (xs:Ja W)(S:aa):Ji (W×aa):=match xs with
 | [.ref i]=>match jO S i with
  | some U=>gV (.int U.length,S)
  | none=>qD [.ref i] S
 | xs=>qD xs S
abbrev hJ (ks:Ja T):Jg:=argBest (uy ks) (ks.length - 1)
abbrev An (xs:Ja W)(S:aa):Ji (W×aa):=match xs with
 | [.ref i]=>match iq S i with
  | some ws=>match W.ts ws with
   | some ks=>if T.depths ks<=eA/\fR ks=true then(ws[hJ ks]?).map λw=>(w,S)else td
   | none=>td
  | none=>td
 | _=>td
section
variable{X:Cx}{J:Ja (Jn×KZ)}{Y:L2.St}{H:Hp}{s:Jh}{A:Ja Jn}{S:aa}
def RelL.pick {K:Jx}{ws:Ja W}{vs:Ja V}(r:RelL K A H ws vs)(d:W)(d':V):∀(is:Ja Jg),(∀i∈is,i < ws.length)->RelL K A H (is.map λi=>ws.getD i d) (is.map λi=>vs.getD i d')
 | [],_=>.nil
 | i::is,h=>by
  have hi:=h i (.head _);obtain⟨v,h1,h2⟩:=r.get (Ju hi);refine .cons ?_ (RelL.pick r d d' is λj hj=>h j (.tail _ hj))
  have e1:ws.getD i d=ws[i]:=by simp[hi]
  have e2:vs.getD i d'=v:=by simp[h1]
  show Rel K A H (ws.getD i d) (vs.getD i d');rw[e1,e2]; exact h2
def Vals.pick {vs:Ja V}{us:Ja Jd}(r:Vals vs us)(d:V)(d':Jd):∀(is:Ja Jg),(∀i∈is,i < vs.length)->Vals (is.map λi=>vs.getD i d) (is.map λi=>us.getD i d')
 | [],_=>.nil
 | i::is,h=>by
  have hi:=h i (.head _);obtain⟨v,h1,h2⟩:=L2.Vals.get r (Ju hi);refine .cons ?_ (Vals.pick r d d' is λj hj=>h j (.tail _ hj))
  have e1:vs.getD i d=vs[i]:=by simp[hi]
  have e2:us.getD i d'=v:=by simp[h1]
  show L2.RelV (vs.getD i d) (us.getD i d');rw[e1,e2]; exact h2
def nI {n:Jg}{lt:Jg->Jg->JL}(hn:0 < n):∀i∈(nF lt (P3 n)).toList,i < n:=λi hi=>Jt.mp ((nG (lt:=lt) (jV hn)).mem_iff.mp hi)
def wy {K:Jx}{lt:Jg->Jg->JL}{ws:Ja W}{vs:Ja V}(r:RelL K A H ws vs):RelL K A H (eO lt .non ws) (eO lt .non vs):=by
 unfold eO;rw[r.length];split
 ·exact r
 ·exact r.pick _ _ _ λi hi=>by rw[r.length]; exact nI ∅ i hi
def uz {lt:Jg->Jg->JL}{vs:Ja V}{us:Ja Jd}(r:Vals vs us):Vals (eO lt .non vs) (eO lt .none us):=by
 unfold eO;rw[L2.Vals.length r];split
 ·exact r
 ·exact Vals.pick r _ _ _ λi hi=>by rw[L2.Vals.length r]; exact nI ∅ i hi
def o8 {prog:J0}{w:Kc}{B:J7}{E:Jd->Jh->Prop}{l:Jn}{vs:Ja Jd}{Q:Ja Jd->Jh->Prop}(hl:Ph s.heap l vs.toArray)(hsz:vs.length<=sizeLine)
  (h:∀h' tk,(∀b o,s.heap.get? b=gV o->h'.get? b=gV o)->s.heap.objs.size<=h'.objs.size->Q vs { s with heap:=h',toks:=tk }):wpAny (model prog w) B (collect (.ref l)) Q E s:=by
 obtain⟨o,ho,hc,n,hd⟩:=id hl;unfold collect;refine Jc (Oz (K9 entry_proto_collect' ?_));show wpAny _ _ (do again (.builtin "list.__iadd__" #[[<- newList [],.ref l],[]])) _ _ s
 refine Jc (OV (Js #[Code.quiet_builtin _ (by decide +kernel),K9 entry_list_iadd' ?_]))
 show wpAny _ _ (LG (.ref s.heap.objs.size) (.ref l) (.ref s.heap.objs.size)) _ _ { s with heap:=s.heap.push (seqObj "list" #[] 0) }
 unfold LG;have ho':(s.heap.push (seqObj "list" #[] 0)).get? l=gV o:=Jm _ ho;refine Jc (M9 (T:="tuple") #[o,ho',hc] ?_);have ht:(Mp "tuple" == Mp "tuple")=true:=by rfl
 rw[JK (by rw[ht]; simp)]
 refine Jc (PD ho' hd ?_);refine Jc (PD (xs:=#[]) (n:=0) (JH _ rfl) rfl ?_);rw[JU (by simp)]
 refine Jc (NJ (xs:=#[]) (n:=0) (JH _ rfl) rfl ?_ (Lq _) (by show(#[]++vs.toArray).size<=sizeLine+1; simp only[Array.size_append,JE,Lg]; omega))
 refine Js ?_;show wpAny (model prog w) B (do
   let o <- load s.heap.objs.size
   match o.data with
   | .seq xs _=>pure xs.toList
   | _=>unsupported "internal:collect") Q E { s with heap:=(s.heap.push (seqObj "list" #[] 0)).update s.heap.objs.size (KN (· ++ vs.toArray)) }
 refine Jc (O2 (Oi (JH _ rfl) _) ?_);show wpAny _ _ (pure ((#[]:Kh Jd)++vs.toArray).toList) Q E _;rw[show((#[]:Kh Jd)++vs.toArray).toList=vs by simp]
 refine Js (h _ s.toks (λb o' e=>(MB _ _ _ _ (J1 (JJ e))).trans (Jm _ e)) ?_)
 rw[P4,size_push'];exact Mr _
def DicAt.raw {wd:Kc}{a:Jn}{xs:Ja (T×Jn×Jd)}{h:Kl}(d:DicAt wd a xs h):∃es ep,RawD a es ep h/\es.toList=xs.map (vY wd):=
 let ⟨_,_,_,o,es,ep,h1,h2,h3,h4⟩:=d; #[es,ep,#[o,h1,h2,h3],h4]
def KRel.keysL {U:Ja (T×W)}{xs:Ja (T×Jn×Jd)}(r:KRel X.K A H U xs):RelL X.K A H (U.map λp=>p.1.w) (xs.map λq=>V.ref q.2.1):=by
 unfold KRel at r
 induction r with
 | nil=>exact .nil
 | cons h t ih=>exact .cons h.2.2.2.1 ih
def mz (xs:Ja (T×Jn×Jd)):Vals (xs.map λq=>V.ref q.2.1) (xs.map λq=>Kj q.2.1):=by
 induction xs with
 | nil=>exact .nil
 | cons x xs ih=>exact .cons rfl ih
def kD {wd:Kc}{es:Kh Lx}{xs:Ja (T×Jn×Jd)}(he:es.toList=xs.map (vY wd)){acc:Kh Jd}(ha:N5 (λi v=>∃e,es[i]?=gV e/\e.key=v) acc es.size):acc.toList=xs.map λq=>Kj q.2.1:=by
 have hl:es.size=xs.length:=by rw[<- J6,he,Jb]
 apply Mv
 ·rw[J6,ha.1,Jb,hl]
 ·intro i h1 h2;rw[J6]at h1;obtain⟨e,q1,q2⟩:=ha.2 i acc[i] (by simp[h1])
  rw[<- K1,he,Jl]at q1;rw[Jb]at h2;rw[Ju h2]at q1;simp only[J4,J3]at q1;subst q1;rw[List.getElem_map,Array.getElem_toList];exact q2.symm
def uA {x:W}{a:V}{u:Jd}{ws:Ja W}(hh:X.A.handled=td)(I:Inv X J Y H s)(so:StoreOk X.w X.K A H S)(rx:Rel X.K A H x a)(ru:RelV a u)(e:dD S x=gV ws):∃vs us,RelL X.K A H ws vs/\Vals vs us/\us.length<=sizeLine/\
  ∀(B:J7) (hB:B.handled=td) (E:Jd->Jh->Prop) (Q':Ja Jd->Jh->Prop),(∀h' tk,(∀b o,s.heap.get? b=gV o->h'.get? b=gV o)->s.heap.objs.size<=h'.objs.size->Q' us { s with heap:=h',toks:=tk })->wpAny (model X.prog X.w) B (collect u) Q' E s:=by
 cases rx with
 | tup h1 r1=>
  cases e;obtain⟨its,rv,ht,hz⟩:=I.tuple h1;obtain rfl:u=Kj _:=ru;exact#[_,its,r1,rv,by rw[<- L2.Vals.length rv]; exact hz,λB hB E Q' h=>o8 ht (by rw[<- L2.Vals.length rv]; exact hz) h]
 | ref ea=>
  simp only[dD]at e;split at e
  ·rename_i xs hx;cases e;obtain⟨vs,h1,r1⟩:=cY so hx ea;obtain⟨its,rv,p,hz⟩:=I.list h1;obtain rfl:u=Kj _:=ru;refine#[_,its,r1,rv,by rw[<- L2.Vals.length rv]; exact hz,λB hB E Q' h=>collect_list p.isList (h _ s.toks (λb o' e=>(MB _ _ _ _ (J1 (JJ e))).trans (Jm _ e)) ?_) (by rw[<- L2.Vals.length rv]; exact hz)]
   rw[P4,size_push'];exact Mr _
  ·rw[Jf]at e;obtain⟨U,hk,rfl⟩:=e;obtain⟨xs,rd,kr⟩:=fQ so hk ea;have d:=cF I rd;obtain⟨es,ep,raw,he⟩:=d.raw;obtain rfl:u=Kj _:=ru;have hl:es.size=xs.length:=by rw[<- J6,he,Jb]
   refine#[_,_,kr.keysL,mz xs,by rw[Jb]; exact d.1,λB hB E Q' h=>oZ (sr d.2.1) hB raw (by rw[hl]; exact d.1) λh' tk acc hk' hle ha=>?_]
   rw[kD he ha];exact h h' tk hk' hle
 | _=>cases e
def mB {h':Kl}{tk c:Jg}{D:Jn}{ws:Ja W}{vs:Ja V}{us:Ja Jd}(I:Inv X J Y H s)(so:StoreOk X.w X.K A H S)(r:RelL X.K A H ws vs)(rv:Vals vs us)(hz:us.length<=sizeLine)(hk:∀b o,s.heap.get? b=gV o->h'.get? b=gV o)(hD:s.heap.objs.size<=D)
  (ho:h'.get? D=gV { cls:=.type "list",data:=.seq us.toArray c }):dF X J Y A H (S++[.lst ws]) (.ref S.length) (.ref D) { s with heap:=h',toks:=tk }:=by
 have hn:H D=td:=I.hok.fresh hD;refine#[.ref D,_,A++[D],I.laid (a:=D) (o:=.lst vs) (t':=tk) hk hD #[by rw[L2.Vals.length rv]; exact hz,us,c,rv,ho],rfl,dZ hn,so.push hn r,.ref ?_]
 rw[<- so.len]; simp
def nJ (hh:X.A.handled=td)(hu:X.A.units+12 < cLine):LCall X (.builtin "sorted") iF:=by
 intro J s Y H A S xs vs us w S' I so rl rv e;cases rl with
 | nil=>cases e
 | cons r t=>
  cases t with
  | cons _ _=>cases e
  | nil=>
   cases rv with
   | cons ru rv2=>
    cases rv2;simp only[iF]at e;split at e
    ·rename_i ws hw;split at e
     ·rename_i ks hk;split at e
      ·rename_i hok;cases e;obtain⟨vs',us',r1,rv1,hz,hcol⟩:=uA hh I so r ru hw;simp only[nH,Jj,JP]at hok;obtain⟨⟨h64,hd⟩,hok⟩:=hok;have hws:T.ws ks=ws:=W.ts_w hk;have hT:IsTs s.heap ks us':=gA I ks (hws ▸ r1) rv1;have hl:us'.length=ks.length:=hT.length.symm;have sk:2<=us'.length->(Ak ks).isSome=true/\fR ks=true:=λh2=>by
        rcases K7 _ _ ▸ hok with h|h
        ·simp only[JP]at h; omega
        ·simpa using h
       refine uu (vs:=us') (lt:=uy ks) (κ:=wx ((Ak ks).getD 0)) ∅ (λQ' hQ'=>hcol X.A.in1 hh _ Q' hQ') (λh2 h' tk hk' Q hq=>?_) (λh2 h' tk hk' i j hi hj Q hq=>?_) λD h' tk c hk' hD ho=>?_
       ·obtain⟨q1,q2⟩:=sk h2;obtain⟨c,hc⟩:=Kn.mp q1;rw[hc]at hq;exact De (s:={ s with heap:=h',toks:=tk }) (hT.kept λb o _ e=>hk' b o e) h2 hc hq
       ·obtain⟨q1,q2⟩:=sk h2;obtain⟨c,hc⟩:=Kn.mp q1;rw[hc];have hi':i < ks.length:=∅
        have hj':j < ks.length:=∅
        have g:=(hT.kept (h':=h') λb o _ e=>hk' b o e)
        have e1:us'.getD i Kt=us'[i]:=by simp[hi]
        have e2:us'.getD j Kt=us'[j]:=by simp[hj]
        rw[e1,e2];have b1:=d0 (ks:=ks) i hi';have b2:=d0 (ks:=ks) j hj';exact Al (s:={ s with heap:=h',toks:=tk }) (d:=eA) (c:=c) (by rw[bh,bh]; unfold eA; omega) ∅ ∅ (g.get i hi' hi) (g.get j hj' hj) (qI q2 hi' hj') (Am hc (Kg hi') (Kg hj')) hq
       ·exact mB I so (wy r1) (uz rv1) (by rw[o5]; exact hz) hk' hD ho
      ·cases e
     ·cases e
    ·cases e
def o9 (hh:X.A.handled=td):LCall X (.type "list") kC:=by
 intro J s Y H A S xs vs us w S' I so rl rv e
 by_cases hd:∃i U,xs=[.ref i]/\jO S i=gV U
 ·obtain⟨i,U,rfl,hk⟩:=hd;simp only[kC,hk]at e;cases e;cases rl with
  | cons r t=>
   cases t;cases rv with
   | cons ru rv2=>
    cases rv2;cases r with
    | ref ea=>
     obtain⟨xs,rd,kr⟩:=fQ so hk ea;have d:=cF I rd;obtain⟨es,ep,raw,he⟩:=d.raw;obtain rfl:_=Kj _:=ru;have hl:es.size=xs.length:=by rw[<- J6,he,Jb]
     refine PySem.W.kdl_call (sr d.2.1) hh raw (by rw[hl]; exact d.1) λh' tk acc' c' hk' hD ha=>?_
     have ea':=kD he ha;refine mB (us:=acc'.toList) I so kr.keysL (ea' ▸ mz xs) (by rw[ea',Jb]; exact d.1) hk' (Jo _) (c:=c') ?_
     simpa using hD
 ·have:kC xs S=gW xs S:=by
   unfold kC;split
   ·rename_i i;split
    ·rename_i U hk;exact absurd #[i,U,rfl,hk] hd
    ·rfl
   ·rfl
  rw[this]at e;exact hG J s Y H A S xs vs us w S' I so rl rv e
end
open PySem.W (KasT kas_sort kas_asc kas_desc kas_tail3 kas_descPart kas_count kas_place kas_bin kas_rev)
abbrev gt (p:Kh Jg)(i:Jg):Jg:=p.getD i 0
end Mi
namespace Mi
open PySem PySem.Spec PyProof.Rows L2
mutual
theorem qK:∀x y:T,kw x=true->gL x y=gV true->gL y x=gV false
 | .int a,.int b,_,h=>by
  dsimp only[gL]at h; simp only[J3,JP]at h
  dsimp only[gL]; simp only[J3,NU]
  omega
 | .str _,_,h,_=>by cases h
 | .tup xs,.tup ys,hn,h=>nK xs ys hn h
 | .int _,.str _,_,h|.int _,.tup _,_,h|.tup _,.int _,_,h|.tup _,.str _,_,h=>by cases h
theorem nK:∀xs ys:Ja T,eu xs=true->db xs ys=gV true->db ys xs=gV false
 | [],[],_,h=>by cases h
 | [],_::_,_,_=>rfl
 | _::_,[],_,h=>by cases h
 | x::xs,y::ys,hn,h=>by
  simp only[eu,Jj]at hn;dsimp only[db]at h ⊢
  by_cases e:x=y
  ·rw[JK e]at h;rw[JK e.symm];exact nK xs ys hn.2 h
  ·rw[JU e]at h;rw[JU (Ne.symm e)];exact qK x y hn.1 h
end
mutual
theorem qL:∀x y:T,kw x=true->x≠y->gL y x=gV false->gL x y=gV true
 | .int a,.int b,_,hne,h=>by
  dsimp only[gL]at h; simp only[J3,NU]at h
  dsimp only[gL]; simp only[J3,JP]
  have:a≠b:=λe=>hne (e ▸ rfl)
  omega
 | .str _,_,h,_,_=>by cases h
 | .tup xs,.tup ys,hn,hne,h=>sx xs ys hn (λe=>hne (e ▸ rfl)) h
 | .int _,.str _,_,_,h|.int _,.tup _,_,_,h|.tup _,.int _,_,_,h|.tup _,.str _,_,_,h=>by cases h
theorem sx:∀xs ys:Ja T,eu xs=true->xs≠ys->db ys xs=gV false->db xs ys=gV true
 | [],[],_,h,_=>absurd rfl h
 | [],_::_,_,_,_=>rfl
 | _::_,[],_,_,h=>by cases h
 | x::xs,y::ys,hn,hne,h=>by
  simp only[eu,Jj]at hn;dsimp only[db]at h ⊢
  by_cases e:x=y
  ·rw[JK e.symm]at h;rw[JK e];exact sx xs ys hn.2 (λz=>hne (by rw[e,z])) h
  ·rw[JU (Ne.symm e)]at h;rw[JU e];exact qL x y hn.1 e h
end
mutual
theorem wz:∀x y z:T,kw x=true->kw y=true->gL x y=gV true->gL y z=gV true->gL x z=gV true
 | .int a,.int b,.int c,_,_,h,h'=>by
  dsimp only[gL]at h h' ⊢; simp only[J3,JP]at h h' ⊢
  omega
 | .tup xs,.tup ys,.tup zs,hn,hn',h,h'=>sy xs ys zs hn hn' h h'
 | .str _,_,_,h,_,_,_=>by cases h
 | .int _,.str _,_,_,_,h,_|.int _,.tup _,_,_,_,h,_|.tup _,.int _,_,_,_,h,_|.tup _,.str _,_,_,_,h,_=>by cases h
 | .int _,.int _,.str _,_,_,_,h|.int _,.int _,.tup _,_,_,_,h|.tup _,.tup _,.int _,_,_,_,h|.tup _,.tup _,.str _,_,_,_,h=>by cases h
theorem sy:∀xs ys zs:Ja T,eu xs=true->eu ys=true->db xs ys=gV true->db ys zs=gV true->db xs zs=gV true
 | [],[],_,_,_,h,_=>by cases h
 | _::_,[],_,_,_,h,_=>by cases h
 | _,_::_,[],_,_,_,h=>by cases h
 | [],_::_,_::_,_,_,_,_=>rfl
 | x::xs,y::ys,z::zs,hn,hn',h,h'=>by
  simp only[eu,Jj]at hn hn';dsimp only[db]at h h' ⊢
  by_cases e:x=y
  ·subst e;rw[JK rfl]at h
   by_cases e':x=z
   ·rw[JK e']at h' ⊢;exact sy xs ys zs hn.2 hn'.2 h h'
   ·rw[JU e']at h' ⊢;exact h'
  ·rw[JU e]at h
   by_cases e':y=z
   ·subst e';rw[JU e];exact h
   ·rw[JU e']at h';have t:=wz x y z hn.1 hn'.1 h h';have e2:x≠z:=λe2=>by
     subst e2;have:=qK x x hn.1 t;rw[t]at this; cases this
    rw[JU e2];exact t
end
def wD {α:Type}{lt:Jg->Jg->JL}{d:α}{xs:Ja α}:(eO lt d xs).Perm xs:=by
 unfold eO;split
 ·exact .refl _
 ·have p:Pm xs.length (nF lt (P3 xs.length)):=nG (jV ∅)
  refine(R7 _ p).trans ?_;have:(Jw xs.length).map (λi=>xs.getD i d)=xs:=by
   apply Mv
   ·simp
   ·intro k h1 h2; simp[h2]
  rw[this]
abbrev kE (xs:Ja W)(S:aa):Ji (W×aa):=match xs with
 | [.ref i]=>match wj S i with
  | some (lo,hi)=>if -(2 ^ 62)<=lo/\lo < 2 ^ 62/\-(2 ^ 62)<=hi/\hi < 2 ^ 62/\(hi - lo).toNat<=sizeLine then gV (.tup (Fd lo (hi - lo).toNat),S)else td
  | none=>kn [.ref i] S
 | xs=>kn xs S
section
variable{prog:J0}{w:Kc}{A:J7}{E:Jd->Jh->Prop}{s:Jh}
def lR {Q:Ja Jd->Jh->Prop}{r:Jn}{a b c:Jk}{t u v:Sb}{n:Jg}(hh:A.handled=td)(hr:RV s.heap r a b c t u v)(hsmall:M7 a b c=true)
  (hn:La a b c=n) (hlen:n<=2 ^ 24)
  (hQ:∀h' tk (acc:Kh Jd),(∀b o,s.heap.get? b=gV o->h'.get? b=gV o)->s.heap.objs.size<=h'.objs.size->N5 (λi v=>∃t,v=.int (a+i*c) t) acc n->Q acc.toList { s with heap:=h',toks:=tk }):wpAny (model prog w) A (collect (.ref r)) Q E s:=by
 unfold collect;refine Jc (Oz (K9 F.entry_proto_collect ?_));rw[KO F.plain_proto_collect _];show wpAny _ A.in1 (newList [] >>= λl=>again (.builtin "list.__iadd__" #[[l,.ref r],[]])) _ _ s
 refine Jc (Km ?_);refine Js #[Mg F.plain_list_iadd _,K9 F.entry_list_iadd ?_];rw[KO F.plain_list_iadd _];show wpAny _ A.in1 (LG (.ref s.heap.objs.size) (.ref r) (.ref s.heap.objs.size)) _ _ _;have hS:(s.heap.push { cls:=.type "list",data:=.seq ([]:Ja Jd).toArray }).get? s.heap.objs.size=gV { cls:=.type "list",data:=.seq #[] 0 }:=JH _ rfl;have fin':∀s',(∃h' tk acc c',s'={ s with heap:=h',toks:=tk }/\(∀b o,s.heap.get? b=gV o->h'.get? b=gV o)/\h'.get? s.heap.objs.size=gV { cls:=.type "list",dict:=td,data:=.seq acc c',slots:=#[] }/\N5 (λi v=>∃t,v=.int (a+i*c) t) acc n)->wpAny (model prog w) A (do
   let o <- load s.heap.objs.size
   match o.data with
   | .seq xs _=>pure xs.toList
   | _=>unsupported "internal:collect") Q E s':=by
  rintro s' ⟨h',tk,acc,c',rfl,hk,hS',hacc⟩;exact Jc (O2 hS' (Js (hQ h' tk acc hk (MQ (JJ hS')) hacc)))
 refine Lc (wpAny_extend_range (A:=A) (s:={ s with heap:=s.heap.push { cls:=.type "list",data:=.seq ([]:Ja Jd).toArray } }) (R:=λr s'=>r=.ok (.ret (.ref s.heap.objs.size))/\∃h' tk acc c',s'={ s with heap:=h',toks:=tk }/\(∀b o,s.heap.get? b=gV o->h'.get? b=gV o)/\h'.get? s.heap.objs.size=gV { cls:=.type "list",dict:=td,data:=.seq acc c',slots:=#[] }/\N5 (λi v=>∃t,v=.int (a+i*c) t) acc n) hh (Jm _ hr) hsmall hn hlen _ _ 0 hS λh' tk acc' c' hk hS' hacc=>#[rfl,h',tk,acc',c',rfl,λb o e=>hk b o (J1 (JJ e)) (Jm _ e),hS',hacc]) (λfin s' h=>?_) (λe s' h=>?_)
 ·cases fin with
  | done f=>
   obtain⟨e,h⟩:=h;cases e;exact fin' s' h
  | again c'=>exact#[h.1,N1 h.2 λr s'' hr=>by obtain⟨rfl,hr⟩:=hr; exact fin' s'' hr]
 ·exact absurd h.1 (by simp)
def jg {Q₁:Jd->Jh->Prop}{r:Jn}{a b c:Jk}{t u v:Sb}{n:Jg}(hh:A.handled=td)(hr:RV s.heap r a b c t u v)(hsmall:M7 a b c=true)
  (hn:La a b c=n) (hlen:n<=2 ^ 24)
  (h:∀(h':Kl) (tk:Jg) (acc:Kh Jd),(∀b o,s.heap.get? b=gV o->h'.get? b=gV o)->s.heap.objs.size<=h'.objs.size->N5 (λi v=>∃t,v=.int (a+i*c) t) acc n->Q₁ (.ref h'.objs.size) { s with heap:=h'.push { cls:=.type "tuple",data:=.seq acc },toks:=tk }) :
  codeAny (model prog w) A (.call (.builtin "tuple.__new__") #[[.type "tuple",.ref r],[]]) (wants Q₁ E) s:=by
 refine codeAny_of_tree ?_;show wpAny _ A.in1 (do checkBuiltinCall "tuple.__new__" #[[.type "tuple",.ref r],[]]; again (.builtin "tuple.__new__" #[[.type "tuple",.ref r],[]])) _ _ s
 refine Jc (Ow (F.newCall_tuple_1 _) (Js #[Mg F.plain_tuple_new _,K9 F.entry_tuple_new ?_]));rw[KO F.plain_tuple_new _];have hsub:=PySem.sub_tuple_self;have hinit:=PySem.init_tuple_lookup;have hmh:=PySem.madeHere_tuple;have hTI:s.TypeIs (.ref r) "range":=#[_,hr,rfl];have hh1:A.in1.handled=td:=by simp[hh]
 wp_walk using M9 hTI,lR (A:=A.in1) hh1 hr hsmall hn hlen
 intro h' tk acc hk hle hacc;show wpAny _ _ (K5 acc.toList.toArray >>= λv=>ret v) _ _ _
 unfold K5;refine Jc (Km ?_ (by show acc.toList.toArray.size<=sizeLine; simp only[Array.toArray_toList]; rw[hacc.1,Kq]; omega))
 refine Js ?_;have e:acc.toList.toArray=acc:=by simp
 rw[e];exact h h' tk acc hk hle hacc
def jh {Q:Jd->Jh->Prop}{r:Jn}{a b c:Jk}{t u v:Sb}{n:Jg}(hh:A.handled=td)(hr:RV s.heap r a b c t u v)(hsmall:M7 a b c=true)
  (hn:La a b c=n) (hlen:n<=2 ^ 24)
  (hQ:∀(h':Kl) (tk:Jg) (acc:Kh Jd),(∀b o,s.heap.get? b=gV o->h'.get? b=gV o)->s.heap.objs.size<=h'.objs.size->N5 (λi v=>∃t,v=.int (a+i*c) t) acc n->Q (.ref h'.objs.size) { s with heap:=h'.push { cls:=.type "tuple",data:=.seq acc },toks:=tk }) :
  wpAny (model prog w) A (call (.type "tuple") [.ref r]) Q E s:=by
 refine callType_codes (Q₁:=λobj s₁=>s₁.TypeIs obj "tuple"/\Q obj s₁) F.called_tuple (F.typeCall_tuple_1 _) F.entry_object_init
  (jg (by simp[hh]) hr hsmall hn hlen λh' tk acc hk hle hacc=>#[#[_,JH _ rfl,rfl],hQ h' tk acc hk hle hacc]) λobj s₁ h₁=>?_
 exact#[h₁.1,F.args_object_init_2 obj _,object_init_meets F.called_tuple.init.lookup F.called_tuple.made #v[] prog w A.in1 _ s₁ #[h₁.1,rfl,h₁.2]]
end
section
variable{X:Cx}{J:Ja (Jn×KZ)}{Y:L2.St}{H:Hp}{s:Jh}{A:Ja Jn}{S:aa}
def nL (hh:X.A.handled=td):LCall X (.type "tuple") kE:=by
 intro J s Y H A S xs vs us w S' I so rl rv e;unfold kE at e;split at e
 ·rename_i i;split at e
  ·rename_i lo hi hr;split at e
   ·rename_i hb;cases e;obtain⟨a,ea,rfl⟩:=sg (xs:=[]) rl rv;obtain⟨b1,b2,b3,b4,b5⟩:=hb;have hH:H a=gV (.rng lo hi):=by
     unfold wj at hr;split at hr
     ·rename_i hx; cases hr; exact so.obj i _ a hx ea
     ·cases hr
    obtain⟨t,u,v,ho⟩:=I.hok a _ hH;have hn:La lo hi 1=((hi - lo).toNat:Jg):=by rw[OR]; split <;> omega
    refine jh hh ho (Rc b1 b2 b3 b4) hn b5 λh' tk acc hk hle hacc=>?_
    have hv:Vals ((Jw (hi - lo).toNat).map λ(k:Jg)=>V.int (lo+(k:Jk))) acc.toList:=by
     refine nz (by rw[Jb,JS,J6,hacc.1]) λi v u e1 e2=>?_
     rw[Jl,Jf]at e1;obtain⟨k,e1,rfl⟩:=e1;obtain⟨hk,rfl⟩:=Jz.mp e1;obtain⟨t,rfl⟩:=hacc.2 i u (by rw[<- K1]; exact e2)
     exact#[t,by simp]
    have hnn:H h'.objs.size=td:=I.hok.fresh hle;refine#[.ref h'.objs.size,_,A,I.laid (a:=h'.objs.size) (o:=.tup ((Jw (hi - lo).toNat).map λ(k:Jg)=>V.int (lo+(k:Jk)))) (t':=tk) (λb o e=>Jm _ (hk b o e)) hle #[#[by simpa using b5,NoD.new _ _ _],acc.toList,hv,?_],rfl,dm (.inl hnn),so.lay hnn,.tup (.inl (.inl be)) (nA _)]
    exact#[_,JH _ rfl,rfl,0,by simp]
   ·cases e
  ·exact jA J s Y H A S _ vs us w S' I so rl rv e
 ·exact jA J s Y H A S _ vs us w S' I so rl rv e
end
section
variable{X:Cx}{J:Ja (Jn×KZ)}{Y:L2.St}{H:Hp}{s:Jh}{A:Ja Jn}{S:aa}
def uB (hh:X.A.handled=td)(hu:X.A.units+12 < cLine):LCall X (.builtin "min") An:=by
 intro J s Y H A S xs vs us w S' I so rl rv e;cases rl with
 | nil=>cases e
 | cons r t=>
  cases t with
  | cons _ _=>cases r <;> cases e
  | nil=>
   cases rv with
   | cons ru rv2=>
    cases rv2;cases r with
    | ref ea=>
     simp only[An]at e;split at e
     ·rename_i ws hw;split at e
      ·rename_i ks hk;split at e
       ·rename_i hc;rw[Jf]at e;obtain⟨w',e1,e2⟩:=e;cases e2;obtain⟨vs',h1,r1⟩:=cY so hw ea;obtain⟨its,rv1,p,hz⟩:=I.list h1;obtain rfl:_=Kj _:=ru;have hws:T.ws ks=ws:=W.ts_w hk;have hT:IsTs s.heap ks its:=gA I ks (hws ▸ r1) rv1;have hl:its.length=ks.length:=hT.length.symm;have hlw:ws.length=ks.length:=by rw[r1.length,L2.Vals.length rv1,hl]
        have hn:0 < ks.length:=by
         have:=(Jz.mp e1).1;omega
        refine wq (items:=its.toArray) (bt:=uy ks) hh p.isList (by simpa [hl]using hn) (λi j vi vj s' Q E hk' hi hj hq=>?_) λv h' tk hv hk'=>?_
        ·have hi':i < ks.length:=by
          have:=(LK.mp hi).1
          simpa [hl]using this
         have hj':j < ks.length:=by
          have:=(LK.mp hj).1
          simpa [hl]using this
         have g:=hT.kept (h':=s'.heap) λb o _ e=>hk' b o e
         have e1:vi=its[i]'∅:=by
          have:=(LK.mp hi).2
          simpa using this.symm
         have e2:vj=its[j]'∅:=by
          have:=(LK.mp hj).2
          simpa using this.symm
         subst e1 e2;have b1:=d0 (ks:=ks) i hi';have b2:=d0 (ks:=ks) j hj';exact Fg eA _ _ _ _ X.A.in1 s' _ ∅ ∅ (g.get i hi' ∅) (g.get j hj' ∅) (by rw[bh]; unfold eA; omega) (qI hc.2 hi' hj') X.prog X.w _ _ hq
        ·have hv':its[hJ ks]?=gV v:=by
          have:its.toArray.size=ks.length:=by simpa using hl
          rw[this]at hv
          simpa [hJ]using hv
         obtain⟨v',q1,q2⟩:=r1.get e1;obtain⟨u',q3,q4⟩:=L2.Vals.get rv1 q1;rw[hv']at q3;cases q3;exact#[v',H,A,I.kept hk',q4,.refl,so,q2]
       ·cases e
      ·cases e
     ·cases e
    | _=>cases e
end
noncomputable abbrev FA:=Fm->aa->Ji (Ja W×aa)
noncomputable abbrev FT:=Fm->aa->Ji (JL×aa)
inductive Out where
 | nx (Z:Fm)|rt (w:W)|bk (Z:Fm)|ct (Z:Fm)
noncomputable abbrev FS:=Fm->aa->Ji (Out×aa)
section
variable (X:Cx)
abbrev tE (f:FE):TE:=λY H Q=>∃A Z S w S',EnvRel X.K A H Z Y/\StoreOk X.w X.K A H S/\f Z S=gV (w,S')/\∀v H',EndV X.w X.K A H S' w v H'->Q v H'
abbrev EndB (A:Ja Jn)(H:Hp)(S':aa)(k:JL):JL->Hp->Prop:=λb H'=>b=k/\∃A',Ext X.K A H A' H'/\StoreOk X.w X.K A' H' S'
abbrev tT (f:FT):TT:=λY H Q=>∃A Z S k S',EnvRel X.K A H Z Y/\StoreOk X.w X.K A H S/\f Z S=gV (k,S')/\∀b H',EndB X A H S' k b H'->Q b H'
abbrev Dg (A:Ja Jn)(H:Hp)(S':aa)(ws:Ja W):Ja V->Hp->Prop:=λvs H'=>∃A',Ext X.K A H A' H'/\StoreOk X.w X.K A' H' S'/\RelL X.K A' H' ws vs
abbrev tA (f:FA):TA:=λY H Q=>∃A Z S ws S',EnvRel X.K A H Z Y/\StoreOk X.w X.K A H S/\f Z S=gV (ws,S')/\∀vs H',Dg X A H S' ws vs H'->Q vs H'
abbrev EndS (A:Ja Jn)(H:Hp)(o:Out)(S':aa):Ends where
 nx:=λY' H'=>∃Z' A',o=.nx Z'/\Ext X.K A H A' H'/\StoreOk X.w X.K A' H' S'/\EnvRel X.K A' H' Z' Y'
 rt:=λv H'=>∃w A',o=.rt w/\Ext X.K A H A' H'/\StoreOk X.w X.K A' H' S'/\Rel X.K A' H' w v
 bk:=λY' H'=>∃Z' A',o=.bk Z'/\Ext X.K A H A' H'/\StoreOk X.w X.K A' H' S'/\EnvRel X.K A' H' Z' Y'
 ct:=λY' H'=>∃Z' A',o=.ct Z'/\Ext X.K A H A' H'/\StoreOk X.w X.K A' H' S'/\EnvRel X.K A' H' Z' Y'
structure Imp (E D:Ends):Prop where
 nx:∀Y H,E.nx Y H->D.nx Y H
 rt:∀v H,E.rt v H->D.rt v H
 bk:∀Y H,E.bk Y H->D.bk Y H
 ct:∀Y H,E.ct Y H->D.ct Y H
abbrev tS (f:FS):TS:=λD Y H=>∃A Z S o S',EnvRel X.K A H Z Y/\StoreOk X.w X.K A H S/\f Z S=gV (o,S')/\Imp (EndS X A H o S') D
noncomputable abbrev GE (e:JM)(f:FE):Prop:=PE X e (tE X f)
noncomputable abbrev GT (e:JM)(f:FT):Prop:=PT X e (tT X f)
noncomputable abbrev GW (e:JM)(f:FT):Prop:=PW X e (tT X f)
noncomputable abbrev GA (es:Ja JM)(f:FA):Prop:=PA X es (tA X f)
noncomputable abbrev GS (st:L4)(f:FS):Prop:=PS X st (tS X f)
noncomputable abbrev GSs (sts:Ja L4)(f:FS):Prop:=PSs X sts (tS X f)
end
def Imp.trans {E D F:Ends}(a:Imp E D)(b:Imp D F):Imp E F:=#[λ_ _ h=>b.nx _ _ (a.nx _ _ h),λ_ _ h=>b.rt _ _ (a.rt _ _ h),λ_ _ h=>b.bk _ _ (a.bk _ _ h),λ_ _ h=>b.ct _ _ (a.ct _ _ h)]
section
variable{X:Cx}
def GE.of {e:JM}{t:TE}{f:FE}(h:PE X e t)(hf:∀(Y:L2.St) (H:Hp) (A:Ja Jn) (Z:Fm) (S:aa) (w:W) (S':aa),EnvRel X.K A H Z Y->StoreOk X.w X.K A H S->f Z S=gV (w,S')->∀Q:VK,(∀v H',EndV X.w X.K A H S' w v H'->Q v H')->t Y H Q):GE X e f:=
 λJ s Y H Q I #[A,Z,S,w,S',er,so,e1,hq]=>h J s Y H Q I (hf Y H A Z S w S' er so e1 Q hq)
def GT.of {e:JM}{t:TT}{f:FT}(h:PT X e t)(hf:∀(Y:L2.St) (H:Hp) (A:Ja Jn) (Z:Fm) (S:aa) (k:JL) (S':aa),EnvRel X.K A H Z Y->StoreOk X.w X.K A H S->f Z S=gV (k,S')->∀Q:JL->Hp->Prop,(∀b H',EndB X A H S' k b H'->Q b H')->t Y H Q):GT X e f:=
 λJ s Y H Q I #[A,Z,S,w,S',er,so,e1,hq]=>h J s Y H Q I (hf Y H A Z S w S' er so e1 Q hq)
def GW.of {e:JM}{t:TT}{f:FT}(h:PW X e t)(hf:∀(Y:L2.St) (H:Hp) (A:Ja Jn) (Z:Fm) (S:aa) (k:JL) (S':aa),EnvRel X.K A H Z Y->StoreOk X.w X.K A H S->f Z S=gV (k,S')->∀Q:JL->Hp->Prop,(∀b H',EndB X A H S' k b H'->Q b H')->t Y H Q):GW X e f:=
 λwh J s Y H Q I #[A,Z,S,w,S',er,so,e1,hq]=>h wh J s Y H Q I (hf Y H A Z S w S' er so e1 Q hq)
def GA.of {es:Ja JM}{t:TA}{f:FA}(h:PA X es t)(hf:∀(Y:L2.St) (H:Hp) (A:Ja Jn) (Z:Fm) (S:aa) (ws:Ja W) (S':aa),EnvRel X.K A H Z Y->StoreOk X.w X.K A H S->f Z S=gV (ws,S')->∀Q:Ja V->Hp->Prop,(∀vs H',Dg X A H S' ws vs H'->Q vs H')->t Y H Q):GA X es f:=
 λpos J s Y H Q I #[A,Z,S,w,S',er,so,e1,hq]=>h pos J s Y H Q I (hf Y H A Z S w S' er so e1 Q hq)
def GS.of {st:L4}{t:TS}{f:FS}(h:PS X st t)(hf:∀(Y:L2.St) (H:Hp) (A:Ja Jn) (Z:Fm) (S:aa) (o:Out) (S':aa),EnvRel X.K A H Z Y->StoreOk X.w X.K A H S->f Z S=gV (o,S')->∀D:Ends,Imp (EndS X A H o S') D->t D Y H):GS X st f:=
 λJ s Y H D I #[A,Z,S,o,S',er,so,e1,hq]=>h J s Y H D I (hf Y H A Z S o S' er so e1 D hq)
def GSs.of {st:Ja L4}{t:TS}{f:FS}(h:PSs X st t)(hf:∀(Y:L2.St) (H:Hp) (A:Ja Jn) (Z:Fm) (S:aa) (o:Out) (S':aa),EnvRel X.K A H Z Y->StoreOk X.w X.K A H S->f Z S=gV (o,S')->∀D:Ends,Imp (EndS X A H o S') D->t D Y H):GSs X st f:=
 λJ s Y H D I #[A,Z,S,o,S',er,so,e1,hq]=>h J s Y H D I (hf Y H A Z S o S' er so e1 D hq)
def EndV.after {A A1:Ja Jn}{H H1:Hp}{S':aa}{w:W}{v:V}{H':Hp}(e:Ext X.K A H A1 H1)(h:EndV X.w X.K A1 H1 S' w v H'):EndV X.w X.K A H S' w v H':=by
 obtain⟨A',x,y,z⟩:=h;exact#[A',e.trans x,y,z]
def EndB.after {A A1:Ja Jn}{H H1:Hp}{S':aa}{k b:JL}{H':Hp}(e:Ext X.K A H A1 H1)(h:EndB X A1 H1 S' k b H'):EndB X A H S' k b H':=by
 obtain⟨h1,A',x,y⟩:=h;exact#[h1,A',e.trans x,y]
def EndS.after {A A1:Ja Jn}{H H1:Hp}{S':aa}{o:Out}(e:Ext X.K A H A1 H1):Imp (EndS X A1 H1 o S') (EndS X A H o S'):=
 #[λ_ _ #[Z',A',a,b,c,d]=>#[Z',A',a,e.trans b,c,d],λ_ _ #[Z',A',a,b,c,d]=>#[Z',A',a,e.trans b,c,d],λ_ _ #[Z',A',a,b,c,d]=>#[Z',A',a,e.trans b,c,d],λ_ _ #[Z',A',a,b,c,d]=>#[Z',A',a,e.trans b,c,d]]
abbrev fC (w:W):FE:=λ_ S=>gV (w,S)
abbrev fV (i:Jg):FE:=λZ S=>match Z[i]? with
 | some (gV w)=>gV (w,S)
 | _=>td
def pb {e:JM}{v:V}{w:W}(h:PE X e (tC v))(r:∀A H,Rel X.K A H w v):GE X e (fC w):=
 GE.of h λY H A Z S w' S' er so e Q hq=>by cases e; exact hq _ _ (.here so (r A H))
def HC {i:Jg}{e:JM}(h:PE X e (EI i)):GE X e (fV i):=GE.of h λY H A Z S w S' er so e Q hq=>by
 unfold fV at e;split at e
 ·rename_i w' hw;cases e;obtain⟨v,h1,h2⟩:=er.2 i _ hw;exact#[v,h1,hq _ _ (.here so h2)]
 ·cases e
abbrev Ao (g:W->W->aa->Ji (W×aa))(fa fb:FE):FE:=λZ S=>match fa Z S with
 | some (x,S1)=>match fb Z S1 with
  | some (y,S2)=>g x y S2
  | none=>td
 | none=>td
def GY {fa fb:FE}{g:W->W->aa->Ji (W×aa)}{Z:Fm}{S:aa}{r:W×aa}(e:Ao g fa fb Z S=gV r):∃x S1 y S2,fa Z S=gV (x,S1)/\fb Z S1=gV (y,S2)/\g x y S2=gV r:=by
 unfold Ao at e;split at e
 ·rename_i x S1 h1;split at e
  ·rename_i y S2 h2;exact#[x,S1,y,S2,h1,h2,e]
  ·cases e
 ·cases e
def fS {fa fb:FE}{Z:Fm}{S S1 S2:aa}{x y:W}{Y:L2.St}{H:Hp}{A:Ja Jn}{R:V->V->Hp->Prop}(er:EnvRel X.K A H Z Y)(so:StoreOk X.w X.K A H S)(h1:fa Z S=gV (x,S1))(h2:fb Z S1=gV (y,S2))
  (h:∀a b H2 A2,Ext X.K A H A2 H2->StoreOk X.w X.K A2 H2 S2->Rel X.K A2 H2 x a->Rel X.K A2 H2 y b->R a b H2):tE X fa Y H λa H1=>tE X fb Y H1 λb H2=>R a b H2:=by
 refine#[A,Z,S,x,S1,er,so,h1,λa H1 #[A1,e1,o1,r1]=>?_]
 refine#[A1,Z,S1,y,S2,er.mono e1,o1,h2,λb H2 #[A2,e2,o2,r2]=>?_]
 exact h a b H2 A2 (e1.trans e2) o2 (r1.mono e2) r2
def LOp.opr {f:Jd->Jd->Rp Jd}{g:W->W->aa->Ji (W×aa)}(h:LOp X f g):OpR X f (λa b H Q=>∃A S x y w S',StoreOk X.w X.K A H S/\Rel X.K A H x a/\Rel X.K A H y b/\g x y S=gV (w,S')/\∀v H',EndV X.w X.K A H S' w v H'->Q v H'):=by
 intro J s Y H a b u v Q I ru rv ⟨A,S,x,y,w,S',so,rx,ry,e,hq⟩;exact bj (h J s Y H A S x y a b u v w S' I so rx ru ry rv e) λu' s' #[v',H',A',I',r',e1,o1,z1]=>#[v',H',I',r',hq v' H' #[A',e1,o1,z1]]
def BZ {a b:JM}{op:Pl}{pos:LJ}{fa fb:FE}{g:W->W->aa->Ji (W×aa)}(ho:LOp X (binaryOp op) g)(ha:GE X a fa)(hb:GE X b fb):GE X (.BinOp a op b pos) (Ao g fa fb):=
 GE.of (EX ho.opr ha hb) λY H A Z S w S' er so e Q hq=>by
  obtain⟨x,S1,y,S2,h1,h2,h3⟩:=GY e;exact fS er so h1 h2 λa b H2 A2 e2 o2 r1 r2=>#[A2,S2,x,y,w,S',o2,r1,r2,h3,λv H' z=>hq v H' (z.after e2)]
abbrev wF (fa:FE):FE:=λZ S=>match fa Z S with
 | some (.int i,S1)=>gV (.int (-i),S1)
 | _=>td
def wH {a:JM}{pos:LJ}{fa:FE}(ha:GE X a fa):GE X (.UnaryOp .USub a pos) (wF fa):=
 GE.of (EY CV ha) λY H A Z S w S' er so e Q hq=>by
  unfold wF at e;split at e
  ·rename_i i S1 h1;cases e;refine#[A,Z,S,_,_,er,so,h1,λv H1 #[A1,e1,o1,r1]=>?_]
   cases r1;exact#[_,rfl,hq _ _ #[A1,e1,o1,.int]]
  ·cases e
abbrev Ap (o:COp)(fa fb:FE):FE:=Ao (aP o) fa fb
def Dh {a b:JM}{o:COp}{pos:LJ}{fa fb:FE}(hu:X.A.units+fP < cLine)(ha:GE X a fa)(hb:GE X b fb)(hm:behindInMarks o.py b=false):GE X (.Compare a [o.py] [b] pos) (Ap o fa fb):=
 GE.of (zK (oW hu o).opr ha hb hm) λY H A Z S w S' er so e Q hq=>by
  obtain⟨x,S1,y,S2,h1,h2,h3⟩:=GY e;exact fS er so h1 h2 λa b H2 A2 e2 o2 r1 r2=>#[A2,S2,x,y,w,S',o2,r1,r2,h3,λv H' z=>hq v H' (z.after e2)]
abbrev pc (f:FE):FT:=λZ S=>match f Z S with
 | some (.bl k,S')=>gV (k,S')
 | _=>td
def Di {a b:JM}{o:COp}{pos:LJ}{fa fb:FE}(hu:X.A.units+fP < cLine)(ha:GE X a fa)(hb:GE X b fb)(hm:behindInMarks o.py b=false):GT X (.Compare a [o.py] [b] pos) (pc (Ap o fa fb)):=
 GT.of (zL (oW hu o).opr ha hb hm) λY H A Z S k S' er so e Q hq=>by
  unfold pc at e;split at e
  ·rename_i k' S'' h0;cases e;obtain⟨x,S1,y,S2,h1,h2,h3⟩:=GY h0;refine fS er so h1 h2 λa b H2 A2 e2 o2 r1 r2=>#[A2,S2,x,y,_,_,o2,r1,r2,h3,λv H' #[A',z1,z2,z3]=>?_]
   cases z3;exact#[k,rfl,hq _ _ #[rfl,A',e2.trans z1,z2]]
  ·cases e
abbrev fT (o o':COp)(fa fb fc:FE):FE:=λZ S=>match fa Z S with
 | some (x,S1)=>match fb Z S1 with
  | some (y,S2)=>match ud o x y S2 with
   | some true=>match fc Z S2 with
    | some (z,S3)=>dC o' y z S3
    | none=>td
   | some false=>gV (.bl false,S2)
   | none=>td
  | none=>td
 | none=>td
def kF {o o':COp}{fa fb fc:FE}{Y:L2.St}{H:Hp}{A:Ja Jn}{Z:Fm}{S:aa}{w:W}{S':aa}(er:EnvRel X.K A H Z Y)(so:StoreOk X.w X.K A H S)(e:fT o o' fa fb fc Z S=gV (w,S'))(Q:VK)(hq:∀v H',EndV X.w X.K A H S' w v H'->Q v H') :
  qr (λa b H Q=>∃A S x y w S',StoreOk X.w X.K A H S/\Rel X.K A H x a/\Rel X.K A H y b/\dC o x y S=gV (w,S')/\∀v H',EndV X.w X.K A H S' w v H'->Q v H')
   (λa b H Q=>∃A S x y w S',StoreOk X.w X.K A H S/\Rel X.K A H x a/\Rel X.K A H y b/\dC o' x y S=gV (w,S')/\∀v H',EndV X.w X.K A H S' w v H'->Q v H') (tE X fa) (tE X fb) (tE X fc) Y H Q:=by
 unfold fT at e;split at e
 ·rename_i x S1 h1;split at e
  ·rename_i y S2 h2;refine fS er so h1 h2 λa b H2 A2 e2 o2 r1 r2=>?_
   split at e
   ·rename_i hc;split at e
    ·rename_i z S3 h3;refine#[A2,S2,x,y,.bl true,S2,o2,r1,r2,by simp[dC,hc],λv H3 #[A3,z1,z2,z3]=>?_]
     cases z3;refine#[true,rfl,?_];rw[JK rfl];refine#[A3,Z,S2,z,S3,er.mono (e2.trans z1),z2,h3,λc H4 #[A4,y1,y2,y3]=>?_]
     exact#[A4,S3,y,z,w,S',y2,(r2.mono z1).mono y1,y3,e,λv H' q=>hq v H' (q.after ((e2.trans z1).trans y1))]
    ·cases e
   ·rename_i hc;cases e;refine#[A2,S',x,y,.bl false,S',o2,r1,r2,by simp[dC,hc],λv H3 #[A3,z1,z2,z3]=>?_]
    cases z3;refine#[false,rfl,?_];rw[JU JF];exact hq _ _ #[A3,e2.trans z1,z2,.bl]
   ·cases e
  ·cases e
 ·cases e
def wI {a b c:JM}{o o':COp}{pos:LJ}{fa fb fc:FE}(hu:X.A.units+fP < cLine)(ha:GE X a fa)(hb:GE X b fb)(hc:GE X c fc)(hm:lastMarks [o.py,o'.py] [b,c]=false):GE X (.Compare a [o.py,o'.py] [b,c] pos) (fT o o' fa fb fc):=
 GE.of (vM (iy hu o).opr (iy hu o').opr ha hb hc hm) λY H A Z S w S' er so e Q hq=>kF er so e Q hq
def wJ {a b c:JM}{o o':COp}{pos:LJ}{fa fb fc:FE}(hu:X.A.units+fP < cLine)(ha:GE X a fa)(hb:GE X b fb)(hc:GE X c fc)(hm:lastMarks [o.py,o'.py] [b,c]=false):GT X (.Compare a [o.py,o'.py] [b,c] pos) (pc (fT o o' fa fb fc)):=
 GT.of (vN (iy hu o).opr (iy hu o').opr ha hb hc hm) λY H A Z S k S' er so e Q hq=>by
  unfold pc at e;split at e
  ·rename_i k' S'' h0;cases e;refine kF er so h0 (λx H'=>∃k,x=.bl k/\Q k H') λv H' #[A',z1,z2,z3]=>?_
   cases z3;exact#[_,rfl,hq _ _ #[rfl,A',z1,z2]]
  ·cases e
abbrev gM (f:FE):FT:=λZ S=>match f Z S with
 | some (w,S')=>(cU S' w).map λk=>(k,S')
 | none=>td
def cJ {e:JM}{f:FE}(h:GE X e f)(he:∀whole,isTrue e X.env whole=(do let v <- whole; standAt e.pos; holding [v] (truthy v))):GT X e (gM f):=by
 intro J s Y H Q I ⟨A,Z,S,k,S',er,so,e1,hq⟩;unfold gM at e1;split at e1
 ·rename_i w S1 h1;rw[Jf]at e1;obtain⟨k',ek,e2⟩:=e1;cases e2;refine isTrue_plain (bj (h J s Y H (EndV X.w X.K A H _ w) I #[A,Z,S,w,_,er,so,h1,λ_ _ z=>z]) λv s1 #[x,H1,I1,r1,A1,e1,o1,z1]=>?_) (he _)
  exact HA I1 o1 z1 r1 ek λs' I'=>#[H1,I',hq _ _ #[rfl,A1,e1,o1]]
 ·cases e1
abbrev wK (f g:FT):FT:=λZ S=>match f Z S with
 | some (true,S1)=>g Z S1
 | some (false,S1)=>gV (false,S1)
 | none=>td
abbrev Fh (f g:FT):FT:=λZ S=>match f Z S with
 | some (true,S1)=>gV (true,S1)
 | some (false,S1)=>g Z S1
 | none=>td
abbrev Aq (f:FT):FT:=λZ S=>match f Z S with
 | some (k,S1)=>gV (!k,S1)
 | none=>td
def wL {f g:FT}{Y:L2.St}{H:Hp}{A:Ja Jn}{Z:Fm}{S:aa}{k:JL}{S':aa}(er:EnvRel X.K A H Z Y)(so:StoreOk X.w X.K A H S)(e:wK f g Z S=gV (k,S'))(Q:JL->Hp->Prop)(hq:∀b H',EndB X A H S' k b H'->Q b H') :
  EJ (tT X f) (tT X g) Y H Q:=by
 unfold wK at e;split at e
 ·rename_i S1 h1;refine#[A,Z,S,true,S1,er,so,h1,λb H1 #[z0,A1,z1,z2]=>?_]
  subst z0;rw[JK rfl];exact#[A1,Z,S1,k,S',er.mono z1,z2,e,λb H' q=>hq b H' (q.after z1)]
 ·rename_i S1 h1;cases e;refine#[A,Z,S,false,_,er,so,h1,λb H1 #[z0,A1,z1,z2]=>?_]
  subst z0;rw[JU JF];exact hq _ _ #[rfl,A1,z1,z2]
 ·cases e
def Ar {f g:FT}{Y:L2.St}{H:Hp}{A:Ja Jn}{Z:Fm}{S:aa}{k:JL}{S':aa}(er:EnvRel X.K A H Z Y)(so:StoreOk X.w X.K A H S)(e:Fh f g Z S=gV (k,S'))(Q:JL->Hp->Prop)(hq:∀b H',EndB X A H S' k b H'->Q b H') :
  Iq (tT X f) (tT X g) Y H Q:=by
 unfold Fh at e;split at e
 ·rename_i S1 h1;cases e;refine#[A,Z,S,true,_,er,so,h1,λb H1 #[z0,A1,z1,z2]=>?_]
  subst z0;rw[JK rfl];exact hq _ _ #[rfl,A1,z1,z2]
 ·rename_i S1 h1;refine#[A,Z,S,false,S1,er,so,h1,λb H1 #[z0,A1,z1,z2]=>?_]
  subst z0;rw[JU JF];exact#[A1,Z,S1,k,S',er.mono z1,z2,e,λb H' q=>hq b H' (q.after z1)]
 ·cases e
def As {a:JM}{pos:LJ}{f:FT}(h:GT X a f):GW X (.BoolOp .And [a] pos) f:=zC h
def Dj {a:JM}{pos:LJ}{f:FT}(h:GT X a f):GW X (.BoolOp .Or [a] pos) f:=Cv h
def Dk {a b:JM}{r:Ja JM}{pos:LJ}{f g:FT}(h:GT X a f)(h2:GW X (.BoolOp .And (b::r) pos) g):GW X (.BoolOp .And (a::b::r) pos) (wK f g):=
 GW.of (Cw h h2) λY H A Z S k S' er so e Q hq=>wL er so e Q hq
def Fi {a b:JM}{r:Ja JM}{pos:LJ}{f g:FT}(h:GT X a f)(h2:GW X (.BoolOp .Or (b::r) pos) g):GW X (.BoolOp .Or (a::b::r) pos) (Fh f g):=
 GW.of (EK h h2) λY H A Z S k S' er so e Q hq=>Ar er so e Q hq
def Dl {a:JM}{pos:LJ}{f:FT}(h:GT X a f):GT X (.UnaryOp .Not a pos) (Aq f):=
 GT.of (Cy h) λY H A Z S k S' er so e Q hq=>by
  unfold Aq at e;split at e
  ·rename_i k1 S1 h1;cases e;refine#[A,Z,S,k1,_,er,so,h1,λb H1 #[z0,A1,z1,z2]=>?_]
   subst z0;exact hq _ _ #[rfl,A1,z1,z2]
  ·cases e
abbrev sA (f g:FE):FE:=λZ S=>match f Z S with
 | some (.bl true,S1)=>g Z S1
 | some (.bl false,S1)=>gV (.bl false,S1)
 | _=>td
abbrev At (f g:FE):FE:=λZ S=>match f Z S with
 | some (.bl true,S1)=>gV (.bl true,S1)
 | some (.bl false,S1)=>g Z S1
 | _=>td
abbrev sB (f:FE):FE:=λZ S=>match f Z S with
 | some (.bl k,S1)=>gV (.bl (!k),S1)
 | _=>td
def Dm {a:JM}{op:RM}{pos:LJ}{f:FE}(h:GE X a f):GE X (.BoolOp op [a] pos) f:=Cz h
def Dn {a b:JM}{r:Ja JM}{pos:LJ}{f g:FE}(h:GE X a f)(h2:GE X (.BoolOp .And (b::r) pos) g):GE X (.BoolOp .And (a::b::r) pos) (sA f g):=
 GE.of (CA h h2) λY H A Z S w S' er so e Q hq=>by
  unfold sA at e;split at e
  ·rename_i S1 h1;refine#[A,Z,S,_,S1,er,so,h1,λv H1 #[A1,z1,z2,z3]=>?_]
   cases z3;refine#[true,rfl,?_];rw[JK rfl];exact#[A1,Z,S1,w,S',er.mono z1,z2,e,λb H' q=>hq b H' (q.after z1)]
  ·rename_i S1 h1;cases e;refine#[A,Z,S,_,_,er,so,h1,λv H1 #[A1,z1,z2,z3]=>?_]
   cases z3;refine#[false,rfl,?_];rw[JU JF];exact hq _ _ #[A1,z1,z2,.bl]
  ·cases e
def Fj {a b:JM}{r:Ja JM}{pos:LJ}{f g:FE}(h:GE X a f)(h2:GE X (.BoolOp .Or (b::r) pos) g):GE X (.BoolOp .Or (a::b::r) pos) (At f g):=
 GE.of (EO h h2) λY H A Z S w S' er so e Q hq=>by
  unfold At at e;split at e
  ·rename_i S1 h1;cases e;refine#[A,Z,S,_,_,er,so,h1,λv H1 #[A1,z1,z2,z3]=>?_]
   cases z3;refine#[true,rfl,?_];rw[JK rfl];exact hq _ _ #[A1,z1,z2,.bl]
  ·rename_i S1 h1;refine#[A,Z,S,_,S1,er,so,h1,λv H1 #[A1,z1,z2,z3]=>?_]
   cases z3;refine#[false,rfl,?_];rw[JU JF];exact#[A1,Z,S1,w,S',er.mono z1,z2,e,λb H' q=>hq b H' (q.after z1)]
  ·cases e
def Do {a:JM}{pos:LJ}{f:FE}(h:GE X a f):GE X (.UnaryOp .Not a pos) (sB f):=
 GE.of (CB h) λY H A Z S w S' er so e Q hq=>by
  unfold sB at e;split at e
  ·rename_i k1 S1 h1;cases e;refine#[A,Z,S,_,_,er,so,h1,λb H1 #[A1,z1,z2,z3]=>?_]
   cases z3;exact#[_,rfl,hq _ _ #[A1,z1,z2,.bl]]
  ·cases e
abbrev Au (c:FT)(f g:FE):FE:=λZ S=>match c Z S with
 | some (true,S1)=>f Z S1
 | some (false,S1)=>g Z S1
 | none=>td
def Dp {c a b:JM}{pos:LJ}{fc:FT}{f g:FE}(hc:GT X c fc)(ha:GE X a f)(hb:GE X b g):GE X (.IfExp c a b pos) (Au fc f g):=
 GE.of (vG hc ha hb) λY H A Z S w S' er so e Q hq=>by
  unfold Au at e;split at e
  ·rename_i S1 h1;refine#[A,Z,S,_,S1,er,so,h1,λb H1 #[z0,A1,z1,z2]=>?_]
   subst z0;rw[JK rfl];exact#[A1,Z,S1,w,S',er.mono z1,z2,e,λb H' q=>hq b H' (q.after z1)]
  ·rename_i S1 h1;refine#[A,Z,S,_,S1,er,so,h1,λb H1 #[z0,A1,z1,z2]=>?_]
   subst z0;rw[JU JF];exact#[A1,Z,S1,w,S',er.mono z1,z2,e,λb H' q=>hq b H' (q.after z1)]
  ·cases e
abbrev iG:FA:=λ_ S=>gV ([],S)
abbrev dG (f:FE)(g:FA):FA:=λZ S=>match f Z S with
 | some (w,S1)=>match g Z S1 with
  | some (ws,S2)=>gV (w::ws,S2)
  | none=>td
 | none=>td
def Dq:GA X [] iG:=GA.of qv λY H A Z S ws S' er so e Q hq=>by cases e; exact hq _ _ #[A,.refl,so,.nil]
def Av {e:JM}{es:Ja JM}{f:FE}{g:FA}(h:GE X e f)(h2:GA X es g)(hs:starEach (e::es) X.env=(false,eval e X.env)::starEach es X.env):GA X (e::es) (dG f g):=
 GA.of (ik h h2 hs) λY H A Z S ws S' er so e Q hq=>by
  unfold dG at e;split at e
  ·rename_i w S1 h1;split at e
   ·rename_i ws2 S2 h2;cases e;refine#[A,Z,S,w,S1,er,so,h1,λv H1 #[A1,z1,z2,z3]=>?_]
    refine#[A1,Z,S1,ws2,_,er.mono z1,z2,h2,λvs H2 #[A2,y1,y2,y3]=>?_]
    exact hq _ _ #[A2,z1.trans y1,y2,.cons (z3.mono y1) y3]
   ·cases e
  ·cases e
abbrev wM (f:FA):FE:=λZ S=>match f Z S with
 | some (ws,S1)=>qB S1 ws
 | none=>td
abbrev wQ (f:FA):FE:=λZ S=>match f Z S with
 | some (ws,S1)=>lO S1 ws
 | none=>td
def wR {es:Ja JM}{k:Jg}{pos:LJ}{f:FA}(h:GA X es f):GE X (.Tuple es k pos) (wM f):=
 GE.of (C0 h) λY H A Z S w S' er so e Q hq=>by
  unfold wM at e;split at e
  ·rename_i ws S1 h1;obtain⟨hl,rfl,rfl⟩:=r0 e;refine#[A,Z,S,ws,_,er,so,h1,λvs H1 #[A1,z1,z2,z3]=>#[by rw[<- z3.length]; exact hl,λp hp=>?_]]
   exact hq _ _ (EndV.after z1 (.tup z2 z3 hp))
  ·cases e
def wW {es:Ja JM}{pos:LJ}{f:FA}(h:GA X es f):GE X (.List es pos) (wQ f):=
 GE.of (C3 h) λY H A Z S w S' er so e Q hq=>by
  unfold wQ at e;split at e
  ·rename_i ws S1 h1;obtain⟨hl,rfl,rfl⟩:=jT e;refine#[A,Z,S,ws,_,er,so,h1,λvs H1 #[A1,z1,z2,z3]=>#[by rw[<- z3.length]; exact hl,λp hp=>?_]]
   exact hq _ _ (EndV.after z1 (.lst z2 z3 hp))
  ·cases e
abbrev jD (g:Ja W->aa->Ji (W×aa))(f:FA):FE:=λZ S=>match f Z S with
 | some (ws,S1)=>g ws S1
 | none=>td
def LCall.callr {v:Jd}{g:Ja W->aa->Ji (W×aa)}(h:LCall X v g):CallR X v (λvs H Q=>∃A S ws w S',StoreOk X.w X.K A H S/\RelL X.K A H ws vs/\g ws S=gV (w,S')/\∀v H',EndV X.w X.K A H S' w v H'->Q v H'):=by
 intro J s Y H vs us Q I rv ⟨A,S,ws,w,S',so,rl,e,hq⟩;exact bj (h J s Y H A S ws vs us w S' I so rl rv e) λu' s' #[v',H',A',I',r',e1,o1,z1]=>#[v',H',I',r',hq v' H' #[A',e1,o1,z1]]
def mC {g:Ja W->aa->Ji (W×aa)}{f:FA}{Y:L2.St}{H:Hp}{A:Ja Jn}{Z:Fm}{S:aa}{w:W}{S':aa}(er:EnvRel X.K A H Z Y)(so:StoreOk X.w X.K A H S)(e:jD g f Z S=gV (w,S'))(Q:VK)(hq:∀v H',EndV X.w X.K A H S' w v H'->Q v H') :
  tA X f Y H λvs H1=>∃A S ws w S',StoreOk X.w X.K A H1 S/\RelL X.K A H1 ws vs/\g ws S=gV (w,S')/\∀v H',EndV X.w X.K A H1 S' w v H'->Q v H':=by
 unfold jD at e;split at e
 ·rename_i ws S1 h1;exact#[A,Z,S,ws,S1,er,so,h1,λvs H1 #[A1,z1,z2,z3]=>#[A1,S1,ws,w,S',z2,z3,e,λv H' q=>hq v H' (q.after z1)]]
 ·cases e
def wX {id:KL}{x:JG}{e:JM}{es:Ja JM}{p pos:LJ}{f:FA}{g:Ja W->aa->Ji (W×aa)}(hc:LCall X (.builtin id) g)(hg:Gl X x)(hm:X.mg x=td)(hv:bootBuiltins x=gV (.builtin id))(ha:GA X (e::es) f)
  (hn:x≠"__name__") (hdb:(x==("__debug__" : JG))=false) (hs:starEach (e::es) X.env=(false,eval e X.env)::starEach es X.env) (hpl:(backTo pos (starEach es X.env)).any (·.1)=false):GE X (.Call (.Name x p) (e::es) [] pos) (jD g f):=
 GE.of (oI hc.callr hg hm hv ha hn hdb hs hpl) λY H A Z S w S' er so e Q hq=>mC er so e Q hq
def sC {id:KL}{x:JG}{e:JM}{es:Ja JM}{p pos:LJ}{f:FA}{g:Ja W->aa->Ji (W×aa)}(hc:LCall X (.type id) g)(hg:Gl X x)(hm:X.mg x=td)(hv:bootBuiltins x=gV (.type id))(ha:GA X (e::es) f)
  (hn:x≠"__name__") (hdb:(x==("__debug__" : JG))=false) (hs:starEach (e::es) X.env=(false,eval e X.env)::starEach es X.env) (hpl:(backTo pos (starEach es X.env)).any (·.1)=false):GE X (.Call (.Name x p) (e::es) [] pos) (jD g f):=
 GE.of (tX hc.callr hg hm hv ha hn hdb hs hpl) λY H A Z S w S' er so e Q hq=>mC er so e Q hq
end
abbrev tyOk (T:KL)(S:aa):W->JL
 | .str _=>T == "str"
 | .tup _=>T == "tuple"
 | .ref i=>(T == "list" && (iq S i).isSome)||(T == "dict" && (jO S i).isSome)
 | _=>false
abbrev Ez (T:KL)(g:W->Ja W->aa->Ji (W×aa))(fo:FE)(f:FA):FE:=λZ S=>match fo Z S with
 | some (x,S1)=>if tyOk T S1 x then match f Z S1 with
  | some (ws,S2)=>g x ws S2
  | none=>td
  else td
 | none=>td
abbrev HD (fa fb:FE):FE:=Ao jP fa fb
noncomputable abbrev FO:=Fm->aa->Ji (Ji Jk×aa)
abbrev Dr:FO:=λ_ S=>gV (td,S)
abbrev sD (f:FE):FO:=λZ S=>match f Z S with
 | some (.int i,S1)=>gV (gV i,S1)
 | _=>td
abbrev Fk (fa:FE)(fl fh:FO):FE:=λZ S=>match fa Z S with
 | some (x,S1)=>match fl Z S1 with
  | some (lo,S2)=>match fh Z S2 with
   | some (hi,S3)=>lP x lo hi S3
   | none=>td
  | none=>td
 | none=>td
section
variable{X:Cx}
def Ds {J:Ja (Jn×KZ)}{Y:L2.St}{s:Jh}{H:Hp}{a:Jn}{xs:Ja V}(I:Inv X J Y H s)(h:SqT X.K H a xs):s.TypeIs (.ref a) "tuple"/\∃o,s.heap.get? a=gV o/\o.dict=td:=by
 rcases h with h|⟨o,its,n,hk,hc,hd,_⟩
 ·obtain⟨z,its,r,p⟩:=h.ok I.hok;exact#[p.typeIs,z.2]
 ·exact#[#[o,I.kIn a o hk,hc],o,I.kIn a o hk,hd]
def tyOk.is {J:Ja (Jn×KZ)}{Y:L2.St}{s:Jh}{A:Ja Jn}{H:Hp}{S:aa}{T:KL}{x:W}{a:V}{v:Jd}(I:Inv X J Y H s)(so:StoreOk X.w X.K A H S)(r:Rel X.K A H x a)(rv:RelV a v)(h:tyOk T S x=true) :
  s.TypeIs v T/\∀b,v=.ref b->∃ob,s.heap.get? b=gV ob/\ob.dict=td:=by
 cases r with
 | str=>exact vT I rv (show Hw X.K T (.str _) H from eq_of_beq h)
 | tup hq r1=>
  obtain⟨h1,h2⟩:=Ds I hq;have e:=eq_of_beq (show(T == "tuple")=true from h)
  subst e;obtain rfl:v=Kj _:=rv;exact#[h1,λb e=>by cases e; exact h2]
 | ref ea=>
  simp only[tyOk,K7,Jj]at h;rcases h with⟨h1,h2⟩|⟨h1,h2⟩
  ·obtain⟨xs,hx⟩:=Kn.mp h2;obtain⟨vs,h3,_⟩:=cY so hx ea;exact vT I rv (show Hw X.K T (.ref _) H from .inl #[eq_of_beq h1,vs,h3])
  ·obtain⟨U,hx⟩:=Kn.mp h2;obtain⟨xs,rd,_⟩:=fQ so hx ea;obtain⟨_,_,_,o,es,ep,q1,q2,q3,q4⟩:=cF I rd;have e:=eq_of_beq h1;subst e;obtain rfl:v=Kj _:=rv;exact#[#[o,q1,q2.1],λb e=>by cases e; exact#[o,q1,q2.2.1]]
 | _=>cases h
def pd {o e:JM}{es:Ja JM}{name:JG}{apos cpos:LJ}{T id:KL}{g:W->Ja W->aa->Ji (W×aa)}{fo:FE}{f:FA}(pa:PlainAttrs T)(slot:Slot T name id)(hty:typeOf (.builtin id)=pure (.type "method_descriptor"))(hm:mo X id g)
  (ho:GE X o fo) (ha:GA X (e::es) f) (hbase:attributeBase o name X.env (eval o X.env)=eval o X.env)
  (hfew:((backTo cpos (starEach (e::es) X.env)).all (λx=>!x.1)&&(backToKw cpos (keywordEach [] X.env)).all (λx=>x.1.isSome)
   && decide ((e::es).length+([]:Ja Qn).length+(if ([]:Ja Qn).isEmpty then 0 else 1) < 30))=true)
  (hline:(apos.endLine==cpos.line)=true) (hs:starEach (e::es) X.env=(false,eval e X.env)::starEach es X.env) (hplain:(backTo cpos (starEach es X.env)).any (·.1)=false) :
  GE X (.Call (.Attribute o name apos) (e::es) [] cpos) (Ez T g fo f):=by
 intro J s Y H Q I ⟨A,Z,S,w,S',er,so,e,hq⟩;unfold Ez at e;split at e
 ·rename_i x S1 h1;split at e
  ·rename_i ht;split at e
   ·rename_i ws S2 h2;refine wpAny_Call_method_late hbase hfew hline rfl (bj (ho J s Y H (EndV X.w X.K A H S1 x) I #[A,Z,S,_,_,er,so,h1,λ_ _ z=>z]) λv s1 #[a,H1,I1,r1,A1,e1,o1,z1]=>?_)
    obtain⟨t1,t2⟩:=tyOk.is I1 o1 z1 r1 ht;refine#[T,id,pa,slot,hty,t1,t2,?_];have hA:=ha cpos J s1 Y H1 (Dg X A1 H1 S2 ws) I1 #[A1,Z,S1,ws,S2,er.mono e1,o1,h2,λ_ _ z=>z]
    rw[hs]at hA ⊢;refine Calls.callWith_builtin (by show(false||(backTo cpos (starEach es X.env)).any (·.1))=false; rw[hplain] <;> rfl) (Calls.evalArgs_plain ?_)
    refine bj hA λus s2 #[vs,H2,I2,r2,A2,e2,o2,z2]=>?_
    refine bj (hm J s2 Y H2 A2 S2 x a v ws vs us w S' I2 o2 (z1.mono e2) r1 z2 r2 e) λu' s' #[v',H',A',I',r',e3,o3,z3]=>?_
    exact#[v',H',I',r',hq v' H' #[A',(e1.trans e2).trans e3,o3,z3]]
   ·cases e
  ·cases e
 ·cases e
def LIx.ixr {g:W->W->aa->Ji (W×aa)}(h:LIx X g):IxR X (λa b H Q=>∃A S x y w S',StoreOk X.w X.K A H S/\Rel X.K A H x a/\Rel X.K A H y b/\g x y S=gV (w,S')/\∀v H',EndV X.w X.K A H S' w v H'->Q v H'):=by
 intro value slice J s Y H a b u v Q I ru rv ⟨A,S,x,y,w,S',so,rx,ry,e,hq⟩ hs;exact bj (h value slice J s Y H A S x y a b u v w S' I so rx ru ry rv e hs) λu' s' #[v',H',A',I',r',e1,o1,z1]=>#[v',H',I',r',hq v' H' #[A',e1,o1,z1]]
def Fn {a b:JM}{pos:LJ}{fa fb:FE}(hu:X.A.units+10 < cLine)(ha:GE X a fa)(hb:GE X b fb)(hs:gz b):GE X (.Subscript a b pos) (HD fa fb):=
 GE.of (E8 (HB hu).ixr ha hb hs) λY H A Z S w S' er so e Q hq=>by
  obtain⟨x,S1,y,S2,h1,h2,h3⟩:=GY e;exact fS er so h1 h2 λa b H2 A2 e2 o2 r1 r2=>#[A2,S2,x,y,w,S',o2,r1,r2,h3,λv H' z=>hq v H' (z.after e2)]
abbrev tO (X:Cx)(f:FO):TO:=λY H Q=>∃A Z S k S',EnvRel X.K A H Z Y/\StoreOk X.w X.K A H S/\f Z S=gV (k,S')/\∀H' A',Ext X.K A H A' H'->StoreOk X.w X.K A' H' S'->Q k H'
noncomputable abbrev GO (X:Cx)(e:Ji JM)(f:FO):Prop:=PO X e (tO X f)
def Aw:GO X td Dr:=λJ s Y H Q I #[A,Z,S,k,S',er,so,e,hq]=>by
 cases e;exact zP J s Y H Q I (hq H A .refl so)
def Ax {e:JM}{f:FE}(h:GE X e f):GO X (gV e) (sD f):=λJ s Y H Q I #[A,Z,S,k,S',er,so,e,hq]=>by
 unfold sD at e;split at e
 ·rename_i i S1 h1;cases e;refine zQ h J s Y H Q I #[A,Z,S,_,_,er,so,h1,λv H1 #[A1,z1,z2,z3]=>?_]
  cases z3;exact#[i,rfl,hq H1 A1 z1 z2]
 ·cases e
def LSl.slr {g:W->Ji Jk->Ji Jk->aa->Ji (W×aa)}(h:LSl X g):E7 X (λa lo hi H Q=>∃A S x w S',StoreOk X.w X.K A H S/\Rel X.K A H x a/\g x lo hi S=gV (w,S')/\∀v H',EndV X.w X.K A H S' w v H'->Q v H'):=by
 intro J s Y H a v vl vu lo hi sl Q I rv hs pl pu ⟨A,S,x,w,S',so,rx,e,hq⟩;obtain⟨T,id,h1,h2,h3⟩:=h J s Y H A S x a v vl vu lo hi sl w S' I so rx rv hs pl pu e;exact#[T,id,h1,h2,bj h3 λu' s' #[v',H',A',I',r',e1,o1,z1]=>#[v',H',I',r',hq v' H' #[A',e1,o1,z1]]]
def Fo {a:JM}{lo hi:Ji JM}{p2 pos:LJ}{fa:FE}{fl fh:FO}(ha:GE X a fa)(hl:GO X lo fl)(hh:GO X hi fh):GE X (.Subscript a (.Slice lo hi td p2) pos) (Fk fa fl fh):=
 GE.of (vR II.slr ha hl hh) λY H A Z S w S' er so e Q hq=>by
  unfold Fk at e;split at e
  ·rename_i x S1 h1;split at e
   ·rename_i l S2 h2;split at e
    ·rename_i h S3 h3;refine#[A,Z,S,x,S1,er,so,h1,λv H1 #[A1,z1,z2,z3]=>?_]
     refine#[A1,Z,S1,l,S2,er.mono z1,z2,h2,λH2 A2 y1 y2=>?_]
     refine#[A2,Z,S2,h,S3,er.mono (z1.trans y1),y2,h3,λH3 A3 x1 x2=>?_]
     exact#[A3,S3,x,w,S',x2,(z3.mono y1).mono x1,e,λv H' q=>hq v H' (q.after ((z1.trans y1).trans x1))]
    ·cases e
   ·cases e
  ·cases e
noncomputable abbrev FF:=Ja W->aa->Ji (W×aa)
abbrev uC (wd:Kc)(K:Jx)(n:Jg)(g:FF):Sp:=λvs H Q _=>∃A S ws w S',StoreOk wd K A H S/\RelL K A H ws vs/\ws.length=n/\g ws S=gV (w,S')/\∀v H',EndV wd K A H S' w v H'->Q v H'
abbrev lS (n:Jg)(g:FF)(f:FA):FE:=λZ S=>match f Z S with
 | some (ws,S1)=>if ws.length=n then g ws S1 else td
 | none=>td
def iH {n:Jg}{g:FF}{f:FA}{Y:L2.St}{H:Hp}{A:Ja Jn}{Z:Fm}{S:aa}{w:W}{S':aa}{E:XK}(er:EnvRel X.K A H Z Y)(so:StoreOk X.w X.K A H S)(e:lS n g f Z S=gV (w,S'))(Q:VK)(hq:∀v H',EndV X.w X.K A H S' w v H'->Q v H') :
  oG (uC X.w X.K n g) [] E (tA X f) Y H Q:=by
 unfold lS at e;split at e
 ·rename_i ws S1 h1;split at e
  ·rename_i hl;refine#[A,Z,S,ws,S1,er,so,h1,λvs H1 #[A1,z1,z2,z3]=>?_]
   show uC X.w X.K n g (vs++[]) H1 Q E;rw[Ky];exact#[A1,S1,ws,w,S',z2,z3,hl,e,λv H' q=>hq v H' (q.after z1)]
  ·cases e
 ·cases e
def Dt {k n:Jg}{fa:Jn}{fd:Lr}{ps:Ja JG}{g:FF}{x:JG}{e:JM}{es:Ja JM}{p pos:LJ}{f:FA}(F:FnOk X.prog X.w X.K X.mg X.base rX k fa fd ps (uC X.w X.K n g))(hr:Room k X.A)(hg:Gl X x)(hm:X.mg x=gV (.ref fa))(hk:Kv X.K (.ref fa)=true)
  (hb:Binds X.K fd ps []) (ha:GA X (e::es) f) (hdb:(x==("__debug__" : JG))=false) (he:starEach (e::es) X.env=(false,eval e X.env)::starEach es X.env) (hpl:(backTo pos (starEach es X.env)).any (·.1)=false) :
  GE X (.Call (.Name x p) (e::es) [] pos) (lS n g f):=
 GE.of (zM F hr hg hm hk hb .nil rY ha hdb he hpl) λY H A Z S w S' er so e Q hq=>iH er so e Q hq
def Ay {k n:Jg}{fa:Jn}{fd:Lr}{ps:Ja JG}{g:FF}{x:JG}{p pos:LJ}(F:FnOk X.prog X.w X.K X.mg X.base rX k fa fd ps (uC X.w X.K n g))(hr:Room k X.A)(hg:Gl X x)(hm:X.mg x=gV (.ref fa))(hk:Kv X.K (.ref fa)=true)
  (hb:Binds X.K fd ps []) (hdb:(x==("__debug__" : JG))=false):GE X (.Call (.Name x p) [] [] pos) (lS n g iG):=
 GE.of (vP F hr hg hm hk hb .nil rY hdb) λY H A Z S w S' er so e Q hq=>by
  obtain⟨A1,S1,ws,w1,S1',a1,a2,a3,a4,a5⟩:=iH (f:=iG) (E:=E0) er so e Q hq |> λ#[A,Z,S,ws,S',b1,b2,b3,b4]=>b4 [] H (by cases b3; exact#[A,.refl,b2,.nil])
  exact#[A1,S1,ws,w1,S1',a1,a2,a3,a4,a5]
def Az:GSs X [] (λZ S=>gV (.nx Z,S)):=GSs.of zD λY H A Z S o S' er so e D hd=>by cases e; exact hd.nx _ _ #[Z,A,rfl,.refl,so,er]
abbrev AA (f g:FS):FS:=λZ S=>match f Z S with
 | some (.nx Z',S1)=>g Z' S1
 | some (.rt w,S1)=>gV (.rt w,S1)
 | some (.bk Z',S1)=>gV (.bk Z',S1)
 | some (.ct Z',S1)=>gV (.ct Z',S1)
 | none=>td
def wY {st:L4}{sts:Ja L4}{f g:FS}(h:GS X st f)(h2:GSs X sts g):GSs X (st::sts) (AA f g):=GSs.of (vI h h2) λY H A Z S o S' er so e D hd=>by
 unfold AA at e;split at e
 ·rename_i Z1 S1 h1;refine#[A,Z,S,_,_,er,so,h1,#[λY' H' #[Z',A',e1,e2,e3,e4]=>?_,λv H' #[w,A',e1,_]=>(by cases e1),λv H' #[w,A',e1,_]=>(by cases e1),λv H' #[w,A',e1,_]=>(by cases e1)]]
  cases e1;exact#[A',_,S1,o,S',e4,e3,e,(EndS.after e2).trans hd]
 ·rename_i w S1 h1;cases e;exact#[A,Z,S,_,_,er,so,h1,#[λY' H' #[w,A',e1,_]=>(by cases e1),hd.rt,hd.bk,hd.ct]]
 ·rename_i w S1 h1;cases e;exact#[A,Z,S,_,_,er,so,h1,#[λY' H' #[w,A',e1,_]=>(by cases e1),hd.rt,hd.bk,hd.ct]]
 ·rename_i w S1 h1;cases e;exact#[A,Z,S,_,_,er,so,h1,#[λY' H' #[w,A',e1,_]=>(by cases e1),hd.rt,hd.bk,hd.ct]]
 ·cases e
abbrev AB (f:FE):FS:=λZ S=>match f Z S with
 | some (_,S1)=>gV (.nx Z,S1)
 | none=>td
def Fp {e:JM}{pos:LJ}{f:FE}(h:GE X e f)(hs:swapsWith e td pos.line X.env=pure false):GS X (.Expr e pos) (AB f):=GS.of (zF h hs) λY H A Z S o S' er so e D hd=>by
 unfold AB at e;split at e
 ·rename_i w S1 h1;cases e;exact#[A,Z,S,w,_,er,so,h1,λv H1 #[A1,z1,z2,z3]=>hd.nx _ _ #[Z,A1,rfl,z1,z2,er.mono z1]]
 ·cases e
abbrev w8:FS:=λZ S=>gV (.nx Z,S)
def Du {x:JG}{j:Jg}{pos pos':LJ}:GS X (.Expr (.Constant (.str x) j pos) pos') w8:=GS.of CC λY H A Z S o S' er so e D hd=>by cases e; exact hd.nx _ _ #[Z,A,rfl,.refl,so,er]
def AC {pos:LJ}:GS X (.Pass pos) w8:=GS.of zE λY H A Z S o S' er so e D hd=>by cases e; exact hd.nx _ _ #[Z,A,rfl,.refl,so,er]
abbrev AD (f:FE):FS:=λZ S=>match f Z S with
 | some (w,S1)=>gV (.rt w,S1)
 | none=>td
def Dv {e:JM}{pos:LJ}{f:FE}(h:GE X e f):GS X (.Return (gV e) pos) (AD f):=GS.of (CD h) λY H A Z S o S' er so e D hd=>by
 unfold AD at e;split at e
 ·rename_i w S1 h1;cases e;exact#[A,Z,S,w,_,er,so,h1,λv H1 #[A1,z1,z2,z3]=>hd.rt _ _ #[w,A1,rfl,z1,z2,z3]]
 ·cases e
abbrev AE (c:FT)(f g:FS):FS:=λZ S=>match c Z S with
 | some (true,S1)=>f Z S1
 | some (false,S1)=>g Z S1
 | none=>td
def Fq {c:JM}{a b:Ja L4}{pos:LJ}{fc:FT}{f g:FS}(hc:GT X c fc)(ha:GSs X a f)(hb:GSs X b g):GS X (.If c a b pos) (AE fc f g):=GS.of (ER hc ha hb) λY H A Z S o S' er so e D hd=>by
 unfold AE at e;split at e
 ·rename_i S1 h1;refine#[A,Z,S,_,S1,er,so,h1,λb H1 #[z0,A1,z1,z2]=>?_]
  subst z0;rw[JK rfl];exact#[A1,Z,S1,o,S',er.mono z1,z2,e,(EndS.after z1).trans hd]
 ·rename_i S1 h1;refine#[A,Z,S,_,S1,er,so,h1,λb H1 #[z0,A1,z1,z2]=>?_]
  subst z0;rw[JU JF];exact#[A1,Z,S1,o,S',er.mono z1,z2,e,(EndS.after z1).trans hd]
 ·cases e
noncomputable abbrev FG:=W->Fm->aa->Ji (Fm×aa)
abbrev tG (X:Cx)(f:FG):TG:=λv Y H Q=>∃A Z S w Z' S',EnvRel X.K A H Z Y/\StoreOk X.w X.K A H S/\Rel X.K A H w v/\f w Z S=gV (Z',S')/\∀Y' H' A',Ext X.K A H A' H'->StoreOk X.w X.K A' H' S'->EnvRel X.K A' H' Z' Y'->Q Y' H'
noncomputable abbrev GG (X:Cx)(tg:JM)(f:FG):Prop:=PG X tg (tG X f)
abbrev AF (i:Jg):FG:=λw Z S=>gV (Z.set i (gV w),S)
def sE {i:Jg}{x:JG}{pos:LJ}(hN:X.N.Nodup)(hi:X.N[i]?=gV x)(hx:zA X.env.scope x)(hf:X.fn x=true\/X.env.scope.names.lookup x=gV .local):GG X (.Name x pos) (AF i):=by
 intro J s Y H v u Q I r ⟨A,Z,S,w,Z',S',er,so,rw',e,hq⟩;cases e;exact rQ hN hi hx hf J s Y H v u Q I r (hq _ _ A .refl so (er.set rw' i))
abbrev c7:Ja Jg->Ja W->Fm->Ji Fm
 | [],[],Z=>gV Z
 | i::is,w::ws,Z=>c7 is ws (Z.set i (gV w))
 | _,_,_=>td
abbrev EA (is:Ja Jg):FG:=λw Z S=>match w with
 | .tup ws=>(c7 is ws Z).map λZ'=>(Z',S)
 | _=>td
def uD:∀ {ts:Ja JM} {is:Ja Jg},(∀x∈ts,∃y p,x=.Name y p)->ND (λ(t:JM) (i:Jg)=>∃x p,t=OL x p/\X.N[i]?=gV x/\zA X.env.scope x/\(X.fn x=true\/X.env.scope.names.lookup x=gV .local)) ts is->X.N.Nodup->
  ES X ts (λvs Y H Q=>∃A Z ws Z' S,EnvRel X.K A H Z Y/\StoreOk X.w X.K A H S/\RelL X.K A H ws vs/\c7 is ws Z=gV Z'/\∀Y',EnvRel X.K A H Z' Y'->Q Y' H):=by
 intro ts
 induction ts with
 | nil=>
  intro is _ h hN;cases h;intro J s Y H vs us Q I r ⟨A,Z,ws,Z',S,er,so,rl,e,hq⟩;cases rl with
  | nil=>cases e; exact zG J s Y H [] us Q I r #[rfl,hq _ er]
  | cons _ _=>cases e
 | cons t ts ih=>
  intro is hs h hN;cases h with
  | cons h1 h2=>
   obtain⟨x,p,rfl,hi,hl,hf⟩:=h1;have:=ih (λy hy=>hs y (Ko _ hy)) h2 hN
   intro J s Y H vs us Q I r ⟨A,Z,ws,Z',S,er,so,rl,e,hq⟩;cases rl with
   | nil=>cases e
   | cons r1 r2=>
    refine vJ (rQ hN hi hl hf) this rfl J s Y H _ us Q I r #[_,_,rfl,?_];exact#[A,_,_,Z',S,er.set r1 _,so,r2,e,hq]
def Dw {ts:Ja JM}{is:Ja Jg}{k:Jg}{pos:LJ}(hc:X.calm=true)(hs:∀x∈ts,∃y p,x=.Name y p)(h:ND (λ(t:JM) (i:Jg)=>∃x p,t=OL x p/\X.N[i]?=gV x/\zA X.env.scope x/\(X.fn x=true\/X.env.scope.names.lookup x=gV .local)) ts is)(hN:X.N.Nodup)
  (hn:(assignEach ts X.env).length=ts.length) (hst:(assignEach ts X.env).findIdx? (·.1)=td):GG X (.Tuple ts k pos) (EA is):=by
 intro J s Y H v u Q I r ⟨A,Z,S,w,Z',S',er,so,rw',e,hq⟩;unfold EA at e;split at e
 ·rw[Jf]at e;obtain⟨Z1,e1,e2⟩:=e;cases e2;cases rw' with
  | tup h1 r1=>
   have hl:∀(is:Ja Jg) (ws:Ja W) (Z Z':Fm),c7 is ws Z=gV Z'->is.length=ws.length:=by
    intro is
    induction is with
    | nil=>intro ws Z Z' e; cases ws <;> first|rfl|cases e
    | cons i is ih=>intro ws Z Z' e; cases ws <;> first|cases e|(simp; exact ih _ _ _ e)
   exact CI hc (uD hs h hN) hn hst J s Y H _ u Q I r #[_,_,rfl,h1,by rw[<- r1.length,<- hl _ _ _ _ e1,<- NE h],A,Z,_,_,_,er,so,r1,e1,λY' z=>hq _ _ A .refl so z]
 ·cases e
abbrev AG (fo fi:FE):FG:=λw Z S=>match fo Z S with
 | some (o,S1)=>match fi Z S1 with
  | some (i,S2)=>match iE o i w S2 with
   | some S3=>gV (Z,S3)
   | none=>td
  | none=>td
 | none=>td
def LSet.pset {g:W->W->W->aa->Ji aa}(h:LSet X g):CH X (λao ai av H Q=>∃A S o i w S',StoreOk X.w X.K A H S/\Rel X.K A H o ao/\Rel X.K A H i ai/\Rel X.K A H w av/\g o i w S=gV S'/\∀H' A',Ext X.K A H A' H'->StoreOk X.w X.K A' H' S'->Q H'):=by
 intro J s Y H ao ai av uo ui uv Q I ro ri rv ⟨A,S,o,i,w,S',so,r1,r2,r3,e,hq⟩;exact bj (h J s Y H A S o i w ao ai av uo ui uv S' I so r1 ro r2 ri r3 rv e) λ_ s' #[H',A',I',e1,o1]=>#[H',I',hq H' A' e1 o1]
def Dx {o i:JM}{pos:LJ}{fo fi:FE}(hu:X.A.units+10 < cLine)(ho:GE X o fo)(hi:GE X i fi)(ha:∀v,assign (.Subscript o i pos) X.env v=(do
   let ov <- holding [v] (eval o X.env)
   let iv <- holding [v,ov] (eval i X.env)
   standAt pos
   holding [v,ov,iv] (setItem ov iv v)
   release [v,ov,iv] [])):GG X (.Subscript o i pos) (AG fo fi):=by
 intro J s Y H v u Q I r ⟨A,Z,S,w,Z',S',er,so,rw',e,hq⟩;unfold AG at e;split at e
 ·rename_i o' S1 h1;split at e
  ·rename_i i' S2 h2;split at e
   ·rename_i S3 h3;cases e;refine CJ ho hi (Fe hu).pset ha J s Y H v u Q I r ?_;refine#[A,Z,S,o',S1,er,so,h1,λa H1 #[A1,e1,o1,r1]=>?_]
    refine#[A1,Z,S1,i',S2,er.mono e1,o1,h2,λb H2 #[A2,e2,o2,r2]=>?_]
    exact#[A2,S2,o',i',w,_,o2,r1.mono e2,r2,rw'.mono (e1.trans e2),h3,λH' A' z1 z2=>hq Y H' A' ((e1.trans e2).trans z1) z2 (er.mono ((e1.trans e2).trans z1))]
   ·cases e
  ·cases e
 ·cases e
abbrev kG (f:FE)(g:FG):FS:=λZ S=>match f Z S with
 | some (w,S1)=>match g w Z S1 with
  | some (Z',S2)=>gV (.nx Z',S2)
  | none=>td
 | none=>td
def qM {tg e:JM}{pos:LJ}{f:FE}{g:FG}(h:GE X e f)(hg:GG X tg g)(hs:swapsWithSole [tg] e pos.line X.env=pure false)(hw:swappedStores [tg] e X.env=pure td)(h1:(assignEach [tg] X.env).map (·.2)=[assign tg X.env]) :
  GS X (.Assign [tg] e pos) (kG f g):=GS.of (CK h hg hs hw h1) λY H A Z S o S' er so e D hd=>by
 unfold kG at e;split at e
 ·rename_i w S1 h1;split at e
  ·rename_i Z1 S2 h2;cases e;refine#[A,Z,S,w,S1,er,so,h1,λv H1 #[A1,z1,z2,z3]=>?_]
   exact#[A1,Z,S1,w,Z1,_,er.mono z1,z2,z3,h2,λY' H' A' y1 y2 y3=>hd.nx _ _ #[Z1,A',rfl,z1.trans y1,y2,y3]]
  ·cases e
 ·cases e
abbrev AH (i j:Jg)(f:FA):FS:=λZ S=>match f Z S with
 | some ([x,y],S1)=>gV (.nx ((Z.set i (gV x)).set j (gV y)),S1)
 | _=>td
def Dy {i j:Jg}{x y:JG}{a b:JM}{f:FA}{px py pt pos:LJ}{kt k2:Jg}{pt2:LJ}(hc:X.calm=true)(hN:X.N.Nodup)(hi:X.N[i]?=gV x)(hj:X.N[j]?=gV y)(hij:i≠j)
  (hx:X.env.scope.names.lookup x=gV .local) (hy:X.env.scope.names.lookup y=gV .local) (ha:GA X [a,b] f)
  (hw:swappedStores [.Tuple [.Name x px,.Name y py] kt pt] (.Tuple [a,b] k2 pt2) X.env=pure (gV [x,y]))
  (hs:swapsWithSole [.Tuple [.Name x px,.Name y py] kt pt] (.Tuple [a,b] k2 pt2) pos.line X.env=pure false) :
  GS X (.Assign [.Tuple [.Name x px,.Name y py] kt pt] (.Tuple [a,b] k2 pt2) pos) (AH i j f):=GS.of (CL hc hN hi hj hij hx hy ha hw hs) λY H A Z S o S' er so e D hd=>by
 unfold AH at e;split at e
 ·rename_i x y S1 h1;cases e;refine#[A,Z,S,_,_,er,so,h1,λvs H1 #[A1,z1,z2,z3]=>?_]
  cases z3 with
  | cons r1 t=>
   cases t with
   | cons r2 t=>
    cases t;exact#[_,_,rfl,hd.nx _ _ #[_,A1,rfl,z1,z2,((er.mono z1).set r1 i).set r2 j]]
 ·cases e
abbrev nM (c:FT)(b:FS):Jg->FS
 | 0,_,_=>td
 | n+1,Z,S=>match c Z S with
  | some (true,S1)=>match b Z S1 with
   | some (.nx Z',S2)=>nM c b n Z' S2
   | some (.ct Z',S2)=>nM c b n Z' S2
   | some (.bk Z',S2)=>gV (.nx Z',S2)
   | some (.rt w,S2)=>gV (.rt w,S2)
   | none=>td
  | some (false,S1)=>gV (.nx Z,S1)
  | none=>td
def xf {c:JM}{body:Ja L4}{pos:LJ}{fc:FT}{fb:FS}(n:Jg)(hp:OJ (model X.prog X.w) X.A X.env X.xe)(hc:GT X c fc)(hb:GSs X body fb):GS X (.While c body [] pos) (nM fc fb n):=GS.of (vK hp hc hb) λY H A Z S o S' er so e D hd=>by
 refine#[λm Y1 H1=>∃A1 Z1 S1,Ext X.K A H A1 H1/\EnvRel X.K A1 H1 Z1 Y1/\StoreOk X.w X.K A1 H1 S1/\nM fc fb m Z1 S1=gV (o,S'),#[n,A,Z,S,.refl,er,so,e],?_]
 rintro m Y1 H1 ⟨A1,Z1,S1,e1,er1,so1,w1⟩;cases m with
 | zero=>cases w1
 | succ m=>
  simp only[nM]at w1;split at w1
  ·rename_i S2 h1;refine#[A1,Z1,S1,_,S2,er1,so1,h1,λb H2 #[z0,A2,z1,z2]=>?_]
   subst z0;rw[JK rfl];refine#[λY3 H3=>∃A3 Z3 S3,Ext X.K A H A3 H3/\EnvRel X.K A3 H3 Z3 Y3/\StoreOk X.w X.K A3 H3 S3/\nM fc fb m Z3 S3=gV (o,S'),λY' H' h=>#[m,Lk _,h],?_]
   split at w1
   ·rename_i Z3 S3 h3;refine#[A2,Z1,S2,_,S3,er1.mono z1,z2,h3,#[λY' H' #[Z',A',y0,y1,y2,y3]=>?_,λv H' #[w,A',y0,_]=>(by cases y0),λv H' #[w,A',y0,_]=>(by cases y0),λv H' #[w,A',y0,_]=>(by cases y0)]]
    cases y0;exact#[A',_,S3,(e1.trans z1).trans y1,y3,y2,w1]
   ·rename_i Z3 S3 h3;refine#[A2,Z1,S2,_,S3,er1.mono z1,z2,h3,#[λv H' #[w,A',y0,_]=>(by cases y0),λv H' #[w,A',y0,_]=>(by cases y0),λv H' #[w,A',y0,_]=>(by cases y0),λY' H' #[Z',A',y0,y1,y2,y3]=>?_]]
    cases y0;exact#[A',_,S3,(e1.trans z1).trans y1,y3,y2,w1]
   ·rename_i Z3 S3 h3;cases w1;refine#[A2,Z1,S2,_,_,er1.mono z1,z2,h3,#[λv H' #[w,A',y0,_]=>(by cases y0),λv H' #[w,A',y0,_]=>(by cases y0),λY' H' #[Z',A',y0,y1,y2,y3]=>?_,λv H' #[w,A',y0,_]=>(by cases y0)]]
    cases y0;exact hd.nx _ _ #[_,A',rfl,(e1.trans z1).trans y1,y2,y3]
   ·rename_i w3 S3 h3;cases w1;refine#[A2,Z1,S2,_,_,er1.mono z1,z2,h3,#[λv H' #[w,A',y0,_]=>(by cases y0),λv H' #[w,A',y0,y1,y2,y3]=>?_,λv H' #[w,A',y0,_]=>(by cases y0),λv H' #[w,A',y0,_]=>(by cases y0)]]
    cases y0;exact hd.rt _ _ #[_,A',rfl,(e1.trans z1).trans y1,y2,y3]
   ·cases w1
  ·rename_i S2 h1;cases w1;refine#[A1,Z1,S1,_,_,er1,so1,h1,λb H2 #[z0,A2,z1,z2]=>?_]
   subst z0;rw[JU JF];exact hd.nx _ _ #[_,A2,rfl,e1.trans z1,z2,er1.mono z1]
  ·cases w1
end
end Mi
namespace L2
open PySem PySem.W PyProof.Rows
def xg {X:Cx}{CX CX':vz}{k k':Jg}{f f':Jn}{fd fd':Lr}{ps ps':Ja JG}{sp sp':Sp}{E:XK}{x y:JG}{p1 p2 p3 p4 pos:LJ}{i e:JM}{es:Ja JM}{t:TA}{ti:TE}
  (F:FnOk X.prog X.w X.K X.mg X.base CX k f fd ps sp) (F':FnOk X.prog X.w X.K X.mg X.base CX' k' f' fd' ps' sp') (hr:Room k X.A) (hr':Room k' X.A) (hg:Gl X x) (hg':Gl X y) (hm:X.mg x=gV (.ref f)) (hm':X.mg y=gV (.ref f'))
  (hk:Kv X.K (.ref f)=true) (hk':Kv X.K (.ref f')=true) (hb:Binds X.K fd ps []) (hb':Binds X.K fd' ps' []) (hx:jb CX X E) (hx':jb CX' X E) (hi:PE X i ti) (hpi:gz i) (ha:PA X (e::es) t)
  (hd:(x==("__debug__" : JG))=false) (hd':(y==("__debug__" : JG))=false) (he:starEach (e::es) X.env=(false,eval e X.env)::starEach es X.env) (hpl:(backTo pos (starEach es X.env)).any (·.1)=false) :
  PE X (.Call (.Subscript (.List [.Name x p1,.Name y p2] p3) i p4) (e::es) [] pos) (λY H Q=>ti Y H λv H1=>(v=.int 0/\oG sp [] E t Y H1 Q)\/(v=.int 1/\oG sp' [] E t Y H1 Q)):=by
 intro J s Y H Q I h;have arm:eval (.Call (.Subscript (.List [.Name x p1,.Name y p2] p3) i p4) (e::es) [] pos) X.env=(do
  callWith pos (<- eval (.Subscript (.List [.Name x p1,.Name y p2] p3) i p4) X.env) [] (backTo pos (starEach (e::es) X.env)) (backToKw pos (keywordEach [] X.env))):=rfl
 rw[arm];refine Jc (Qt (O4 ?_));have hp:PA X [.Name x p1,.Name y p2] (vO (tC (.ref f)) (vO (tC (.ref f')) CZ)):=ik (rP hg hm rfl hd) (ik (rP hg' hm' rfl hd') qv);refine bj (hp p3 J s Y H (λvs H1=>vs=[.ref f,.ref f']/\H1=H) I #[rfl,rfl]) λus s1 #[vs,H1,I1,r,hv,hH]=>?_
 subst hv hH;obtain rfl:us=[.ref f,.ref f']:=by
  cases r with
  | cons r1 r2=>
   cases r2 with
   | cons r2 r3=>
    cases r3;cases r1;cases r2;rfl
 refine#[?_,?_]
 ·exact MX rfl
 have hf:H1 s1.heap.objs.size=td:=I1.hok.fresh (Jo _);have I2:Inv X J Y H1 { s1 with heap:=s1.heap.push { cls:=.type "list",data:=.seq [.ref f,.ref f'].toArray } }:=I1.kept (t':=s1.toks) λb u e=>Jm _ e
 have I3:Inv X (J++[(s1.heap.objs.size,{ cls:=.type "list",data:=.seq [.ref f,.ref f'].toArray })]) Y H1 { s1 with heap:=s1.heap.push { cls:=.type "list",data:=.seq [.ref f,.ref f'].toArray } }:=I2.pins_of λp hp=>by
  rcases JN.mp hp with z|z
  ·exact I2.pin p (JO _ z)
  ·rw[Jv.mp z];exact#[JH _ rfl,hf,λe=>KC _ (e ▸ I1.lt),I1.nofs (Jo _),λv e=>by cases e]
 refine bj (hi _ _ Y H1 _ I3 h) λu s3 #[v,H3,I4,rv,q]=>?_
 have hobj:=(I4.pin (s1.heap.objs.size,_) (JO _ (JO _ (Jv.mpr rfl)))).1;have hl:s3.heap.IsList s1.heap.objs.size [.ref f,.ref f'].toArray:=#[_,hobj,rfl,_,rfl];rcases q with⟨rfl,q⟩|⟨rfl,q⟩
 ·obtain⟨tk,rfl⟩:=rv;refine Qu hl #v[] #v[] rfl ?_ (hpi _ _)
  exact Nh (h₀:=X.base) I4.ok.mod.kin hk (bj (ha pos J s3 Y H3 _ I4.unpinned q) λus s4 #[vs,H4,I5,r,q]=>#[I5.kIn,mZ F hr hb .nil hx I5 r q]) he hpl
 ·obtain⟨tk,rfl⟩:=rv;refine Qu hl #v[] #v[] rfl ?_ (hpi _ _)
  exact Nh (h₀:=X.base) I4.ok.mod.kin hk' (bj (ha pos J s3 Y H3 _ I4.unpinned q) λus s4 #[vs,H4,I5,r,q]=>#[I5.kIn,mZ F' hr' hb' .nil hx' I5 r q]) he hpl
end L2
namespace Mi
open PySem PySem.Spec PyProof.Rows L2
abbrev xi (n:Jg)(g g':FF)(i:FE)(f:FA):FE:=λZ S=>match i Z S with
 | some (.int 0,S1)=>lS n g f Z S1
 | some (.int 1,S1)=>lS n g' f Z S1
 | _=>td
def Dz {X:Cx}{k k' n:Jg}{fa fa':Jn}{fd fd':Lr}{ps ps':Ja JG}{g g':FF}{x y:JG}{i e:JM}{es:Ja JM}{p1 p2 p3 p4 pos:LJ}{fi:FE}{f:FA}(F:FnOk X.prog X.w X.K X.mg X.base rX k fa fd ps (uC X.w X.K n g))(F':FnOk X.prog X.w X.K X.mg X.base rX k' fa' fd' ps' (uC X.w X.K n g'))(hr:Room k X.A)(hr':Room k' X.A)(hg:Gl X x)(hg':Gl X y)(hm:X.mg x=gV (.ref fa))(hm':X.mg y=gV (.ref fa'))(hk:Kv X.K (.ref fa)=true)(hk':Kv X.K (.ref fa')=true)
  (hb:Binds X.K fd ps []) (hb':Binds X.K fd' ps' []) (hi:GE X i fi) (hpi:gz i) (ha:GA X (e::es) f) (hd:(x==("__debug__" : JG))=false) (hd':(y==("__debug__" : JG))=false) (he:starEach (e::es) X.env=(false,eval e X.env)::starEach es X.env) (hpl:(backTo pos (starEach es X.env)).any (·.1)=false) :
  GE X (.Call (.Subscript (.List [.Name x p1,.Name y p2] p3) i p4) (e::es) [] pos) (xi n g g' fi f):=
 GE.of (xg F F' hr hr' hg hg' hm hm' hk hk' hb hb' rY rY hi hpi ha hd hd' he hpl) λY H A Z S w S' er so e Q hq=>by
  unfold xi at e;split at e
  ·rename_i S1 h1;exact#[A,Z,S,_,S1,er,so,h1,λv H1 #[A1,z1,z2,z3]=>.inl #[by cases z3; rfl,iH (er.mono z1) z2 e Q λv H' q=>hq v H' (q.after z1)]]
  ·rename_i S1 h1;exact#[A,Z,S,_,S1,er,so,h1,λv H1 #[A1,z1,z2,z3]=>.inr #[by cases z3; rfl,iH (er.mono z1) z2 e Q λv H' q=>hq v H' (q.after z1)]]
  ·cases e
inductive MI where
 | its (ws:Ja W)
 | live (r:Jg)
 | zl (r q:Jg)
abbrev Fs (xs ys:Ja W):Ja W:=JA (λx y=>.tup [x,y]) xs ys
abbrev MI.at (S:aa)(i:Jg):MI->Ji (Ji W)
 | .its ws=>gV ws[i]?
 | .live r=>match iq S r with
  | some xs=>gV xs[i]?
  | none=>td
 | .zl r q=>match iq S r,iq S q with
  | some xs,gV ys=>gV (Fs xs ys)[i]?
  | _,_=>td
abbrev MI.len (S:aa):MI->Ji Jg
 | .its ws=>gV ws.length
 | .live r=>(iq S r).map (·.length)
 | .zl r q=>match iq S r,iq S q with
  | some xs,gV ys=>gV (Fs xs ys).length
  | _,_=>td
noncomputable abbrev FI:=Fm->aa->Ji (MI×aa)
structure MIt (wd:Kc)(K:Jx)(mi:MI)(tv:It)(A0:Ja Jn)(H0:Hp):Prop where
 go:∀A H S i w,Ext K A0 H0 A H->StoreOk wd K A H S->mi.at S i=gV (gV w)->tv.go i H/\∀x H',tv.yld i H x H'->Ext K A H A H'/\StoreOk wd K A H' S/\Rel K A H' w x
 stop:∀A H S i,Ext K A0 H0 A H->StoreOk wd K A H S->mi.at S i=gV td->tv.stop i H
abbrev tI (X:Cx)(f:FI):TI:=λY H R=>∃A Z S mi S',EnvRel X.K A H Z Y/\StoreOk X.w X.K A H S/\f Z S=gV (mi,S')/\∀tv H' A',Ext X.K A H A' H'->StoreOk X.w X.K A' H' S'->MIt X.w X.K mi tv A' H'->R tv H'
noncomputable abbrev GI (X:Cx)(tg iter:JM)(f:FI):Prop:=PI X tg iter (tI X f)
abbrev AI (f:FE):FI:=λZ S=>match f Z S with
 | some (.tup ws,S1)=>gV (.its ws,S1)
 | some (.ref r,S1)=>match iq S1 r with
  | some _=>gV (.live r,S1)
  | none=>td
 | _=>td
abbrev dc (lo:Jk)(n:Jg):Ja W:=(Jw n).map λ(k:Jg)=>.int (lo+(k:Jk))
abbrev qN (f:FA):FI:=λZ S=>match f Z S with
 | some ([.int j],S1)=>if -(2 ^ 62)<=j/\j < 2 ^ 62 then gV (.its (dc 0 j.toNat),S1)else td
 | _=>td
abbrev iRng2 (f:FA):FI:=λZ S=>match f Z S with
 | some ([.int i,.int j],S1)=>if -(2 ^ 62)<=i/\i < 2 ^ 62/\-(2 ^ 62)<=j/\j < 2 ^ 62 then gV (.its (dc i (j - i).toNat),S1)else td
 | _=>td
abbrev fU (mi:MI)(g:FG)(b:FS):Jg->Jg->FS
 | 0,i,Z,S=>match mi.at S i with
  | some td=>gV (.nx Z,S)
  | _=>td
 | n+1,i,Z,S=>match mi.at S i with
  | some (gV w)=>match g w Z S with
   | some (Z1,S1)=>match b Z1 S1 with
    | some (.nx Z2,S2)=>fU mi g b n (i+1) Z2 S2
    | some (.ct Z2,S2)=>fU mi g b n (i+1) Z2 S2
    | some (.bk Z2,S2)=>gV (.nx Z2,S2)
    | some (.rt w,S2)=>gV (.rt w,S2)
    | none=>td
   | none=>td
  | _=>td
abbrev xj (fi:FI)(g:FG)(b:FS):FS:=λZ S=>match fi Z S with
 | some (mi,S1)=>match mi.len S1 with
  | some n=>fU mi g b n 0 Z S1
  | none=>td
 | none=>td
section
variable{X:Cx}
def AJ {A:Ja Jn}{H:Hp}{ws:Ja W}{a:Jn}{vs:Ja V}(h:SqT X.K H a vs)(r:RelL X.K A H ws vs):MIt X.w X.K (.its ws) (Ex X.K a) A H:=by
 refine#[λA' H' S i w e so hi=>?_,λA' H' S i e so hi=>?_]
 ·simp only[MI.at,J3]at hi;obtain⟨v,h1,h2⟩:=(r.mono e).get hi;refine#[#[vs,v,e.tp _ _ h,h1],λx H2 #[z1,z2]=>?_]
  subst z1;have:=z2 vs (e.tp _ _ h);rw[h1]at this; cases this
  exact#[.refl,so,h2]
 ·simp only[MI.at,J3]at hi;refine#[vs,e.tp _ _ h,?_];rw[<- r.length];exact Li.mp hi
def AK {A:Ja Jn}{H:Hp}{r:Jg}{a:Jn}(ea:A[r]?=gV a):MIt X.w X.K (.live r) (Hf X.K a) A H:=by
 refine#[λA' H' S i w e so hi=>?_,λA' H' S i e so hi=>?_]
 ·simp only[MI.at]at hi;split at hi
  ·rename_i xs hx;simp only[J3]at hi;obtain⟨vs,h1,r1⟩:=cY so hx (e.ad _ _ ea);obtain⟨v,h2,h3⟩:=r1.get hi;refine#[#[vs,v,h1,h2],λx H2 #[z1,z2]=>?_]
   subst z1;have:=z2 vs h1;rw[h2]at this; cases this
   exact#[.refl,so,h3]
  ·cases hi
 ·simp only[MI.at]at hi;split at hi
  ·rename_i xs hx;simp only[J3]at hi;obtain⟨vs,h1,r1⟩:=cY so hx (e.ad _ _ ea);refine#[vs,h1,?_];rw[<- r1.length];exact Li.mp hi
  ·cases hi
def d4 {lo:Jk}{n i:Jg}:(dc lo n)[i]?=if i < n then gV (.int (lo+i))else td:=by
 unfold dc;rw[Jl]
 by_cases h:i < n
 ·rw[JK h,LA h]; rfl
 ·rw[JU h,Li.mpr (by simp; omega)]; rfl
def sF {A:Ja Jn}{H:Hp}{lo:Jk}{n:Jg}:MIt X.w X.K (.its (dc lo n)) (EV lo n) A H:=by
 refine#[λA' H' S i w e so hi=>?_,λA' H' S i e so hi=>?_]
 ·simp only[MI.at,J3]at hi;rw[d4]at hi;split at hi
  ·cases hi;refine#[by assumption,λx H2 #[z1,z2]=>?_]
   subst z1 z2;exact#[.refl,so,.int]
  ·cases hi
 ·simp only[MI.at,J3]at hi;rw[d4]at hi;split at hi
  ·cases hi
  ·show n<=i;omega
def pe {tg:JM}{J:Ja (Jn×KZ)}{Y:L2.St}{H1:Hp}{s1:Jh}{R:It->Hp->Prop}{a:Jn}{xs:Ja V}{v:Jd}(I1:Inv X J Y H1 s1)(r1:RelV (.ref a) v)(hq:SqL X.K H1 a xs)(q:R (Hf X.K a) H1) :
  wpAny (model X.prog X.w) X.A (pyIter v) (GQ X J Y tg R) X.xe s1:=by
 cases r1;obtain⟨its,rv,p,hz⟩:=I1.list hq;refine PC p.isList ?_;refine#[s1.heap.objs.size,[s1.heap.objs.size],_,_,H1,rfl,I1.kept (t':=s1.toks) λb o e=>Jm _ e,tQ a _,#[_,JH _ rfl,rfl,rfl],λb hb=>?_,q]
 have e:b=s1.heap.objs.size:=by simpa using hb
 subst e;exact I1.fpOk (Jo _) (I1.hok.fresh (Jo _))
def qO {tg:JM}{J:Ja (Jn×KZ)}{Y:L2.St}{H1:Hp}{s1:Jh}{R:It->Hp->Prop}{a:Jn}{xs:Ja V}{v:Jd}(I1:Inv X J Y H1 s1)(r1:RelV (.ref a) v)(hq:SqT X.K H1 a xs)(q:R (Ex X.K a) H1) :
  wpAny (model X.prog X.w) X.A (pyIter v) (GQ X J Y tg R) X.xe s1:=by
 cases r1;obtain⟨its,rv,p,hz⟩:=I1.tuple hq;refine Pb (show s1.heap.IsTuple a its.toArray from p) ?_
 refine#[s1.heap.objs.size,[s1.heap.objs.size],_,_,H1,rfl,I1.kept (t':=s1.toks) λb o e=>Jm _ e,qo a _,#[_,JH _ rfl,rfl,rfl],λb hb=>?_,q]
 have e:b=s1.heap.objs.size:=by simpa using hb
 subst e;exact I1.fpOk (Jo _) (I1.hok.fresh (Jo _))
def AL {tg a:JM}{f:FA}{p pos:LJ}(hg:Gl X "range")(hm:X.mg "range" = td)(ha:GA X [a] f)(hs:starEach [a] X.env=[(false,eval a X.env)]):GI X tg (.Call (.Name "range" p) [a] [] pos) (qN f):=by
 intro J s Y H R I ⟨A,Z,S,mi,S',er,so,e,hq⟩;unfold qN at e;split at e
 ·rename_i j S1 h1;split at e
  ·rename_i hj;cases e;refine tR hg hm ha hs J s Y H R I #[A,Z,S,_,_,er,so,h1,λvs H1 #[A1,z1,z2,z3]=>?_]
   cases z3 with
   | cons r1 t=>
    cases t;cases r1;exact#[j,rfl,hj.1,hj.2,hq _ _ A1 z1 z2 sF]
  ·cases e
 ·cases e
def AM {tg a b:JM}{f:FA}{p pos:LJ}(hg:Gl X "range")(hm:X.mg "range" = td)(ha:GA X [a,b] f)(hs:starEach [a,b] X.env=[(false,eval a X.env),(false,eval b X.env)])(hs2:starEach [b] X.env=[(false,eval b X.env)]):GI X tg (.Call (.Name "range" p) [a,b] [] pos) (iRng2 f):=by
 intro J s Y H R I ⟨A,Z,S,mi,S',er,so,e,hq⟩;unfold iRng2 at e;split at e
 ·rename_i i j S1 h1;split at e
  ·rename_i hj;cases e;refine tU hg hm ha hs hs2 J s Y H R I #[A,Z,S,_,_,er,so,h1,λvs H1 #[A1,z1,z2,z3]=>?_]
   cases z3 with
   | cons r1 t=>
    cases t with
    | cons r2 t=>
     cases t;cases r1;cases r2;exact#[i,j,rfl,hj,hq _ _ A1 z1 z2 sF]
  ·cases e
 ·cases e
def DA {tg l:JM}{f:FE}(h:GE X l f):GI X tg l (AI f):=by
 intro J s Y H R I ⟨A,Z,S,mi,S',er,so,e,hq⟩;unfold AI at e;split at e
 ·rename_i ws S1 h1;cases e;refine bj (h J s Y H (EndV X.w X.K A H _ (.tup ws)) I #[A,Z,S,_,_,er,so,h1,λ_ _ z=>z]) λv s1 #[x,H1,I1,r1,A1,e1,o1,z1]=>?_
  cases z1 with
  | tup hq1 rl=>
   refine qO I1 r1 hq1 (hq _ _ A1 e1 o1 (AJ hq1 rl))
 ·rename_i r S1 h1;split at e
  ·rename_i ys hy;cases e;refine bj (h J s Y H (EndV X.w X.K A H _ (.ref r)) I #[A,Z,S,_,_,er,so,h1,λ_ _ z=>z]) λv s1 #[x,H1,I1,r1,A1,e1,o1,z1]=>?_
   cases z1 with
   | ref ea=>
    obtain⟨vs,hl,_⟩:=cY o1 hy ea;exact pe I1 r1 hl (hq _ _ A1 e1 o1 (AK ea))
  ·cases e
 ·cases e
def DB {tg iter:JM}{body:Ja L4}{pos:LJ}{fi:FI}{g:FG}{fb:FS}(hp:OJ (model X.prog X.w) X.A X.env X.xe)(hc:X.calm=true)(hi:GI X tg iter fi)(hg:GG X tg g)(hb:GSs X body fb)
  (hs:∀x,foldedSetIterable iter X.env x=pure x):GS X (.For tg iter body [] pos) (xj fi g fb):=GS.of (CN hp hc hi hg hb hs) λY H A Z S o S' er so e D hd=>by
 unfold xj at e;split at e
 ·rename_i mi S1 h1;split at e
  ·rename_i n hn;refine#[A,Z,S,mi,S1,er,so,h1,λtv H1 A1 z1 z2 mit=>?_]
   refine#[λi m Y2 H2=>∃A2 Z2 S2,Ext X.K A1 H1 A2 H2/\EnvRel X.K A2 H2 Z2 Y2/\StoreOk X.w X.K A2 H2 S2/\fU mi g fb m i Z2 S2=gV (o,S'),#[n,A1,Z,S1,.refl,er.mono z1,z2,e],?_]
   rintro i m Y2 H2 ⟨A2,Z2,S2,e2,er2,so2,w2⟩;cases m with
   | zero=>
    dsimp only[fU]at w2;split at w2
    ·rename_i hs;cases w2;exact .inl #[mit.stop A2 H2 _ i e2 so2 hs,hd.nx _ _ #[_,A2,rfl,z1.trans e2,so2,er2]]
    ·cases w2
   | succ m=>
    dsimp only[fU]at w2;split at w2
    ·rename_i w hw;obtain⟨go,yl⟩:=mit.go A2 H2 S2 i w e2 so2 hw;refine .inr #[go,λY3 H3=>∃A3 Z3 S3,Ext X.K A1 H1 A3 H3/\EnvRel X.K A3 H3 Z3 Y3/\StoreOk X.w X.K A3 H3 S3/\fU mi g fb m (i+1) Z3 S3=gV (o,S'),λY' H' h=>#[m,Lk _,h],λx H3 hy=>?_]
     obtain⟨x1,x2,x3⟩:=yl x H3 hy;split at w2
     ·rename_i Z3 S3 h3;refine#[A2,Z2,S2,w,Z3,S3,er2.mono x1,x2,x3,h3,λY4 H4 A4 y1 y2 y3=>?_]
      have ex:Ext X.K A1 H1 A4 H4:=(e2.trans x1).trans y1;split at w2
      ·rename_i Z5 S5 h5;refine#[A4,Z3,S3,_,S5,y3,y2,h5,#[λY' H' #[Z',A',u0,u1,u2,u3]=>?_,λv H' #[w,A',y0,_]=>(by cases y0),λv H' #[w,A',y0,_]=>(by cases y0),λv H' #[w,A',y0,_]=>(by cases y0)]]
       cases u0;exact#[A',_,S5,ex.trans u1,u3,u2,w2]
      ·rename_i Z5 S5 h5;refine#[A4,Z3,S3,_,S5,y3,y2,h5,#[λv H' #[w,A',y0,_]=>(by cases y0),λv H' #[w,A',y0,_]=>(by cases y0),λv H' #[w,A',y0,_]=>(by cases y0),λY' H' #[Z',A',u0,u1,u2,u3]=>?_]]
       cases u0;exact#[A',_,S5,ex.trans u1,u3,u2,w2]
      ·rename_i Z5 S5 h5;cases w2;refine#[A4,Z3,S3,_,_,y3,y2,h5,#[λv H' #[w,A',y0,_]=>(by cases y0),λv H' #[w,A',y0,_]=>(by cases y0),λY' H' #[Z',A',u0,u1,u2,u3]=>?_,λv H' #[w,A',y0,_]=>(by cases y0)]]
       cases u0;exact hd.nx _ _ #[_,A',rfl,(z1.trans ex).trans u1,u2,u3]
      ·rename_i w5 S5 h5;cases w2;refine#[A4,Z3,S3,_,_,y3,y2,h5,#[λv H' #[w,A',y0,_]=>(by cases y0),λv H' #[w,A',u0,u1,u2,u3]=>?_,λv H' #[w,A',y0,_]=>(by cases y0),λv H' #[w,A',y0,_]=>(by cases y0)]]
       cases u0;exact hd.rt _ _ #[_,A',rfl,(z1.trans ex).trans u1,u2,u3]
      ·cases w2
     ·cases w2
    ·cases w2
  ·cases e
 ·cases e
end
section
variable{prog:J0}{w:Kc}{B:J7}{E:Jd->Jh->Prop}{s:Jh}
def AN {d:Jn}{es:Kh Lx}{ep:Jg}{Q:Jd->Jh->Prop}(hd:(d==sysModules)=false)(hm:RawD d es ep s.heap)(hfit:(es.size:Jk) < 2 ^ 63)
  (h:Q (.int es.size (s.toks+1)) { s with toks:=s.toks+1+1 }):wpAny (model prog w) B (call (.builtin "len") [.ref d]) Q E s:=by
 have hT:=hm.type;obtain⟨o,ho,hc,hdat⟩:=id hm;refine Nt kind_len plain_len entry_len (args_len1 _) ?_;unfold N3.«len»;refine Jc (m:=oneArg "len" _) (Js ?_);refine Jc (m:=callSpecial? (.ref d) (LD "__len__")) (Kx (name:=LD "__len__") hT F.slot_dict_len (KI F.slot_dict_len hT F.entry_dict_len ?_ (F.args_dict_len_1 _)));show wpAny _ _ (dictSize d >>= _) _ _ s;unfold dictSize;refine Jc (Jc (MT ho hdat (Js ?_)));show wpAny _ _ (QP d >>= _) _ _ s;refine Jc (wpAny_pendingCount_other hd ?_);refine wpAny_ret_mkInt ?_;rw[Nat.add_zero];show wpAny _ _ _ _ _ { s with toks:=s.toks+1 }
 refine Jc (KP (Js ?_));refine Jc (M3 ?_);show wpAny _ _ (if ((es.size:Jg):Jk) < 0 then _ else _) _ _ _
 rw[JU ∅]
 show wpAny _ _ (if ((es.size:Jg):Jk)>=2 ^ 63 then _ else _) _ _ _
 rw[JU ∅]
 exact Jc (Qd (Js #[_,rfl,h]))
end
section
variable{X:Cx}{J:Ja (Jn×KZ)}{Y:L2.St}{H:Hp}{s:Jh}{A:Ja Jn}{S:aa}
def qP:LCall X (.builtin "len") qJ:=by
 intro J s Y H A S xs vs us w S' I so rl rv e
 by_cases hd:∃i U,xs=[.ref i]/\jO S i=gV U
 ·obtain⟨i,U,rfl,hk⟩:=hd;simp only[qJ,hk]at e;cases e;cases rl with
  | cons r t=>
   cases t;cases rv with
   | cons ru rv2=>
    cases rv2;cases r with
    | ref ea=>
     obtain⟨xs,rd,kr⟩:=fQ so hk ea;have d:=cF I rd;obtain⟨es,ep,raw,he⟩:=d.raw;obtain rfl:_=Kj _:=ru;have hl:es.size=xs.length:=by rw[<- J6,he,Jb]
     have hz:=d.1;have hs:sizeLine=16777216:=Kq;refine AN d.2.1 raw ∅ #[.int U.length,H,A,I.tok _,#[_,by rw[kr.length,hl]],.refl,so,.int]
 ·have:qJ xs S=qD xs S:=by
   unfold qJ;split
   ·rename_i i;split
    ·rename_i U hk;exact absurd #[i,U,rfl,hk] hd
    ·rfl
   ·rfl
  rw[this]at e;exact ug J s Y H A S xs vs us w S' I so rl rv e
abbrev Iv (S:aa):W->Ji KL
 | .non=>gV "NoneType"|.bl _=>gV "bool"|.int _=>gV "int"|.str _=>gV "str"|.tup _=>gV "tuple"
 | .ref i=>match iq S i with
  | some _=>gV "list"
  | none=>(jO S i).map λ_=>"dict"
abbrev sG:Ja KL:=["bool","int","str","tuple","list","dict"]
abbrev uE (S:aa)(x:W)(c:KL):Ji JL:=match Iv S x with
 | some t=>if sG.contains c then gV (t==c||(t == "bool" && c == "int"))else td
 | none=>td
def hW {K:Jx}{t c:KL}(ht:t∈["NoneType","bool","int","str","tuple","list","dict"])(hc:c∈sG):PySem.W.kitOne K (.type t) (.type c)=gV (t==c||(t == "bool" && c == "int")):=by
 simp only[sG,JR,Ks,LX]at ht hc;rcases ht with rfl|rfl|rfl|rfl|rfl|rfl|rfl <;> rcases hc with rfl|rfl|rfl|rfl|rfl|rfl <;> rfl
def xk:CallR X (.builtin "isinstance") (λvs H Q=>∃A S x v c b,vs=[v,.ty c]/\StoreOk X.w X.K A H S/\Rel X.K A H x v/\uE S x c=gV b/\Q (.bl b) H):=by
 intro J s Y H vs us Q I rv ⟨A,S,x,v,c,b,e1,so,rx,e2,hq⟩;subst e1;cases rv with
 | cons r1 rv2=>cases rv2 with
  | cons r2 rv3=>
   cases rv3;obtain rfl:_=Mp c:=r2;unfold uE at e2;split at e2
   ·rename_i t ht;split at e2
    ·rename_i hc;cases e2;have hc':c∈sG:=by simpa using hc
     have fin:∀tk,EP X J Y Q (.bool (t==c||(t == "bool" && c == "int"))) { s with toks:=tk }:=λtk=>#[.bl _,H,I.tok _,rfl,hq]
     cases rx with
     | non=>cases ht; cases(show _=Kt from r1); exact LQ PySem.W.kitx_none I.kIn M0 (hW (by simp) hc') (λz=>nomatch z) fin
     | bl=>cases ht; cases(show _=Nd _ from r1); exact LQ PySem.W.kitx_bool I.kIn M0 (hW (by simp) hc') (λz=>nomatch z) fin
     | int=>cases ht; obtain⟨t',q⟩:=(show ∃t,_=NN _ t from r1); cases q; exact LQ PySem.W.kitx_int I.kIn M0 (hW (by simp) hc') (λz=>nomatch z) fin
     | str=>cases ht; obtain⟨t',q⟩:=(show ∃t,_=NO _ t from r1); cases q; exact LQ PySem.W.kitx_str I.kIn M0 (hW (by simp) hc') (λz=>nomatch z) fin
     | tup h1 r1'=>
      cases ht;obtain⟨its,rv,⟨o,q1,q2,_⟩,hz⟩:=I.tuple h1;cases(show _=Kj _ from r1)
      exact LQ PySem.W.kitx_tuple I.kIn #[o,q1,q2] (hW (by simp) hc') (λz=>nomatch z) fin
     | ref ea=>
      cases(show _=Kj _ from r1)
      simp only[Iv]at ht;split at ht
      ·rename_i ws hw;cases ht;obtain⟨vs,h1,_⟩:=cY so hw ea;obtain⟨its,rv,p,hz⟩:=I.list h1;obtain⟨o,q1,q2,_⟩:=p.isList;exact LQ PySem.W.kitx_list I.kIn #[o,q1,q2] (hW (by simp) hc') (λz=>nomatch z) fin
      ·rw[Jf]at ht;obtain⟨U,hk,rfl⟩:=ht;obtain⟨xs,rd,kr⟩:=fQ so hk ea;obtain⟨es,ep,⟨o,q1,q2,_⟩,he⟩:=(cF I rd).raw;exact LQ PySem.W.kitx_dict I.kIn #[o,q1,q2.1] (hW (by simp) hc') (λz=>nomatch z) fin
    ·cases e2
   ·cases e2
abbrev xm (c:KL)(f:FE):FE:=λZ S=>match f Z S with
 | some (x,S1)=>(uE S1 x c).map λb=>(.bl b,S1)
 | none=>td
def DC {cn:JG}{c:KL}{e:JM}{p p2 pos:LJ}{f:FE}(hg:Gl X "isinstance")(hm:X.mg "isinstance" = td)(hg2:Gl X cn)(hm2:X.mg cn=td)(hv2:bootBuiltins cn=gV (.type c))(hn2:cn≠"__name__")(hd2:(cn==("__debug__" : JG))=false)
  (he:GE X e f) (hs:starEach [e,.Name cn p2] X.env=(false,eval e X.env)::starEach [.Name cn p2] X.env):GE X (.Call (.Name "isinstance" p) [e,.Name cn p2] [] pos) (xm c f):=
 GE.of (oI (xk) hg hm rfl (ik he (ik (zB (v:=.ty c) hg2 hm2 hv2 rfl hn2 hd2) qv) hs) #v[] #v[] hs rfl) λY H A Z S w S' er so e Q hq=>by
  unfold xm at e;split at e
  ·rename_i x1 S1 h1;rw[Jf]at e;obtain⟨b,e1,e2⟩:=e;cases e2;exact#[A,Z,S,x1,_,er,so,h1,λv H1 #[A1,z1,z2,z3]=>#[A1,_,x1,v,c,b,rfl,z2,z3,e1,hq _ _ #[A1,z1,z2,.bl]]]
  ·cases e
end
abbrev dE:Ja (T×W)->Ja W->Ji (Ja (T×W))
 | U,[]=>gV U
 | U,k::v::ws=>match gK k with
  | some t=>dE (d3 U t v) ws
  | none=>td
 | _,[_]=>td
abbrev B0:FE:=λ_ S=>gV (.ref S.length,S++[.dic []])
abbrev pf (f:FA):FE:=λZ S=>match f Z (S++[.dic []])with
 | some (ws,S1)=>match S1[S.length]? with
  | some (.dic [])=>match dE [] ws with
   | some U=>gV (.ref S.length,S1.set S.length (.dic U))
   | none=>td
  | _=>td
 | none=>td
section
variable (K:Jx) (A:Ja Jn) (H:Hp)
inductive RelP:Ja W->Ja (V×V)->Prop
 | nil:RelP [] []
 | cons {k v:W} {a b:V} {ws:Ja W} {ps:Ja (V×V)}:Rel K A H k a->Rel K A H v b->RelP ws ps->RelP (k::v::ws) ((a,b)::ps)
end
def RelP.mono {K:Jx}{A A':Ja Jn}{H H':Hp}(e:Ext K A H A' H'){ws:Ja W}{ps:Ja (V×V)}(h:RelP K A H ws ps):RelP K A' H' ws ps:=by
 induction h with
 | nil=>exact .nil
 | cons a b c ih=>exact .cons (a.mono e) (b.mono e) ih
section
variable{X:Cx}{J:Ja (Jn×KZ)}{Y:L2.St}{H:Hp}{s:Jh}{A:Ja Jn}{S:aa}
abbrev HE (X:Cx)(A:Ja Jn)(H:Hp)(S':aa)(ws:Ja W):Ja (V×V)->Hp->Prop:=λps H'=>∃A',Ext X.K A H A' H'/\StoreOk X.w X.K A' H' S'/\RelP X.K A' H' ws ps
abbrev Ft (X:Cx)(pos:LJ)(keys:Ja (Ji JM))(values:Ja JM)(f:FA):Prop:=
 ∀(J:Ja (Jn×KZ)) (s:Jh) (Y:L2.St) (H:Hp) (A:Ja Jn) (Z:Fm) (S:aa) (ws:Ja W) (S':aa),Inv X J Y H s->EnvRel X.K A H Z Y->StoreOk X.w X.K A H S->f Z S=gV (ws,S')->
  wpAny (model X.prog X.w) X.A (evalPairs (pairTrees keys values X.env pos)) (λvs s'=>∃ps H',Inv X J Y H' s'/\VV ps vs/\HE X A H S' ws ps H') X.xe s
def AO {pos:LJ}:Ft X pos [] [] iG:=λJ s Y H A Z S ws S' I er so e=>by
 cases e;exact pairTrees_nil_walk #[[],H,I,.nil,A,.refl,so,.nil]
def xn {pos:LJ}{k v:JM}{ks:Ja (Ji JM)}{vs:Ja JM}{fk fv:FE}{f:FA}(hk:GE X k fk)(hv:GE X v fv)(hr:Ft X pos ks vs f):Ft X pos (gV k::ks) (v::vs) (dG fk (dG fv f)):=λJ s Y H A Z S ws S' I er so e=>by
 unfold dG at e;split at e
 ·rename_i w1 S1 h1;split at e
  ·rename_i w2 S2 h2;cases e;split at h2
   ·rename_i w3 S3 h3;split at h2
    ·rename_i w4 S4 h4;cases h2;refine pairTrees_cons_walk (bj (hk J s Y H (EndV X.w X.K A H S1 w1) I #[A,Z,S,_,_,er,so,h1,λ_ _ z=>z]) λu s1 #[x,H1,I1,r1,A1,e1,o1,z1]=>
      bj (hv J s1 Y H1 (EndV X.w X.K A1 H1 S3 w3) I1 #[A1,Z,S1,_,_,er.mono e1,o1,h3,λ_ _ z=>z]) λu2 s2 #[x2,H2,I2,r2,A2,e2,o2,z2]=>
      bj (hr J s2 Y H2 A2 Z S3 _ _ I2 (er.mono (e1.trans e2)) o2 h4) λvs' s3 #[ps,H3,I3,rel,A3,e3,o3,z3]=>?_)
     exact#[(x,x2)::ps,H3,I3,.cons #[r1,r2] rel,A3,e1.trans (e2.trans e3),o3,.cons (z1.mono (e2.trans e3)) (z2.mono e3) z3]
    ·cases h2
   ·cases h2
  ·cases e
 ·cases e
def mD {r:Jg}{d:Jn}{E:Jd->Jh->Prop}(hu:X.A.units+10 < cLine):∀(vs:Ja (Jd×Jd)) (ps:Ja (V×V)) (ws:Ja W) (U U':Ja (T×W)) (s:Jh) (H:Hp) (S:aa) (Q:PUnit->Jh->Prop),
  Inv X J Y H s->StoreOk X.w X.K A H S->nB S r=gV U->A[r]?=gV d->RelP X.K A H ws ps->VV ps vs->dE U ws=gV U'->U.length+vs.length<=30->
  (∀s' H',Inv X J Y H' s'->Ext X.K A H A H'->StoreOk X.w X.K A H' (S.set r (.dic U'))->Q Pa s')->
  wpAny (model X.prog X.w) X.A (forIn vs Pa λ(x:Jd×Jd) (_:PUnit)=>(do dictSet d x.1 x.2; pure (K8 Pa):Rp (ForInStep PUnit))) Q E s
 | [],_,_,U,U',s,H,S,Q,I,so,hr,ea,rp,vv,e,hl,hq=>by
  cases vv;cases rp;cases e;rw[QH];refine Js (hq s H I .refl ?_);have hS:=iD hr;have:S.set r (.dic U)=S:=by
   apply NB;intro j;rw[Ld];split
   ·rename_i e; subst e
    split
    ·exact hS.symm
    ·rename_i h; exact absurd (Jz.mp hS).1 h
   ·rfl
  rw[this]; exact so
 | (ku,vu)::vs,_,_,U,U',s,H,S,Q,I,so,hr,ea,rp,vv,e,hl,hq=>by
  cases vv with
  | cons hv vv2=>
   cases rp with
   | @cons wk wv va vb ws2 ps2 rk rv' rp2=>
    simp only[dE]at e;split at e
    ·rename_i t ht;rw[Of];obtain⟨xs,hH,kr⟩:=si so hr ea;have dd0:=cF I (.inl hH);have dd:=dd0.dict I kr;obtain⟨bk,e1,e2,rkk⟩:=iC ht rk hv.1;have e2:ku=Kj bk:=e2;subst e2;obtain⟨q1,q2,q3⟩:=dQ ht;rw[J2]at hl;have hz:xs.length<=sizeLine:=dd0.1;refine Jc (Jc (wpAny_dictSet_heap (hsz:=hz) (show X.A.units+bm < cLine by unfold bm; omega) (jf I rkk q3) dd λh' dd' hs=>Js ?_))
     have kr':=kr.put q2 q3 rkk rv' hv.2;have hz':(storedH xs t bk vu).length<=sizeLine:=by
      rw[<- kr'.length];have h2:=ey U t wv;rw[Kq];omega
     have dn:DicAt X.w d (storedH xs t bk vu) h':=.of hz' dd0.2.1 dd';obtain⟨so',ex⟩:=so.writeO (iD hr) rfl ea (u:=dY X.w d (storedH xs t bk vu)) (n:=.dic (d3 U t wv)) #[_,be,kr'.mono (dm (.ext hH))];have I':Inv X J Y (bS H d (dY X.w d (storedH xs t bk vu))) { s with heap:=h',toks:=s.toks+(cZ X.prog X.w).draws t }:=nq I (by rw[hH]; exact M0) hs (let ⟨q,_,_,hq,_⟩:=dd'; #[q,hq]) dn.ok
     have hl':(S.set r (.dic (d3 U t wv)))[r]?=gV (.dic (d3 U t wv)):=by
      rw[Ld,JK rfl,JK (Jz.mp (iD hr)).1]
     refine mD hu vs _ _ (d3 U t wv) U' _ _ _ Q I' so' (by unfold nB; rw[hl']) ea (rp2.mono ex) vv2 e (by have:=ey U t wv; omega) λs' H' I2 ex2 so2=>?_
     rw[List.set_set]at so2;exact hq s' H' I2 (ex.trans ex2) so2
    ·cases e
def AQ {pos:LJ}:GE X (.Dict [] [] pos) B0:=λJ s Y H Q I #[A,Z,S,w,S',er,so,e,hq]=>by
 cases e;have hn:=I.hok.fresh (Jo s.heap.objs.size);have dn:DicAt X.w s.heap.objs.size [] (s.heap.push { cls:=.type "dict",data:=.dict #[] }):=#[Lq _,M6.mpr (Ne.symm (J1 I.big)),OA,_,#[],0,JH _ rfl,#[rfl,rfl,rfl],rfl,rfl];refine wpAny_Dict_empty #[.ref s.heap.objs.size,_,I.laid (a:=s.heap.objs.size) (o:=dY X.w s.heap.objs.size []) (t':=s.toks) (λ_ _ q=>Jm _ q) (Jo _) dn.ok,rfl,hq _ _ #[A++[s.heap.objs.size],dZ hn,so.pushO hn #[[],be,.nil],.ref ?_]]
 rw[<- so.len]; simp
def AR {pos:LJ}{keys:Ja (Ji JM)}{values:Ja JM}{f:FA}(hu:X.A.units+10 < cLine)(h:Ft X pos keys values f)(hall:keys.all (·.isSome)=true)(hl:keys.length=values.length)(h0:keys≠[])(h15:keys.length<=15):GE X (.Dict keys values pos) (pf f):=by
 intro J s Y H Q I ⟨A,Z,S,w,S',er,so,e,hq⟩;unfold pf at e;split at e
 ·rename_i ws S1 h1;split at e
  ·rename_i hS1;split at e
   ·rename_i U hp;cases e;have hn:=I.hok.fresh (Jo s.heap.objs.size);have dn:DicAt X.w s.heap.objs.size [] (s.heap.push { cls:=.type "dict",data:=.dict #[] }):=#[Lq _,M6.mpr (Ne.symm (J1 I.big)),OA,_,#[],0,JH _ rfl,#[rfl,rfl,rfl],rfl,rfl];have I1:=I.laid (a:=s.heap.objs.size) (o:=dY X.w s.heap.objs.size []) (h':=s.heap.push { cls:=.type "dict",data:=.dict #[] }) (t':=s.toks) (λ_ _ q=>Jm _ q) (Jo _) dn.ok
    have ex0:Ext X.K A H (A++[s.heap.objs.size]) (bS H s.heap.objs.size (dY X.w s.heap.objs.size [])):=dZ hn;have so0:StoreOk X.w X.K (A++[s.heap.objs.size]) (bS H s.heap.objs.size (dY X.w s.heap.objs.size [])) (S++[.dic []]):=so.pushO hn #[[],be,.nil];have hlen:=pairTrees_length keys values X.env pos hall hl;have hne:pairTrees keys values X.env pos≠[]:=λhe=>by
     rw[he]at hlen;exact h0 (MO.mp hlen.symm)
    rw[arm_eval_Dict,zip_pairTrees keys values X.env pos hall hl,dictDisplay_pairs _ hne ∅]
    refine Jc (M2 (Jc ?_));unfold subDict;refine Jc (wpAny_alloc ?_);refine Jc (KP ?_);rw[JK ∅]
    refine Jc (Lc (wpAny_evalPairs_len (h J _ Y _ _ Z _ _ _ I1 (er.mono ex0) so0 h1)) (λvs s₁ h₁=>?_) λ_ _ e=>e)
    obtain⟨hvl,ps,H2,I2,vv,A2,ex2,so2,rp⟩:=h₁;refine KP ?_;have ea:A2[S.length]?=gV s.heap.objs.size:=ex2.ad _ _ (by rw[<- so.len]; simp)
    refine Jc (mD hu vs ps ws [] U s₁ H2 S1 _ I2 so2 (by unfold nB; rw[hS1]) ea rp vv hp (by rw[Lg]; omega) λs' H' I3 ex3 so3=>?_)
    exact Js (Js (Js #[.ref s.heap.objs.size,H',I3,rfl,hq _ _ #[A2,ex0.trans (ex2.trans ex3),so3,.ref ea]]))
   ·cases e
  ·cases e
 ·cases e
end
abbrev Iw (wd:Kc)(a:Jn)(o:KZ)(xs:Ja (T×Jn×Jd)):It:=
 #[λi H=>H a=gV (.frz o (dY wd a xs))/\i < xs.length,λi H x H'=>H'=H/\∃q,xs[i]?=gV q/\x=.ref q.2.1,λi H=>H a=gV (.frz o (dY wd a xs))/\xs.length<=i]
def uF {P:J0}{w:Kc}{K:Jx}{tg:JM}(a it:Jn){o:KZ}{es:Kh Lx}{ep:Jg}{xs:Ja (T×Jn×Jd)}(hx:o.ExactDict)(hd:o.data=.dict es ep)(he:es.toList=xs.map (vY w)) :
  Turn P w K tg (Iw w a o xs) [it] it (λi h=>h.IsKeyIter it a i es.size ep) where
 mem:=by simp
 obj:=λi h st b hb=>by
  have e:b=it:=by simpa using hb
  subst e;obtain⟨o,e,c,d⟩:=st;exact#[o,e,λv z=>by rw[d]at z; cases z]
 keep:=λi h h' st k=>st.at λo e=>k it (by simp) o e
 item:=by
  intro X hP hw hK hc i J s Y H E I hf st hg;subst hP hw hK;obtain⟨hH,hi⟩:=hg;have ho:s.heap.get? a=gV o:=(show ObjOk X.prog X.w H s.heap a (.frz o (dY X.w a xs))from I.hok a _ hH).1
  have hl:es.size=xs.length:=by rw[<- J6,he,Jb]
  have hi':i < es.size:=∅
  obtain⟨f0,f1,f2,f3,f4,f5⟩:=hf it (by simp)
  have hk:es[i].key=.ref (xs[i]).2.1:=by
   have:es.toList[i]?=gV (vY X.w xs[i]):=by rw[he,Jl,Ju hi]; rfl
   rw[K1,My hi']at this;have:=Ku this;rw[this]; rfl
  refine oY st #[o,ho,hx,hd] hi' λh' st' sb=>?_
  have I1:Inv X J Y H { s with heap:=h' }:=I.turned (t':=s.toks) (λb o hb e=>(sb.2 b hb).trans e) f0 f1 f3 f4 f5
  obtain⟨o',e,c,d⟩:=id st';exact#[_,rfl,rR (s:={ s with heap:=h' }) e c d #v[] #[.ref (xs[i]).2.1,H,I1,hk,#[rfl,xs[i],Ju hi,rfl],st',λb hb=>(hf b hb).1]]
 done:=by
  intro X hP hw hK hc i J s Y H E I hf st hg;subst hP hw hK;obtain⟨hH,hi⟩:=hg;have ho:s.heap.get? a=gV o:=(show ObjOk X.prog X.w H s.heap a (.frz o (dY X.w a xs))from I.hok a _ hH).1
  have hl:es.size=xs.length:=by rw[<- J6,he,Jb]
  obtain⟨f0,f1,f2,f3,f4,f5⟩:=hf it (by simp)
  exact sn (I.ok.hd hc) st #[o,ho,hx,hd] ∅ λh' eb=>#[rfl,I.turned (t':=s.toks) (λb o hb e=>eb b o hb e) f0 f1 f3 f4 f5]
 self:=λ_ _ _ _ _ st h=>Ox st h
abbrev eP (f:FE):FI:=λZ S=>match f Z S with
 | some (.tup ws,S1)=>gV (.its ws,S1)
 | some (.ref r,S1)=>match iq S1 r with
  | some _=>gV (.live r,S1)
  | none=>match jO S1 r with
   | some U=>gV (.its (U.map λp=>p.1.w),S1.set r (.frd U))
   | none=>td
 | _=>td
section
variable{X:Cx}{J:Ja (Jn×KZ)}{Y:L2.St}{H:Hp}{s:Jh}{A:Ja Jn}{S:aa}
def xo {a:Jn}{o:KZ}{U:Ja (T×W)}{xs:Ja (T×Jn×Jd)}(hH:H a=gV (.frz o (dY X.w a xs)))(kr:KRel X.K A H U xs):MIt X.w X.K (.its (U.map λp=>p.1.w)) (Iw X.w a o xs) A H:=by
 refine#[λA' H' S i w e so hi=>?_,λA' H' S i e so hi=>?_]
 ·simp only[MI.at,J3]at hi;obtain⟨v,h1,h2⟩:=((kr.mono e).keysL).get hi;rw[Jl,Jf]at h1;obtain⟨q,q1,q2⟩:=h1;refine#[#[e.fz _ _ _ hH,(Jz.mp q1).1],λx H2 #[z1,q',z2,z3]=>?_]
  subst z1 z3;rw[q1]at z2; cases z2
  exact#[.refl,so,by rw[q2]; exact h2]
 ·simp only[MI.at,J3]at hi;refine#[e.fz _ _ _ hH,?_];have:=Li.mp hi;rw[Jb,kr.length]at this;exact this
def AS {tg l:JM}{f:FE}(h:GE X l f):GI X tg l (eP f):=by
 intro J s Y H R I ⟨A,Z,S,mi,S',er,so,e,hq⟩
 by_cases hd:∃r S1 U,f Z S=gV (.ref r,S1)/\iq S1 r=td/\jO S1 r=gV U
 ·obtain⟨r,S1,U,h1,h2,h3⟩:=hd;simp only[eP,h1,h2,h3]at e;cases e;refine bj (h J s Y H (EndV X.w X.K A H S1 (.ref r)) I #[A,Z,S,_,_,er,so,h1,λ_ _ z=>z]) λv s1 #[x,H1,I1,r1,A1,e1,o1,z1]=>?_
  cases z1 with
  | @ref _ a ea=>
   obtain rfl:v=Kj a:=r1;have fz:∃o xs H2,Inv X J Y H2 s1/\Ext X.K A1 H1 A1 H2/\StoreOk X.w X.K A1 H2 (S1.set r (.frd U))/\H2 a=gV (.frz o (dY X.w a xs))/\KRel X.K A1 H2 U xs:=by
    unfold jO at h3;split at h3
    ·rename_i k hk;cases h3;obtain⟨xs,hH,kr⟩:=o1.obj r _ a hk ea;have d:=cF I1 (.inl hH);obtain⟨_,_,_,o,es,ep,q1,q2,q3,q4⟩:=id d;obtain⟨so',ex⟩:=o1.writeO hk rfl ea (u:=.frz o (dY X.w a xs)) (n:=.frd U) #[o,xs,be,kr.mono (dm (.ext hH))];exact#[o,xs,_,nq (h':=s1.heap) (t':=s1.toks) (ob:=.frz o (dY X.w a xs)) I1 (by rw[hH]; exact M0) (RW _ _) #[o,q1] #[q1,d.ok],ex,so',be,kr.mono ex]
    ·rename_i k hk;cases h3;obtain⟨o,xs,hH,kr⟩:=o1.obj r _ a hk ea;have:S1.set r (.frd U)=S1:=by
      apply NB;intro j;rw[Ld];split
      ·rename_i e; subst e
       split
       ·exact hk.symm
       ·rename_i h; exact absurd (Jz.mp hk).1 h
      ·rfl
     rw[this];exact#[o,xs,H1,I1,.refl,o1,hH,kr]
    ·cases h3
   obtain⟨o,xs,H2,I2,ex,so2,hH,kr⟩:=fz;have d:=cF I2 (.inr #[o,hH]);have ho:s1.heap.get? a=gV o:=(show ObjOk X.prog X.w H2 s1.heap a (.frz o (dY X.w a xs))from I2.hok a _ hH).1
   obtain⟨_,hsm,_,o',es,ep,q1,q2,q3,q4⟩:=id d;rw[ho]at q1;cases q1;refine oX hsm #[o,ho,q2,q3] ?_;refine#[s1.heap.objs.size,[s1.heap.objs.size],_,_,H2,rfl,I2.kept (t':=s1.toks) λb o e=>Jm _ e,uF a _ q2 q3 q4,#[_,JH _ rfl,rfl,rfl],λb hb=>?_,hq _ _ A1 (e1.trans ex) so2 (xo hH kr)]
   have e:b=s1.heap.objs.size:=by simpa using hb
   subst e;exact I2.fpOk (Jo _) (I2.hok.fresh (Jo _))
 ·have:eP f Z S=AI f Z S:=by
   unfold eP AI;cases hf:f Z S with
   | none=>rfl
   | some p=>
    obtain⟨w,S1⟩:=p;cases w with
    | ref r=>
     cases h2:iq S1 r with
     | some _=>simp only[h2]
     | none=>
      cases h3:jO S1 r with
      | none=>simp only[h2,h3]
      | some U=>exact absurd #[r,S1,U,hf,h2,h3] hd
    | _=>rfl
  rw[this]at e;exact DA h J s Y H R I #[A,Z,S,mi,S',er,so,e,hq]
end
abbrev bJ (mi:MI)(g:FG)(c:FT)(f:FE):Jg->Jg->Fm->aa->Ji (Ja W×aa)
 | 0,i,_,S=>match mi.at S i with
  | some td=>gV ([],S)
  | _=>td
 | n+1,i,Z,S=>match mi.at S i with
  | some (gV w)=>match g w Z S with
   | some (Z1,S1)=>match c Z1 S1 with
    | some (true,S2)=>match f Z1 S2 with
     | some (y,S3)=>match bJ mi g c f n (i+1) Z1 S3 with
      | some (ys,S4)=>gV (y::ys,S4)
      | none=>td
     | none=>td
    | some (false,S2)=>bJ mi g c f n (i+1) Z1 S2
    | none=>td
   | none=>td
  | _=>td
abbrev fj (cap:Ja (Ji Jg))(Z:Fm):Fm:=cap.map λo=>match o with
 | some j=>(Z[j]?).join
 | none=>td
abbrev kH (fi:FI)(g:FG)(c:FT)(f:FE)(cap:Ja (Ji Jg)):FE:=λZ S=>match fi Z S with
 | some (mi,S1)=>match mi.len S1 with
  | some n=>match bJ mi g c f n 0 (fj cap Z) S1 with
   | some (ys,S2)=>lO S2 ys
   | none=>td
  | none=>td
 | none=>td
abbrev B1:FT:=λ_ S=>gV (true,S)
abbrev lL (X:Cx)(scope:Ml)(cl:Ja (JG×Jn))(C:Jn)(N:Ja JG)(s0:Jh)(H0:Hp)(ex:Ja Jn):Cx:=
 { X with env:=compEnvC scope cl C X.env,N:=N,s₀:=s0,H₀:=H0,outer:=X.stack,stack:=X.stack,ex:=ex,fn:=λ_=>false,pn:=[],xe:=λ_ _=>KA }
structure CompOk (X:Cx)(scope:Ml)(cl:Ja (JG×Jn))(N:Ja JG)(cap:Ja (Ji Jg)):Prop where
 clos:closureFor scope X.env=pure cl
 kind:scope.kind=.function
 names:∀y∈scope.names,y.2=.local->scope.names.lookup y.1=gV .local
 nocell:∀y∈scope.names,y.2≠.cell
 sub:∀x c,cl.lookup x=gV c->X.env.cells.lookup x=gV c
 has:∀x,((relabel scope X.env).names.lookup x=gV .cell\/(relabel scope X.env).names.lookup x=gV .free)->∃c,cl.lookup x=gV c
 len:cap.length=N.length
 cap:∀(i j:Jg) (x:JG),cap[i]?=gV (gV j)->N[i]?=gV x->X.N[j]?=gV x/\(X.env.kindOf x=gV .cell\/X.env.kindOf x=gV .free)/\((relabel scope X.env).names.lookup x=gV .cell\/(relabel scope X.env).names.lookup x=gV .free)
def gN {prog:J0}{w:Kc}{A:J7}{R:PU->Jh->Prop}{s:Jh}{elt target iter:JM}{ifs:Ja JM}{scope:Ml}{pos:LJ}{it acc:Jd}{env:Pi}(I:Jg->Jh->Prop)
    (turn:∀n s,I n s->wpAny (model prog w) A (pyNext it) (λr s₁=>match r with
      | none=>R (.ok .next) s₁
      | some v=>wpAny (model prog w) A (letOwnedTupleGo target it v) (λ_ s₁=>wpAny (model prog w) A (assign target env v) (λ_ s₂=>
          wpAny (model prog w) A (forIn ifs true λc r=>if r=true then do let ok <- isTrue c env (eval c env); pure (K8 ok)else pure (K8 r)) (λok s₃=>
            if ok=true then wpAny (model prog w) A (eval elt env) (λx s₄=>
              wpAny (model prog w) A (call (.builtin "list.append") [acc,x]) (λ_ s₅=>∃m,m < n/\I m s₅) (λ_ _=>KA) s₄) (λ_ _=>KA) s₃
            else ∃m,m < n/\I m s₃) (λ_ _=>KA) s₂) (λ_ _=>KA) s₁) (λ_ _=>KA) s₁) (λ_ _=>KA) s)
    (n:Jg) (h:I n s) :
    codeAny (model prog w) A (.compLoop (.ListComp elt [#[target,iter,ifs,0]] scope pos) 0 it acc env) R s:=by
  refine codeAny_loop rfl I (λn s hI=>?_) n h
  show wpAny _ A ((compTurn (.ListComp elt [#[target,iter,ifs,0]] scope pos) 0 it acc env).onRaise (λx=>do noteFrame x env; theTreesLotGoes x)) _ _ s
  refine wpAny_noted ?_;rw[compTurn_list];refine Jc (M2 (Jc (Lc (turn n s hI) (λr s₁ h₁=>?_) λ_ _ h'=>h'.elim)))
  cases r with
  | none=>exact Js h₁
  | some v=>
    refine Jc (Lc h₁ (λ_ s₁ h₁=>?_) λ_ _ h'=>h'.elim)
    refine Jc (Lc h₁ (λ_ s₂ h₂=>Jc (Lc h₂ (λok s₃ h₃=>?_) λ_ _ h'=>h'.elim)) λ_ _ h'=>h'.elim)
    cases ok with
    | false=>exact Js #[rfl,h₃]
    | true=>
      exact Jc (Jc (Lc h₃ (λx s₄ h₄=>Jc (Lc h₄ (λ_ s₅ h₅=>Js (Js #[rfl,h₅])) λ_ _ h'=>h'.elim)) λ_ _ h'=>h'.elim))
section
variable{X:Cx}{J:Ja (Jn×KZ)}{Y:L2.St}{H:Hp}{s:Jh}
def Inv.adopt {D:Jn}{o:HO}(I:Inv X J Y H s)(hn:H D=td)(h1:D∈X.ex\/X.s₀.heap.objs.size<=D)(hL:D≠X.env.locals)(h2:∀x c,X.env.cells.lookup x=gV c->c≠D)(h3:∀p∈X.pn++J,p.1≠D)
  (new:ObjOk X.prog X.w (bS H D o) s.heap D o):Inv X J Y (bS H D o) s:=by
 have nit:∀b u,H b=gV u->b≠D:=λb u e z=>by rw[z,hn]at e; cases e
 have key:Inv X J Y (bS H D o) { s with heap:=s.heap,gens:=s.gens,drawn:=s.drawn,toks:=s.toks }:=by
  refine I.step (g':=s.gens) (d':=s.drawn) (t':=s.toks) (h':=s.heap) (ch:=[D]) (λb hb=>?_) (λb o _ _ hc e _=>e) (λb o _ _ hc e _=>#[o.slots,e]) (λb o hc e n=>?_)
   (λb o hc e=>#[o,e]) (λb xs e=>?_) (λb o xs e=>?_) (λb ps e=>#[#[],?_]) (λm hm=>hm) (λb u e=>?_) I.bare
  ·have e:b=D:=by simpa using hb
   subst e;exact#[h1,hL,h2,h3]
  ·rw[aI (λz=>hc (by simp[z]))]; exact n
  ·rw[aI (nit b _ e)]; exact e
  ·rw[aI (nit b _ e)]; exact e
  ·rw[aI (nit b _ e),e]; simp
  ·by_cases hb:b=D
   ·subst hb; rw[be]at e; cases e; exact new
   ·rw[aI hb]at e;refine(I.hok b u e).stay (λc v hc q=>q) (λc q=>?_) λc xs q=>?_
    ·rw[aI (nit c _ q)]; exact q
    ·rw[aI (nit c _ q)]; exact q
 exact key
def DD {scope:Ml}{cl:Ja (JG×Jn)}{N:Ja JG}{cap:Ja (Ji Jg)}{C:Jn}{s0:Jh}{ex:Ja Jn}(I:Inv X J Y H s)(ck:CompOk X scope cl N cap)(hs:s.heap.objs.size<=s0.heap.objs.size)(hC:s0.heap.objs.size<=C)
  (hk:∀b o,s.heap.get? b=gV o->s0.heap.get? b=gV o) (hex:∀b∈ex,(b≠C)/\(∀x c,X.env.cells.lookup x=gV c->c≠b)/\(∀o,X.base.get? b≠gV o)/\b∉qm X.stack) :
  (lL X scope cl C N s0 H ex).Ok where
 mod:=I.ok.mod
 kind:=ck.kind
 glob:=I.ok.glob
 blt:=I.ok.blt
 above:=hC
 inj:=λx y c h1 h2=>I.ok.inj x y c (ck.sub x c h1) (ck.sub y c h2)
 has:=λx h=>ck.has x h
 cab:=λx c h=>by cases h
 hd:=I.ok.hd
 frames:=I.ok.frames
 stk:=.inl rfl
 exf:=λb hb=>#[(hex b hb).1,λx c h=>(hex b hb).2.1 x c (ck.sub x c h)]
 bs:=λb o e=>#[hk b o (I.bk b o e),(I.bs b o e).2]
 bsz:=JY (JY I.ok.bsz I.sz) hs
 noex:=λb o e hb=>(hex b hb).2.2.1 o e
 exfs:=λb hb=>(hex b hb).2.2.2
 funs:=I.stack.of_keeps λb o e _=>#[o,hk b o e,rfl]
 frf:=I.stkFree
structure BlockOk (X:Cx)(scope:Ml)(cl:Ja (JG×Jn))(N:Ja JG)(tg elt:JM)(ifs:Ja JM)(g:FG)(c:FT)(f:FE):Prop where
 tgt:∀C s0 H0 ex,GG (lL X scope cl C N s0 H0 ex) tg g
 tst:∀C s0 H0 ex J s Y H Q,Inv (lL X scope cl C N s0 H0 ex) J Y H s->tT (lL X scope cl C N s0 H0 ex) c Y H Q->
  wpAny (model X.prog X.w) X.A (forIn ifs true λc r=>if r=true then do let ok <- isTrue c (compEnvC scope cl C X.env) (eval c (compEnvC scope cl C X.env)); pure (K8 ok)else pure (K8 r)) (TP (lL X scope cl C N s0 H0 ex) J Y Q) (λ_ _=>KA) s
 elt:∀C s0 H0 ex,GE (lL X scope cl C N s0 H0 ex) elt f
def nN {prog:J0}{w:Kc}{B:J7}{s:Jh}{E:Jd->Jh->Prop}{Q:Jd->Jh->Prop}{D:Jn}{its:Ja Jd}{n:Jg}{u:Jd}(e:s.heap.get? D=gV { cls:=.type "list",data:=.seq its.toArray n })(hz:its.length < sizeLine)
  (h:∀h' n',h'.get? D=gV { cls:=.type "list",data:=.seq (its++[u]).toArray n' }->(∀b o,b≠D->s.heap.get? b=gV o->h'.get? b=gV o)->Q .none { s with heap:=h' }) :
  wpAny (model prog w) B (call (.builtin "list.append") [.ref D,u]) Q E s:=by
 refine MZ F.slot_list_append #[_,e,rfl] F.entry_list_append (F.args_list_append_2 _ _) (Ps D its.toArray n u (by rw[JE]; omega)) #[e,?_]
 have q:=P0 e (λa=>a.push u)
 have e2:its.toArray.push u=(its++[u]).toArray:=by simp
 rw[e2]at q;exact h _ _ q (λb o hb ho=>(Kw s.heap (KN λa=>a.push u) (Ne.symm hb)).trans ho)
def mE {scope:Ml}{cl:Ja (JG×Jn)}{N:Ja JG}{cap:Ja (Ji Jg)}{tg elt iter:JM}{ifs:Ja JM}{g:FG}{c:FT}{f:FE}{pos:LJ}{A:Ja Jn}{Z:Fm}{S S':aa}{mi:MI}{n:Jg}{ws:Ja W}{E:Jd->Jh->Prop}
  {it:Jn} {fp:Ja Jn} {tn:Jg->Kl->Prop} {tv:It} {RR:Jd->Jn->PU->Jh->Prop}
  (I:Inv X J Y H s) (hc:X.calm=true) (er:EnvRel X.K A H Z Y) (so:StoreOk X.w X.K A H S) (ck:CompOk X scope cl N cap) (bk:BlockOk X scope cl N tg elt ifs g c f)
  (T:Turn X.prog X.w X.K tg tv fp it tn) (t0:tn 0 s.heap) (hfp:∀b∈fp,i7 X J H b) (mit:MIt X.w X.K mi tv A H) (e:bJ mi g c f n 0 (fj cap Z) S=gV (ws,S')) (hz:ws.length<=sizeLine)
  (fin:∀D C s' H' A' vs m,s'.heap.Ns C m->H' D=td->D≠C->C≠X.env.locals->C∉X.fs->H' C=td->X.s₀.heap.objs.size<=C->(∀x c,X.env.cells.lookup x=gV c->c≠C)->(∀p∈X.pn++J,p.1≠C)->
   Inv X J Y (bS H' D (.lst vs)) s'->Ext X.K A H A' H'->StoreOk X.w X.K A' H' S'->RelL X.K A' H' ws vs->RR (.ref D) C (.ok .next) s') :
  wpAny (model X.prog X.w) X.A (newList []) (λacc s₃=>wpAny (model X.prog X.w) X.A (newFunctionEnv scope X.env.globals cl [] X.env.qual td .none (gV X.env)) (λcenv s₄=>
   codeAny (model X.prog X.w) X.A (.compStart (.ListComp elt [#[tg,iter,ifs,0]] scope pos) 0 (.ref it) acc { cenv with scope:=relabel scope X.env }) (RR acc cenv.locals) s₄) E s₃) E s:=by
 refine Km (wpAny_newFunctionEnv ck.nocell (by intro y hy; simp at hy) (λh₁ hns₁ hsb₁=>?_) ck.kind)
 dsimp only at hns₁ hsb₁ ⊢;generalize hH2:s.heap.push { cls:=.type "list",dict:=td,data:=.seq ([]:Ja Jd).toArray }=h2 at hns₁ hsb₁ ⊢;have hCs:h2.objs.size=s.heap.objs.size+1:=by rw[<- hH2,QI]
 have k2:∀b o,s.heap.get? b=gV o->h2.get? b=gV o:=λb o z=>hH2 ▸ Jm _ z
 have lt2:∀b o,h2.get? b=gV o->b < h2.objs.size:=λb o z=>JJ z
 have k1:∀b o,h2.get? b=gV o->h₁.get? b=gV o:=λb o z=>hsb₁.extBut b o (J1 (lt2 b o z)) (Jm _ z)
 have hD2:h2.get? s.heap.objs.size=gV { cls:=.type "list",data:=.seq ([]:Ja Jd).toArray }:=hH2 ▸ JH _ rfl;have hDC:s.heap.objs.size≠h2.objs.size:=by rw[hCs]; omega
 have fresh:∀a,s.heap.objs.size<=a->H a=td:=λa ha=>I.hok.fresh ha
 have cellLt:∀x c,X.env.cells.lookup x=gV c->c < s.heap.objs.size:=λx c z=>let ⟨_,q⟩:=I.cell x c z; q.lt
 have fpLt:∀b∈fp,b < s.heap.objs.size:=λb hb=>let ⟨_,q,_⟩:=T.obj 0 s.heap t0 b hb; JJ q
 have stkLt:∀b∈qm X.stack,b < s.heap.objs.size:=λb hb=>let ⟨_,o,q,_⟩:=I.stack.mem hb; JJ q
 have baseLt:∀b o,X.base.get? b=gV o->b < s.heap.objs.size:=λb o z=>JJ (I.bk b o z)
 have fpStk:∀b∈fp,b∉qm X.stack:=λb hb z=>by
  rcases JR.mp (I.stkSub b z)with q|q
  ·exact(hfp b hb).2.1 q
  ·exact(hfp b hb).2.2.1 q
 have fpBase:∀b∈fp,∀o,X.base.get? b≠gV o:=λb hb o z=>by
  rcases(hfp b hb).2.2.2.1 with q|q
  ·exact I.ok.noex b o z q
  ·exact absurd (JW (JJ (I.ok.bs b o z).1) q) (KC _)
 have ltC:∀ {b:Jn},b < s.heap.objs.size->b≠h2.objs.size:=λhb=>by rw[hCs]; exact J1 (Nat.lt_succ_of_lt hb)
 let s3:Jh:={ s with heap:=h2 }
 have ok':(lL X scope cl h2.objs.size N s3 H (fp++[s.heap.objs.size])).Ok:=by
  refine DD I ck (show s.heap.objs.size<=h2.objs.size by rw[hCs]; omega) (Jo _) k2 λb hb=>?_
  rcases JN.mp hb with hb|hb
  ·exact#[ltC (fpLt b hb),(hfp b hb).2.2.2.2.1,fpBase b hb,fpStk b hb]
  ·have eb:b=s.heap.objs.size:=by simpa using hb
   subst eb;exact#[hDC,λx c z=>J1 (cellLt x c z),λo z=>KC _ (baseLt _ o z),λz=>KC _ (stkLt _ z)]
 obtain⟨m0,hn0,hl0⟩:=I.loc;have I0:Inv (lL X scope cl h2.objs.size N s3 H (fp++[s.heap.objs.size])) [] (cap.map λo=>match o with|some j=>(Y[j]?).join|none=>td) H { s3 with heap:=h₁,toks:=s3.toks+([]:Ja (JG×Jd)).length }:=by
  refine#[ok',rfl,I.bare,Un.kept k1,#[_,hns₁,λi x v e1 e2 e3=>?_],λx cc z=>?_,fresh _ (show s.heap.objs.size<=h2.objs.size by rw[hCs]; exact Mr _),λx cc z=>I.freeC x cc (ck.sub x cc z),λp hp=>absurd hp (by simp[lL]),(I.hok.kept k2).kept k1,by rw[Jb]; exact ck.len]
  ·rw[Jl]at e2;cases q:cap[i]? with
   | none=>rw[q]at e2; cases e2
   | some oj=>
    rw[q]at e2;cases oj with
    | none=>cases e2
    | some j=>
     obtain⟨z1,z2,z3⟩:=ck.cap i j x q e1;have e2':(Y[j]?).join=gV v:=by simpa using e2
     have e2'':Y[j]?=gV (gV v):=by
      cases r:Y[j]? with
      | none=>rw[r]at e2'; cases e2'
      | some y=>rw[r]at e2'; exact congrArg gV e2'
     obtain⟨u,ru,lk⟩:=hl0 j x v z1 e2'' (by
      rcases z2 with z|z
      ·exact .inr (.inl z)
      ·exact .inr (.inr z))
     refine#[u,ru,?_];rcases lk with⟨zk,_⟩|⟨_,cc,zc,zi⟩
     ·rcases z2 with z|z <;> (rw[zk]at z; cases z)
     ·obtain⟨c2,hc2⟩:=ck.has x z3;have:=ck.sub x c2 hc2;rw[zc]at this; cases this
      refine .inr #[z3,cc,hc2,?_];obtain⟨o,ho,hd⟩:=zi;exact#[o,k1 _ _ (k2 _ _ ho),hd]
  ·obtain⟨v,o,ho,hd⟩:=I.cell x cc (ck.sub x cc z);exact#[v,o,k1 _ _ (k2 _ _ ho),hd]
 have er0:EnvRel X.K A H (fj cap Z) (cap.map λo=>match o with|some j=>(Y[j]?).join|none=>td):=by
  refine#[by simp[fj],λi w q=>?_]
  unfold fj at q;rw[Jl]at q ⊢;cases r:cap[i]? with
  | none=>rw[r]at q; cases q
  | some oj=>
   rw[r]at q;cases oj with
   | none=>cases q
   | some j=>
    have q':(Z[j]?).join=gV w:=by simpa using q
    have q'':Z[j]?=gV (gV w):=by
     cases z:Z[j]? with
     | none=>rw[z]at q'; cases q'
     | some y=>rw[z]at q'; exact congrArg gV q'
    obtain⟨v,z1,z2⟩:=er.2 j w q'';exact#[v,by simp[z1],z2]
 have t1:tn 0 h₁:=T.keep 0 s.heap h₁ t0 λb hb o z=>k1 b o (k2 b o z)
 have fpOk':∀ {H':Hp} {pp:Ja (Jn×KZ)},(∀b∈fp,H' b=td)->(∀p∈pp,p.1=s.heap.objs.size)->∀b∈fp,i7 (lL X scope cl h2.objs.size N s3 H (fp++[s.heap.objs.size])) pp H' b:=λhn hp b hb=>
  #[hn b hb,ltC (fpLt b hb),fpStk b hb,.inl (Kz _ hb),λx cc z=>(hfp b hb).2.2.2.2.1 x cc (ck.sub x cc z),λp hpp=>by
   rw[hp p (by simpa [lL]using hpp)]
   exact(J1 (fpLt b hb)).symm]
 have DinEx:s.heap.objs.size∈fp++[s.heap.objs.size]:=JO _ (by simp)
 have cellD:∀x c,cl.lookup x=gV c->c≠s.heap.objs.size:=λx cc z=>J1 (cellLt x cc (ck.sub x cc z))
 have fpD:∀b∈fp,b≠s.heap.objs.size:=λb hb=>J1 (fpLt b hb)
 have theEnd:∀s' Y' H' A' vs its nn,Inv (lL X scope cl h2.objs.size N s3 H (fp++[s.heap.objs.size])) [] Y' H' s'->s'.heap.get? s.heap.objs.size=gV { cls:=.type "list",data:=.seq its nn }->∀(hits:∃l:Ja Jd,its=l.toArray/\Vals vs l),H' s.heap.objs.size=td->Ext X.K A H A' H'->StoreOk X.w X.K A' H' S'->RelL X.K A' H' ws vs->
   RR (.ref s.heap.objs.size) h2.objs.size (.ok .next) s':=by
  intro s' Y' H' A' vs its nn I' hD hits hDn ex so' rl;obtain⟨l,rfl,rv⟩:=hits;obtain⟨m,hn,_⟩:=id I'.loc;have un:Un (qm X.stack) (fp++[s.heap.objs.size]) H H' s.heap s'.heap:=(Un.kept k2).trans I'.base;have hch:∀b∈fp++[s.heap.objs.size],(b∈X.ex\/X.s₀.heap.objs.size<=b)/\b≠X.env.locals/\(∀x c,X.env.cells.lookup x=gV c->c≠b)/\∀p∈X.pn++J,p.1≠b:=λb hb=>by
   rcases JN.mp hb with hb|hb
   ·exact#[(hfp b hb).2.2.2.1,(hfp b hb).2.1,(hfp b hb).2.2.2.2.1,(hfp b hb).2.2.2.2.2]
   ·have eb:b=s.heap.objs.size:=by simpa using hb
    subst eb;exact#[.inr I.sz,(J1 I.lt).symm,λx cc z=>J1 (cellLt x cc z),λp hp=>J1 (JJ (I.pin p hp).1)]
  have I2:Inv X J Y H' s':=I.call' (show s'.os=s.os from I'.os) un I'.hok I'.bare hch
  have I3:Inv X J Y (bS H' s.heap.objs.size (.lst vs)) s':=Inv.adopt I2 hDn (hch _ DinEx).1 (hch _ DinEx).2.1 (hch _ DinEx).2.2.1 (hch _ DinEx).2.2.2 #[by rw[<- rl.length]; exact hz,l,nn,rv,hD]
  have hCle:s.heap.objs.size<=h2.objs.size:=by rw[hCs]; exact Mr _
  exact fin _ _ s' H' A' vs m hn hDn hDC (Ma (JW I.lt hCle)) (I.nofs hCle) I'.free (JY I.sz hCle) (λx cc z=>J1 (JW (cellLt x cc z) hCle))
   (λp hp=>J1 (JW (JJ (I.pin p hp).1) hCle)) I3 ex so' rl
 have loop:∀s4:Jh,s4={ s3 with heap:=h₁,toks:=s3.toks+([]:Ja (JG×Jd)).length }->
   codeAny (model X.prog X.w) X.A (.compLoop (.ListComp elt [#[tg,iter,ifs,0]] scope pos) 0 (.ref it) (.ref s.heap.objs.size) (compEnvC scope cl h2.objs.size X.env)) (RR (.ref s.heap.objs.size) h2.objs.size) s4:=by
  rintro s4 rfl;refine gN (λk s5=>∃i Y5 H5 A5 Z5 S5 done its nn vs ys,Inv (lL X scope cl h2.objs.size N s3 H (fp++[s.heap.objs.size])) [] Y5 H5 s5/\tn i s5.heap/\(∀b∈fp,H5 b=td)/\s5.heap.get? s.heap.objs.size=gV { cls:=.type "list",data:=.seq (its:Ja Jd).toArray nn }/\H5 s.heap.objs.size=td/\Vals vs its/\
   Ext X.K A H A5 H5/\EnvRel X.K A5 H5 Z5 Y5/\StoreOk X.w X.K A5 H5 S5/\RelL X.K A5 H5 done vs/\ws=done++ys/\bJ mi g c f k i Z5 S5=gV (ys,S')) ?_ n
   #[0,_,H,A,_,S,[],[],0,[],ws,I0,t1,λb hb=>(hfp b hb).1,k1 _ _ hD2,fresh _ (Jo _),.nil,.refl,er0,so,.nil,rfl,e]
  rintro k s5 ⟨i,Y5,H5,A5,Z5,S5,done,its,nn,vs,ys,I5,t5,f5,d5,n5,v5,e5,er5,so5,rl5,hw5,w5⟩;have pinD:Inv (lL X scope cl h2.objs.size N s3 H (fp++[s.heap.objs.size])) [(s.heap.objs.size,{ cls:=.type "list",data:=.seq its.toArray nn })] Y5 H5 s5:=I5.pins_of λp hp=>by
   have hp':p=(s.heap.objs.size,{ cls:=.type "list",data:=.seq its.toArray nn }):=by simpa using hp
   subst hp';exact#[d5,n5,hDC,λz=>KC _ (stkLt _ z),λv z=>by cases z]
  have oneD:∀p∈[(s.heap.objs.size,({ cls:=.type "list",data:=.seq its.toArray nn }:KZ))],p.1=s.heap.objs.size:=λp hp=>by
   have hp':p=(s.heap.objs.size,{ cls:=.type "list",data:=.seq its.toArray nn }):=by simpa using hp
   rw[hp']
  cases k with
  | zero=>
   dsimp only[bJ]at w5;split at w5
   ·rename_i hst;cases w5;rw[Ky]at hw5;subst hw5;refine bj (T.done (lL X scope cl h2.objs.size N s3 H (fp++[s.heap.objs.size])) rfl rfl rfl hc i _ s5 Y5 H5 _ pinD (fpOk' f5 oneD) t5 (mit.stop A5 H5 _ i e5 so5 hst)) λr s6 #[hr,I6]=>?_
    subst hr;have p6:=I6.pin _ (JO _ (Jv.mpr rfl));exact theEnd s6 Y5 H5 A5 vs _ nn (I6.pins_of λp hp=>absurd hp (by simp)) p6.1 #[its,rfl,v5] n5 e5 so5 rl5
   ·cases w5
  | succ k=>
   dsimp only[bJ]at w5;split at w5
   ·rename_i w hw;obtain⟨go,yl⟩:=mit.go A5 H5 S5 i w e5 so5 hw;refine bj (T.item (lL X scope cl h2.objs.size N s3 H (fp++[s.heap.objs.size])) rfl rfl rfl hc i _ s5 Y5 H5 _ pinD (fpOk' f5 oneD) t5 go) λr s6 #[u,hr,h6]=>?_
    subst hr;refine bj h6 λ_ s7 #[x,H7,I7,r7,y7,t7,f7]=>?_
    obtain⟨x1,x2,x3⟩:=yl x H7 y7;have I7':=I7.pinned (fpOk' f7 oneD) (T.obj _ _ t7);split at w5
    ·rename_i Z8 S8 h8;refine bj (bk.tgt _ _ _ _ _ s7 Y5 H7 x u (λY' H'=>∃A',Ext X.K A5 H5 A' H'/\StoreOk X.w X.K A' H' S8/\EnvRel X.K A' H' Z8 Y') I7' r7 #[A5,Z5,S5,w,Z8,S8,er5.mono x1,x2,x3,h8,λY' H' A' q1 q2 q3=>#[A',x1.trans q1,q2,q3]]) λ_ s8 #[Y8,H8,I8,A8,e58,so8,er8]=>?_
     have e8:Ext X.K A H A8 H8:=e5.trans e58;have pD:∀ {Y':L2.St} {H':Hp} {s':Jh},Inv (lL X scope cl h2.objs.size N s3 H (fp++[s.heap.objs.size])) ([(s.heap.objs.size,{ cls:=.type "list",data:=.seq its.toArray nn })]++i8 fp s7.heap) Y' H' s'->s'.heap.get? s.heap.objs.size=gV { cls:=.type "list",data:=.seq its.toArray nn }/\H' s.heap.objs.size=td:=λI'=>
      let q:=I'.pin _ (JO _ (Kz _ (Jv.mpr rfl)))
      #[q.1,q.2.1]
     have pF:∀ {Y':L2.St} {H':Hp} {s':Jh},Inv (lL X scope cl h2.objs.size N s3 H (fp++[s.heap.objs.size])) ([(s.heap.objs.size,{ cls:=.type "list",data:=.seq its.toArray nn })]++i8 fp s7.heap) Y' H' s'->(∀b∈fp,H' b=td)/\∀b∈fp,∀o,s7.heap.get? b=gV o->s'.heap.get? b=gV o:=λI'=>
      #[λb hb=>by
       obtain⟨o,eo,_⟩:=T.obj _ _ t7 b hb;exact(I'.pin (b,o) (JO _ (JO _ (fg hb eo)))).2.1,
       λb hb o eo=>(I'.pin (b,o) (JO _ (JO _ (fg hb eo)))).1]
     split at w5
     ·rename_i S9 h9;refine bj (bk.tst _ _ _ _ _ s8 Y8 H8 (λb H'=>b=true/\∃A',Ext X.K A8 H8 A' H'/\StoreOk X.w X.K A' H' S9) I8 #[A8,Z8,S8,true,S9,er8,so8,h9,λb H' #[z0,A',z1,z2]=>#[z0,A',z1,z2]]) λb s9 #[H9,I9,z0,A9,e9,so9]=>?_
      subst z0;rw[JK rfl];split at w5
      ·rename_i y S10 h10;split at w5
       ·rename_i ys' S4 h11;cases w5;refine bj (bk.elt _ _ _ _ _ s9 Y8 H9 (EndV X.w X.K A9 H9 S10 y) I9 #[A9,Z8,S9,y,S10,er8.mono e9,so9,h10,λ_ _ z=>z]) λu10 s10 #[v10,H10,I10,r10,A10,e10,so10,rl10]=>?_
        obtain⟨d10,n10⟩:=pD I10;obtain⟨f10,k10⟩:=pF I10;have hlen:its.length < sizeLine:=by
         have l1:=v5.length;have l2:=rl5.length;rw[hw5,Je,J2]at hz;omega
        refine nN d10 hlen λh' n' hd' hk'=>?_
        have Ib:Inv (lL X scope cl h2.objs.size N s3 H (fp++[s.heap.objs.size])) [] Y8 H10 { s10 with heap:=h' }:=by
         have Ia:Inv (lL X scope cl h2.objs.size N s3 H (fp++[s.heap.objs.size])) [] Y8 H10 s10:=I10.pins_of λp hp=>absurd hp (by simp)
         exact Ia.turned (t':=s10.toks) (it:=s.heap.objs.size) hk' n10 hDC (.inl DinEx) cellD (λp hp=>absurd hp (by simp[lL]))
        refine#[k,Lk k,i+1,Y8,H10,A10,Z8,S10,done++[y],its++[u10],n',vs++[v10],ys',Ib,?_,f10,hd',n10,v5.append #v[r10],(e8.trans e9).trans e10,(er8.mono e9).mono e10,so10,?_,?_,h11]
        ·exact T.keep (i+1) s7.heap h' t7 λb hb o eo=>hk' b o (fpD b hb) (k10 b hb o eo)
        ·exact(rl5.mono ((e58.trans e9).trans e10)).append #v[rl10]
        ·rw[hw5,Lw]; rfl
       ·cases w5
      ·cases w5
     ·rename_i S9 h9;refine bj (bk.tst _ _ _ _ _ s8 Y8 H8 (λb H'=>b=false/\∃A',Ext X.K A8 H8 A' H'/\StoreOk X.w X.K A' H' S9) I8 #[A8,Z8,S8,false,S9,er8,so8,h9,λb H' #[z0,A',z1,z2]=>#[z0,A',z1,z2]]) λb s9 #[H9,I9,z0,A9,e9,so9]=>?_
      subst z0;rw[JU JF];obtain⟨d9,n9⟩:=pD I9;obtain⟨f9,k9⟩:=pF I9;refine#[k,Lk k,i+1,Y8,H9,A9,Z8,S9,done,its,nn,vs,ys,I9.pins_of λp hp=>absurd hp (by simp),T.keep (i+1) s7.heap _ t7 k9,f9,d9,n9,v5,e8.trans e9,er8.mono e9,so9,rl5.mono (e58.trans e9),hw5,w5]
     ·cases w5
    ·cases w5
   ·cases w5
 exact codeAny_compStart_list (loop _ rfl) (T.self X.A 0 _ _ _ t1 (loop _ rfl))
def pg {fi:FI}{g:FG}{c:FT}{f:FE}{cap:Ja (Ji Jg)}{Z:Fm}{S:aa}{w:W}{S':aa}(e:kH fi g c f cap Z S=gV (w,S')) :
  ∃mi S1 n ys S2,fi Z S=gV (mi,S1)/\mi.len S1=gV n/\bJ mi g c f n 0 (fj cap Z) S1=gV (ys,S2)/\ys.length<=sizeLine/\w=.ref S2.length/\S'=S2++[.lst ys]:=by
 unfold kH at e;split at e
 ·rename_i mi S1 h1;split at e
  ·rename_i n h2;split at e
   ·rename_i ys S2 h3;obtain⟨h4,h5,h6⟩:=jT e;exact#[mi,S1,n,ys,S2,h1,h2,h3,h4,h5,h6]
   ·cases e
  ·cases e
 ·cases e
def AT {scope:Ml}{N:Ja JG}{cap:Ja (Ji Jg)}{tg elt iter:JM}{ifs:Ja JM}{fi:FI}{g:FG}{c:FT}{f:FE}{pos:LJ}(hc:X.calm=true)(hi:GI X tg iter fi)(hck:X.Ok->∃cl,CompOk X scope cl N cap/\BlockOk X scope cl N tg elt ifs g c f)
  (hs:∀x,foldedSetIterable iter X.env x=pure x):GE X (.ListComp elt [#[tg,iter,ifs,0]] scope pos) (kH fi g c f cap):=by
 intro J s Y H Q I ⟨A,Z,S,w,S',er,so,e,hq⟩;obtain⟨mi,S1,n,ys,S2,h1,h2,h3,h4,rfl,rfl⟩:=pg e;obtain⟨cl,ck,bk⟩:=hck I.ok;rw[eval_ListComp];refine NK (use:=td) rfl hs ck.clos ck.kind ck.names (bj (hi J s Y H (λtv H'=>∃A',Ext X.K A H A' H'/\StoreOk X.w X.K A' H' S1/\MIt X.w X.K mi tv A' H') I #[A,Z,S,mi,S1,er,so,h1,λtv H' A' z1 z2 z3=>#[A',z1,z2,z3]]) λv s1 q1=>bj q1 λitv s2 q2=>?_)
 obtain⟨it,fp,tn,tv,H2,rfl,I2,T,t0,hfp,A2,e2,so2,mit⟩:=q2;refine mE (RR:=λacc C=>compPost (model X.prog X.w) X.A X.xe td (EP X J Y Q) acc C) I2 hc (er.mono e2) so2 ck bk T t0 hfp mit h3 h4 ?_
 intro D C s' H' A' vs m hn hDn hDC hCL hCf hCn hCs hCc hCp I3 ex so3 rl;refine#[m,hn,λh' hs'=>?_]
 have I4:Inv X J Y (bS H' D (.lst vs)) { s' with heap:=h' }:=I3.turned (t':=s'.toks) (it:=C) (λb o hb eo=>hs'.extBut b o hb eo) (by rw[aI (Ne.symm hDC)]; exact hCn) hCL (.inr hCs) hCc hCp
 exact#[.ref D,_,I4,rfl,hq _ _ (EndV.after (e2.trans ex) (.lst so3 rl hDn))]
def qQ {scope:Ml}{N:Ja JG}{cap:Ja (Ji Jg)}{tg elt iter:JM}{ifs:Ja JM}{fi:FI}{g:FG}{c:FT}{f:FE}{pos py spos:LJ}{y:JG}{i:Jg}(hc:X.calm=true)(hi:GI X tg iter fi)(hck:X.Ok->∃cl,CompOk X scope cl N cap/\BlockOk X scope cl N tg elt ifs g c f)
  (hs:∀x,foldedSetIterable iter X.env x=pure x) (hsw:swapsWith (.ListComp elt [#[tg,iter,ifs,0]] scope pos) (gV (.Name y py)) spos.line X.env=pure true) (hN:X.N.Nodup) (hy:X.N[i]?=gV y) (hl:X.env.scope.names.lookup y=gV .local) :
  GS X (.Assign [.Name y py] (.ListComp elt [#[tg,iter,ifs,0]] scope pos) spos) (kG (kH fi g c f cap) (AF i)):=by
 intro J s Y H Dd I ⟨A,Z,S,o,S',er,so,e,hd⟩;unfold kG at e;split at e
 ·rename_i w S0 h0;simp only[AF]at e;cases e;obtain⟨mi,S1,n,ys,S2,h1,h2,h3,h4,rfl,rfl⟩:=pg h0;obtain⟨cl,ck,bk⟩:=hck I.ok;rw[exec_Assign_Name_used _ _ _ _ hsw];refine Jc (M2 (Jc ?_));show wpAny _ X.A (do let _ <- comprehension (.ListComp elt [⟨tg,iter,ifs,0⟩] scope pos) scope X.env _ (newList []) false (eval iter X.env) (gV (assign (.Name y py) X.env))) _ _ s
  refine Jc (Lc (NK (use:=gV (assign (.Name y py) X.env)) (Q:=λ_ s'=>SP X J Dd .next s') rfl hs ck.clos ck.kind ck.names
   (bj (hi J s Y H (λtv H'=>∃A',Ext X.K A H A' H'/\StoreOk X.w X.K A' H' S1/\MIt X.w X.K mi tv A' H') I #[A,Z,S,mi,S1,er,so,h1,λtv H' A' z1 z2 z3=>#[A',z1,z2,z3]]) λv s1 q1=>bj q1 λitv s2 q2=>?_)) (λ_ s' hq=>Js (Js hq)) λ_ _ e=>e)
  obtain⟨it,fp,tn,tv,H2,rfl,I2,T,t0,hfp,A2,e2,so2,mit⟩:=q2;refine mE (RR:=λacc C=>compPost (model X.prog X.w) X.A X.xe (gV (assign (.Name y py) X.env)) (λ_ s'=>SP X J Dd .next s') acc C) I2 hc (er.mono e2) so2 ck bk T t0 hfp mit h3 h4 ?_
  intro D C s' H' A' vs m hn hDn hDC hCL hCf hCn hCs hCc hCp I3 ex so3 rl;obtain⟨oC,esC,epC,hoC,hdC,hrC⟩:=id hn;have I3':Inv X (J++[(C,oC)]) Y (bS H' D (.lst vs)) s':=I3.pins_of λp hp=>by
   rcases JN.mp hp with hp|hp
   ·exact I3.pin p (JO _ hp)
   ·have hp':p=(C,oC):=by simpa using hp
    subst hp';exact#[hoC,by rw[aI (Ne.symm hDC)]; exact hCn,hCL,hCf,λv z=>by rw[hdC]at z; cases z]
  show wpAny _ X.A (assign (.Name y py) X.env (.ref D)) _ _ _;refine Pj (ii I3' hN hy (.inl hl) (v:=.ref D) rfl (λs4 I4=>?_) (.inr hl))
  have pC:=I4.pin (C,oC) (JO _ (JO _ (Jv.mpr rfl)));refine#[m,#[oC,esC,epC,pC.1,hdC,hrC],λh' hs'=>?_]
  have I5:Inv X J (Y.set i (gV (.ref D))) (bS H' D (.lst vs)) s4:=I4.pins_of λp hp=>I4.pin p (JO _ (Kz _ hp))
  have I6:Inv X J (Y.set i (gV (.ref D))) (bS H' D (.lst vs)) { s4 with heap:=h' }:=I5.turned (t':=s4.toks) (it:=C) (λb o hb eo=>hs'.extBut b o hb eo) (by rw[aI (Ne.symm hDC)]; exact hCn) hCL (.inr hCs) hCc hCp
  obtain⟨Af,f1,f2,f3⟩:=EndV.after (e2.trans ex) (EndV.lst so3 rl hDn);exact#[_,_,I6,hd.nx _ _ #[_,Af,rfl,f1,f2,(er.mono f1).set f3 i]]
 ·cases e
end
open PySem.Builtin.SmallTypes (nextOf)
section
variable{prog:J0}{w:Kc}
structure Zit (prog:J0)(w:Kc)(it:Jn)(T:Jg->Kl->Prop)(C:Kl->Prop)(i:Jg)(Uq:Ji (Jd->Prop)):Prop where
 keep:∀j h h',T j h->(∀o,h.get? it=gV o->h'.get? it=gV o)->T j h'
 next:∀V,Uq=gV V->∀(B:J7) (s:Jh) (Q:Jd->Jh->Prop) (E:Jd->Jh->Prop),T i s.heap->C s.heap->(∀u h' tk,V u->T (i+1) h'->LS it s.heap h'->Q u { s with heap:=h',toks:=tk })->wpAny (model prog w) B (nextOf (.ref it)) Q E s
 stop:Uq=td->∀(B:J7) (s:Jh) (Q:Jd->Jh->Prop) (E:Jd->Jh->Prop),B.handled=td->T i s.heap->C s.heap->(∀h' e,Ov it s.heap h'->(∃o,h'.get? e=gV o/\o.cls=.type "StopIteration")->E (.ref e) { s with heap:=h' })->wpAny (model prog w) B (nextOf (.ref it)) Q E s
variable{B:J7}{E:Jd->Jh->Prop}{s:Jh}{z p q i1 i2:Jn}{T1 T2:Jg->Kl->Prop}{C1 C2:Kl->Prop}{i:Jg}{a b:Jd}
abbrev Zc (z q i1 i2:Jn)(C:Kl->Prop):Prop:=∀h h',C h->(∀c o,c≠z->c≠q->c≠i1->c≠i2->h.get? c=gV o->h'.get? c=gV o)->C h'
end
end Mi
namespace Mi
open PySem PySem.Spec PyProof.Rows L2
open PySem.Builtin.SmallTypes (nextOf)
abbrev qR (prog:J0)(w:Kc)(v:Jd)(o:KZ)(C:Kl->Prop):Prop:=∀(B:J7) (s:Jh) (Q:Jd->Jh->Prop) (E:Jd->Jh->Prop),C s.heap->Q (.ref s.heap.objs.size) { s with heap:=s.heap.push o }->wpAny (model prog w) B (pyIter v) Q E s
end Mi
namespace Mi
open PySem PySem.Spec PyProof.Rows L2
open PySem.Builtin.SmallTypes (nextOf)
section
variable{prog:J0}{w:Kc}{A:J7}{E:Jd->Jh->Prop}{s:Jh}
def Fu {it t:Jn}{i:Jg}{items:Kh Jd}{x:Jd}{Q:Jd->Jh->Prop}(hit:s.heap.IsTupleIter it t i)(ht:s.heap.IsTuple t items)(hx:items[i]?=gV x)
  (hQ:∀h',h'.IsTupleIter it t (i+1)->LS it s.heap h'->Q x { s with heap:=h' }):wpAny (model prog w) A (nextOf (.ref it)) Q E s:=by
 obtain⟨o,ho,hc,hd⟩:=id hit;obtain⟨ot,hot,_,nt,hdt⟩:=ht;unfold Nu;refine Jc (Kx (name:=LD "__next__") hit.typeIs F.slot_tuple_iterator_next (KI F.slot_tuple_iterator_next hit.typeIs F.entry_tuple_iterator_next ?_ (F.args_tuple_iterator_next_1 _)));show wpAny _ _ (field (.ref it) 0 >>= _) _ _ s;refine Jc (Ls ho hd (x:=.ref t) rfl ?_);show wpAny _ _ (if (Kj t==Kt)=true then _ else _) _ _ s
 rw[JU (show ¬ ((Kj t==Kt)=true)from JF)]
 show wpAny _ _ (field (.ref it) 1 >>= _) _ _ s;refine Jc (Ls ho hd (x:=.int i 0) rfl (Jc (Ms hot hdt ?_)));simp only[JC,hx];refine Jc (Nk ho hd (by simp) (Js #[x,rfl,Js (hQ _ #[_,LM _ ho (Os (MK hd _)),(PB ..).trans hc,?_] (MA ..))]))
 rw[MK hd]; simp[rawInt]
def Fv {it t:Jn}{i:Jg}{items:Kh Jd}{Q:Jd->Jh->Prop}(hh:A.handled=td)(hit:s.heap.IsTupleIter it t i)(ht:s.heap.IsTuple t items)(hx:items[i]?=td)
  (hE:∀h' e,Ov it s.heap h'->(∃o,h'.get? e=gV o/\o.cls=.type "StopIteration")->E (.ref e) { s with heap:=h' }):wpAny (model prog w) A (nextOf (.ref it)) Q E s:=by
 obtain⟨o,ho,hc,hd⟩:=id hit;obtain⟨ot,hot,_,nt,hdt⟩:=ht;unfold Nu;refine Jc (Kx (name:=LD "__next__") hit.typeIs F.slot_tuple_iterator_next (KI F.slot_tuple_iterator_next hit.typeIs F.entry_tuple_iterator_next ?_ (F.args_tuple_iterator_next_1 _)));show wpAny _ _ (field (.ref it) 0 >>= _) _ _ s;refine Jc (Ls ho hd (x:=.ref t) rfl ?_);show wpAny _ _ (if (Kj t==Kt)=true then _ else _) _ _ s
 rw[JU (show ¬ ((Kj t==Kt)=true)from JF)]
 show wpAny _ _ (field (.ref it) 1 >>= _) _ _ s;refine Jc (Ls ho hd (x:=.int i 0) rfl (Jc (Ms hot hdt ?_)));simp only[JC,hx];refine Jc (O1 (Jc (Nk ho hd (by simp) ?_)))
 show wpAny _ _ (newExc (.type "StopIteration") [] >>= _) _ _ _;refine Jc ?_;simp only[newExc,newTuple];refine Jc (Km ?_ (by size_fits))
 refine Jc (m:=firstArgMember _ _) (Ow (a:=Kt) (by first|rfl|(simp only[firstArgMember]; rfl)) (Km ?_ (by size_fits)))
 simp only[raiseNew];refine Jc (Q1 ?_)
 first|rw[show A.in1.handled=td from hh]|rw[hh]
 exact Jc (Js (Ry (hE _ _ (((MA ..).extBut.push _).push _) #[_,JH _ rfl,rfl])))
end
inductive Zs where|tup (a:Jn)|lst (a:Jn)|txt (x:JG)
abbrev Zs.T (it:Jn):Zs->Jg->Kl->Prop
 | .tup a,i,h=>h.IsTupleIter it a i
 | .lst a,i,h=>h.IsListIter it a i
 | .txt x,i,h=>∃t,h.IsStrIter it "str_ascii_iterator" x t i\/h.IsStrIter it "str_iterator" x t i
abbrev Zs.at (K:Jx)(H:Hp)(i:Jg)(v:V):Zs->Prop
 | .tup a=>∃xs,SqT K H a xs/\xs[i]?=gV v
 | .lst a=>∃xs,SqL K H a xs/\xs[i]?=gV v
 | .txt x=>∃c,x.cps[i]?=gV c/\v=.str #[[c].toArray]
abbrev Zs.out (K:Jx)(H:Hp)(i:Jg):Zs->Prop
 | .tup a=>∃xs,SqT K H a xs/\xs.length<=i
 | .lst a=>∃xs,SqL K H a xs/\xs.length<=i
 | .txt x=>x.cps.size<=i
def Zs.keep {S:Zs}{it:Jn}{j:Jg}{h h':Kl}(t:S.T it j h)(k:∀o,h.get? it=gV o->h'.get? it=gV o):S.T it j h':=by
 cases S with
 | tup a=>exact t.at k
 | lst a=>exact t.at k
 | txt x=>
  obtain⟨tk,t⟩:=t;exact#[tk,t.imp (λ#[o,e,r]=>#[o,k _ e,r]) λ#[o,e,r]=>#[o,k _ e,r]]
section
variable{X:Cx}{J:Ja (Jn×KZ)}{Y:L2.St}{H:Hp}{s:Jh}
def xp (I:Inv X J Y H s){a b:Jn}{o:KZ}(h:X.K.lookup a=gV o)(f:i7 X J H b):a≠b:=λz=>by
 subst z;have hb:=I.ok.mod.kin a o h;rcases f.2.2.2.1 with q|q
 ·exact I.ok.noex a o hb q
 ·exact absurd (JW (JJ (I.ok.bs a o hb).1) q) (KC _)
end
end Mi
namespace Mi
open PySem PySem.Spec PyProof.Rows L2
open PySem.Builtin.SmallTypes (nextOf)
section
variable{X:Cx}{J:Ja (Jn×KZ)}{Y:L2.St}{H:Hp}{s:Jh}{h':Kl}
def xq {a b:Jn}{u:HO}(h:Rd H a u)(f:H b=td):a≠b:=λz=>by
 subst z;rcases h with h|⟨o,h⟩ <;> (rw[f]at h; cases h)
def Inv.turnedL {t':Jg}{ch:Ja Jn}(I:Inv X J Y H s)(k:∀b o,b∉ch->s.heap.get? b=gV o->h'.get? b=gV o)(hf:∀b∈ch,i7 X J H b):Inv X J Y H { s with heap:=h',toks:=t' }:=by
 have nit:∀b u,H b=gV u->b∉ch:=λb u e z=>by have:=(hf b z).1; rw[e]at this; cases this
 refine I.step (g':=s.gens) (d':=s.drawn) (ch:=ch) (λb hb=>?_) (λb o _ _ hc e _=>k b o hc e) (λb o _ _ hc e _=>#[o.slots,k b o hc e]) (λ_ _ _ _ n=>n) (λb o hc e=>#[o,k b o hc e]) (λ_ _ e=>e) (λ_ _ _ e=>e) (λb ps e=>#[#[],by rw[e]; simp]) (λm hm=>?_) (λb u e=>?_) I.bare
 ·obtain⟨_,f1,_,f3,f4,f5⟩:=hf b hb;exact#[f3,f1,f4,f5]
 ·obtain⟨o,es,ep,ho,r⟩:=hm;exact#[o,es,ep,k _ o (λz=>(hf _ z).2.1 rfl) ho,r]
 ·refine(I.hok b u e).stay (λc v hc q=>k c v ?_ q) (λ_ q=>q) λ_ _ q=>q
  rcases hc with z|z
  ·rw[z]; exact nit b u e
  ·exact nit c _ z
def Zs.zit {S:Zs}{it z q i1 i2:Jn}{i:Jg}{Uq:Ji V}(I:Inv X J Y H s)(hf:∀b∈[z,q,i1,i2],i7 X J H b)(g:match Uq with|some v=>S.at X.K H i v|none=>S.out X.K H i) :
  ∃C,Zit X.prog X.w it (S.T it) C i (Uq.map λv u=>RelV v u)/\C s.heap/\Zc z q i1 i2 C:=by
 have zc:∀(a:Jn) (P:Kl->Prop),(∀h h',P h->(∀o,h.get? a=gV o->h'.get? a=gV o)->P h')->(∀b∈[z,q,i1,i2],a≠b)->Zc z q i1 i2 P:=λa P hP hn h h' p k=>
  hP h h' p λo e=>k a o (hn z (by simp)) (hn q (by simp)) (hn i1 (by simp)) (hn i2 (by simp)) e
 have sep:∀ {a:Jn} {u:HO} {o:KZ} {b:Jn},(Rd H a u\/X.K.lookup a=gV o)->b∈[z,q,i1,i2]->a≠b:=λh hb=>h.elim (λr=>xq r (hf _ hb).1) λr=>xp I r (hf _ hb)
 cases S with
 | tup a=>
  obtain⟨xs,hq,hx⟩ : ∃xs,SqT X.K H a xs/\(match Uq with|some v=>xs[i]?=gV v|none=>xs.length<=i):=by
   cases Uq <;> exact g
  obtain⟨its,rv,p,_⟩:=I.tuple hq;have hne:∀b∈[z,q,i1,i2],a≠b:=λb hb=>by
   rcases hq with r|⟨o,_,_,r,_⟩
   ·exact xq r (hf b hb).1
   ·exact xp I r (hf b hb)
  refine#[λh=>h.IsTuple a its.toArray,#[λj h h' t k=>Zs.keep (S:=.tup a) t k,λV hV B s2 Q E t c hQ=>?_,λhU B s2 Q E hh t c hE=>?_],p,zc a _ (λh h' #[o,e,r] k=>#[o,k _ e,r]) hne]
  ·cases Uq with
   | none=>cases hV
   | some v=>
    cases hV;obtain⟨u,hu,ru⟩:=rv.get hx;exact Fu t c (x:=u) (by simpa using hu) λh' t' sb=>hQ u h' s2.toks ru t' sb
  ·cases Uq with
   | some v=>cases hU
   | none=>
    have:=L2.Vals.length rv;have hx':xs.length<=i:=hx;exact Fv hh t c (by simp; omega) hE
 | lst a=>
  obtain⟨xs,hq,hx⟩ : ∃xs,SqL X.K H a xs/\(match Uq with|some v=>xs[i]?=gV v|none=>xs.length<=i):=by
   cases Uq <;> exact g
  obtain⟨its,rv,p,_⟩:=I.list hq;have hne:∀b∈[z,q,i1,i2],a≠b:=λb hb=>by
   rcases hq with r|⟨o,_,_,r,_⟩
   ·exact xq r (hf b hb).1
   ·exact xp I r (hf b hb)
  refine#[λh=>h.IsList a its.toArray,#[λj h h' t k=>Zs.keep (S:=.lst a) t k,λV hV B s2 Q E t c hQ=>?_,λhU B s2 Q E hh t c hE=>?_],p.isList,zc a _ (λh h' #[o,e,r] k=>#[o,k _ e,r]) hne]
  ·cases Uq with
   | none=>cases hV
   | some v=>
    cases hV;obtain⟨u,hu,ru⟩:=rv.get hx;exact wpAny_nextOf_list_item t c (x:=u) (by simpa using hu) λh' t' sb=>hQ u h' s2.toks ru t' sb
  ·cases Uq with
   | some v=>cases hU
   | none=>
    have:=L2.Vals.length rv;have hx':xs.length<=i:=hx;exact wpAny_nextOf_list_end hh t c (by simp; omega) hE
 | txt x=>
  refine#[λ_=>Qp,#[λj h h' t k=>Zs.keep (S:=.txt x) t k,λV hV B s2 Q E t _ hQ=>?_,λhU B s2 Q E hh t _ hE=>?_],trivial,λ_ _ _ _=>trivial]
  ·cases Uq with
   | none=>cases hV
   | some v=>
    cases hV;obtain⟨c,hc,rfl⟩ : ∃c,x.cps[i]?=gV c/\v=.str #[[c].toArray]:=g;obtain⟨tk,t|t⟩:=t
    ·exact wpAny_nextOf_ascii_item t hc λh' t' sb=>hQ _ h' _ #[_,rfl] #[tk,.inl t'] sb
    ·exact wpAny_nextOf_wide_item t hc λh' t' sb=>hQ _ h' _ #[_,rfl] #[tk,.inr t'] sb
  ·cases Uq with
   | some v=>cases hU
   | none=>
    have hx:x.cps[i]?=td:=by simpa using(show x.cps.size<=i from g)
    obtain⟨tk,t|t⟩:=t
    ·exact wpAny_nextOf_ascii_end hh t hx hE
    ·exact wpAny_nextOf_wide_end hh t hx hE
end
abbrev Zs.is (K:Jx)(H:Hp)(i:Jg)(v:V):Zs->Prop
 | .tup a=>∀xs,SqT K H a xs->xs[i]?=gV v
 | .lst a=>∀xs,SqL K H a xs->xs[i]?=gV v
 | .txt x=>∃c,x.cps[i]?=gV c/\v=.str #[[c].toArray]
def Zs.at_is {S:Zs}{X:Cx}{J:Ja (Jn×KZ)}{Y:L2.St}{H:Hp}{s:Jh}{i:Jg}{v:V}(I:Inv X J Y H s)(h:S.at X.K H i v):S.is X.K H i v:=by
 cases S with
 | tup a=>obtain⟨xs,hq,hx⟩:=h; exact λys hy=>by rw[I.tuple_inj hy hq]; exact hx
 | lst a=>obtain⟨xs,hq,hx⟩:=h; exact λys hy=>by rw[I.list_inj hy hq]; exact hx
 | txt x=>exact h
end Mi
namespace Mi
open PySem PySem.Spec PyProof.Rows L2
abbrev GZ:W->Ji (Ja W)
 | .tup xs=>gV xs
 | .str x=>gV (x.cps.toList.map λc=>.str #[[c].toArray])
 | _=>td
section
variable{X:Cx}{J:Ja (Jn×KZ)}{Y:L2.St}{H:Hp}{s:Jh}{A:Ja Jn}
abbrev ZRel (K:Jx)(A:Ja Jn)(H:Hp)(xs:Ja W):Zs->Prop
 | .tup a=>∃vs,SqT K H a vs/\RelL K A H xs vs
 | .lst a=>KA
 | .txt x=>xs=x.cps.toList.map λc=>.str #[[c].toArray]
def ZRel.mono {K:Jx}{A A':Ja Jn}{H H':Hp}{xs:Ja W}{S:Zs}(e:Ext K A H A' H')(h:ZRel K A H xs S):ZRel K A' H' xs S:=by
 cases S with
 | tup a=>obtain⟨vs,h1,h2⟩:=h; exact#[vs,e.tp _ _ h1,h2.mono e]
 | lst a=>exact h
 | txt x=>exact h
def ZRel.at {K:Jx}{xs:Ja W}{S:Zs}{i:Jg}{w:W}(h:ZRel K A H xs S)(hi:xs[i]?=gV w):∃v,S.at K H i v/\Rel K A H w v:=by
 cases S with
 | tup a=>obtain⟨vs,h1,h2⟩:=h; obtain⟨v,h3,h4⟩:=h2.get hi; exact#[v,#[vs,h1,h3],h4]
 | lst a=>exact h.elim
 | txt x=>
  have h:xs=x.cps.toList.map λc=>.str #[[c].toArray]:=h
  subst h;rw[Jl,Jf]at hi;obtain⟨c,hc,rfl⟩:=hi;exact#[.str #[[c].toArray],#[c,by rw[<- K1]; exact hc,rfl],.str]
def ZRel.is {K:Jx}{xs:Ja W}{S:Zs}{i:Jg}{w:W}{v:V}(h:ZRel K A H xs S)(hi:xs[i]?=gV w)(z:S.is K H i v):Rel K A H w v:=by
 obtain⟨v',h1,h2⟩:=h.at hi;cases S with
 | tup a=>
  obtain⟨vs,q,e⟩:=h1;have:=z vs q;rw[e]at this; cases this
  exact h2
 | lst a=>exact h.elim
 | txt x=>
  obtain⟨c,e,rfl⟩:=h1;obtain⟨c',e',rfl⟩:=z;rw[e]at e'; cases e'
  exact h2
def ZRel.out {K:Jx}{xs:Ja W}{S:Zs}{i:Jg}(h:ZRel K A H xs S)(hi:xs.length<=i):S.out K H i:=by
 cases S with
 | tup a=>obtain⟨vs,h1,h2⟩:=h; exact#[vs,h1,by rw[<- h2.length]; exact hi]
 | lst a=>exact h.elim
 | txt x=>
  have h:xs=x.cps.toList.map λc=>.str #[[c].toArray]:=h
  subst h;show x.cps.size<=i
  simpa using hi
def AU {x:W}{v:V}{u:Jd}{xs:Ja W}(I:Inv X J Y H s)(r:Rel X.K A H x v)(ru:RelV v u)(e:GZ x=gV xs) :
  ∃(S:Zs) (o:KZ) (C:Kl->Prop),ZRel X.K A H xs S/\qR X.prog X.w u o C/\C s.heap/\(∀h o,C h->C (h.push o))/\o.isFreed=false/\∀it h,h.get? it=gV o->S.T it 0 h:=by
 cases r with
 | @tup ws a vs hq rl=>
  cases e;obtain⟨its,rv,p,_⟩:=I.tuple hq;obtain rfl:u=Kj a:=ru;exact#[.tup a,{ cls:=.type "tuple_iterator",data:=.fields [.ref a,.int 0 0].toArray },λh=>h.IsTuple a its.toArray,#[vs,hq,rl],λB s Q E c hQ=>Pb c hQ,p,λh o #[ot,e,r]=>#[ot,Jm _ e,r],rfl,λit h e=>#[_,e,rfl,rfl]]
 | @str x=>
  cases e;obtain⟨t,rfl⟩:=ru;cases ha:x.cps.all (· < 128)with
  | false=>exact#[.txt x,{ cls:=.type "str_iterator",data:=.fields [.str x t,.int 0 0].toArray },λ_=>Qp,rfl,λB s Q E _ hQ=>wpAny_pyIter_wide ha hQ,trivial,λ_ _ _=>trivial,rfl,λit h e=>#[t,.inr #[_,e,rfl,rfl]]]
  | true=>exact#[.txt x,{ cls:=.type "str_ascii_iterator",data:=.fields [.str x t,.int 0 0].toArray },λ_=>Qp,rfl,λB s Q E _ hQ=>wpAny_pyIter_ascii ha hQ,trivial,λ_ _ _=>trivial,rfl,λit h e=>#[t,.inl #[_,e,rfl,rfl]]]
 | _=>cases e
end
open PySem.Builtin.SmallTypes (nextOf)
section
variable{prog:J0}{w:Kc}{B:J7}{E:Jd->Jh->Prop}{s:Jh}{e it:Jn}{T:Jg->Kl->Prop}{C:Kl->Prop}{i:Jg}{old:Jd}
structure EnAt (h0 h:Kl)(e it:Jn)(fs:Kh Jd)(T:Kl->Prop):Prop where
 here:h.get? e=gV { cls:=.type "enumerate",dict:=td,data:=.fields fs,slots:=#[] }
 turn:T h
 kept:∀b o,b≠e->b≠it->h0.get? b=gV o->h.get? b=gV o
def EnAt.put {h0:Kl}{fs:Kh Jd}{T:Kl->Prop}{k:Jg}{v:Jd}{Q:Unit->Jh->Prop}(x:EnAt h0 s.heap e it fs T)(hne:e≠it)(kT:∀h h',T h->(∀o,h.get? it=gV o->h'.get? it=gV o)->T h')(hk:k < fs.size)
  (q:∀h',EnAt h0 h' e it (fs.setIfInBounds k v) T->LS e s.heap h'->Q () { s with heap:=h' }):wpAny (model prog w) B (setField (.ref e) k v) Q E s:=
 wpAny_setField_rec x.here hk λh' y sb=>q h' #[y,kT _ _ x.turn λo z=>sb.extBut _ _ (Ne.symm hne) z,λb o h1 h2 z=>sb.extBut b o h1 (x.kept b o h1 h2 z)] sb
def mF {Uq:Ji (Jd->Prop)}{Q:Jd->Jh->Prop}(Zz:Zit prog w it T C i Uq)(hh:B.handled=td)(he:RN s.heap e it (i:Jk) old)(t:T i s.heap)(c:C s.heap)(hne:e≠it)
  (hI:∀V,Uq=gV V->∀u h' tk tk0,V u->IsEnumOut h' e it ((i:Jk)+1) u s.heap.objs.size->T (i+1) h'->h'.get? s.heap.objs.size=gV { cls:=.type "tuple",data:=.seq [.int i tk0,u].toArray }->
   (∀b o,b≠e->b≠it->s.heap.get? b=gV o->h'.get? b=gV o)->Q (.ref s.heap.objs.size) { s with heap:=h',toks:=tk })
  (hE:Uq=td->∀h' x,Ov it s.heap h'->(∃o,h'.get? x=gV o/\o.cls=.type "StopIteration")->E (.ref x) { s with heap:=h' }) :
  wpAny (model prog w) B (N3.«enumerate.__next__» #[[.ref e],[]]) (λfin s'=>∃v,fin=.done (.ret v)/\Q v s') E s:=by
 obtain⟨hp,g,d,tk,os⟩:=s;show wpAny _ _ (field (.ref e) 2 >>= _) _ _ _;refine Jc (Ls he rfl (x:=.ref it) rfl (Jc ?_));cases Uq with
 | none=>exact Zz.stop rfl _ _ _ _ hh t c λh' x a b=>hE rfl h' x a b
 | some V=>
  refine Zz.next V rfl _ _ _ _ t c λu ha tka hu ta sba=>?_
  have kT:=Zz.keep (i+1);have xa:EnAt hp ha e it [.none,.bool false,.ref it,rawInt i,.none,old].toArray (T (i+1)):=#[(sba.2 e hne).trans he,ta,λb o _ h2 z=>sba.extBut b o h2 z]
  have za:ha.objs.size=hp.objs.size:=sba.1;clear sba ta;show wpAny _ _ (field (.ref e) 3 >>= _) _ _ #[ha,g,d,tka,os];refine Jc (Ls xa.here rfl (x:=rawInt i) rfl ?_);show wpAny _ _ (field (.ref e) 4 >>= _) _ _ #[ha,g,d,tka,os];refine Jc (Ls xa.here rfl (x:=.none) rfl ?_);show wpAny _ _ (mkInt i >>= _) _ _ #[ha,g,d,tka,os];refine Jc (Qd (Jc (xa.put (s:=#[ha,g,d,tka+1,os]) hne kT (by simp) λhb xb sb1=>Jc (xb.put (s:=#[hb,g,d,tka+1,os]) hne kT (by simp) λhc xc sb2=>Jc (QG ?_)))))
  have zc:hc.objs.size=hp.objs.size:=by rw[sb2.1,<- za]; exact sb1.1
  have hel:hp.objs.size≠e:=Ma (JJ he);have new:=JH hc (o:={ cls:=.type "tuple",data:=.seq [.int i tka,u].toArray }) rfl;have xd:EnAt hp (hc.push { cls:=.type "tuple",data:=.seq [.int i tka,u].toArray }) e it [.none,.bool false,.ref it,rawInt ((i:Jk)+1),.none,old].toArray (T (i+1)):=#[Jm _ xc.here,kT _ _ xc.turn λo z=>Jm _ z,λb o h1 h2 z=>Jm _ (xc.kept b o h1 h2 z)]
  rw[zc]at new;show wpAny _ _ (ME (.ref e) >>= _) _ _ #[hc.push _,g,d,tka+1,os];rw[zc];generalize hc.push { cls:=.type "tuple",data:=.seq [.int i tka,u].toArray }=hd at new xd ⊢;clear zc sb2 xc sb1 xb hb xa za;refine Jc ?_;unfold ME;refine Jc (Ls xd.here rfl (x:=.none) rfl (Js ?_));simp only[LV];refine Jc (O1 (Jc (Ls xd.here rfl (x:=old) rfl (Jc (xd.put (s:=#[hd,g,d,tka+1,os]) hne kT (by simp) λh1 x1 s1=>Jc ?_)))))
  unfold OO;refine Jc (x1.put (s:=#[h1,g,d,tka+1,os]) hne kT (by simp) λh2 x2 s2=>x2.put (s:=#[h2,g,d,tka+1,os]) hne kT (by simp) λh3 x3 s3=>Jc (M3 (Js #[_,rfl,hI V rfl u h3 (tka+1) tka hu x3.here x3.turn ?_ x3.kept])))
  exact s3.extBut _ _ hel (s2.extBut _ _ hel (s1.extBut _ _ hel new))
variable{v:Jd}{o:KZ}
def ph (h1:qR prog w v o C) :
  MeetsIn prog w (N3.«enumerate.__new__» #[[.type "enumerate",v],[]]) (λ_ R s=>C s.heap/\R (.ok (.ret (.ref (s.heap.push o).objs.size))) { s with heap:=(s.heap.push o).push { cls:=.type "enumerate",data:=.fields [.none,.bool false,.ref s.heap.objs.size,rawInt 0,.none,.none].toArray } }):=
 .of_wp λA R s h=>by
  obtain⟨hp,g,d,tk,os⟩:=s;obtain⟨c,h⟩:=h;have hsub:=sub_enumerate;have d1:∀(B:J7) (Q:Jd->Jh->Prop) (E:Jd->Jh->Prop),Q (.ref hp.objs.size) #[hp.push o,g,d,tk,os]->wpAny (model prog w) B (pyIter v) Q E #[hp,g,d,tk,os]:=λB Q E q=>h1 B #[hp,g,d,tk,os] Q E c q
  wp_walk
  refine wpAny_stack_any λst=>Js ?_
  split
  ·rename_i c _ _ _ _ _;cases(c==Mp "enumerate")
   ·wp_walk using d1 _ _ _
    exact#[_,rfl,h]
   ·wp_walk using d1 _ _ _
    exact#[_,rfl,h]
  ·wp_walk using d1 _ _ _
   exact#[_,rfl,h]
def uG {Q:Jd->Jh->Prop}(h1:qR prog w v o C)(c:C s.heap)(n1:o.isFreed=false)
  (h:∀h',RN h' (s.heap.objs.size+1) s.heap.objs.size 0 .none->h'.get? s.heap.objs.size=gV o->(∀b o,s.heap.get? b=gV o->h'.get? b=gV o)->Q (.ref (s.heap.objs.size+1)) { s with heap:=h' }) :
  wpAny (model prog w) B (call (.type "enumerate") [v]) Q E s:=by
 refine callType_newIn F.called_enumerate #v[] (F.typeCall_enumerate_1 _) (F.newCall_enumerate_1 _) (λobj=>F.args_object_init_2 obj _) F.entry_enumerate_new (ph h1) #[c,?_]
 have hz:(s.heap.push o).objs.size=s.heap.objs.size+1:=QI ..;show _/\_;rw[hz];have he:RN ((s.heap.push o).push { cls:=.type "enumerate",data:=.fields [.none,.bool false,.ref s.heap.objs.size,rawInt 0,.none,.none].toArray }) (s.heap.objs.size+1) s.heap.objs.size 0 .none:=by
  have:=JH (s.heap.push o) (o:={ cls:=.type "enumerate",data:=.fields [.none,.bool false,.ref s.heap.objs.size,rawInt 0,.none,.none].toArray }) rfl;rw[hz]at this; exact this
 exact#[#[_,he,rfl],h _ he (Jm _ (JH _ n1)) λb o x=>Jm _ (Jm _ x)]
end
abbrev Ix (K:Jx)(S1:Zs):It:=
 #[λi H=>∃x,S1.at K H i x,λi H v H'=>∃p x,S1.is K H i x/\v=.ref p/\H p=td/\H'=bS H p (.tup [.int i,x]),λi H=>S1.out K H i]
def uH {P:J0}{w:Kc}{K:Jx}{els:Ja JM}{k0:Jg}{tp:LJ}{S1:Zs}{z i1:Jn}(D:z≠i1) :
  Turn P w K (.Tuple els k0 tp) (Ix K S1) [z,i1] z (λi h=>(∃old,RN h z i1 i old)/\S1.T i1 i h) where
 mem:=by simp
 obj:=λi h #[#[old,a],d] b' hb=>by
  have it:∀ {S:Zs} {it:Jn},S.T it i h->∃o,h.get? it=gV o/\∀v,o.data≠.cell v:=λ{S it} t=>by
   cases S with
   | tup a=>obtain⟨o,e,_,d⟩:=t; exact#[o,e,λv z=>by rw[d]at z; cases z]
   | lst a=>obtain⟨o,e,_,d⟩:=t; exact#[o,e,λv z=>by rw[d]at z; cases z]
   | txt x=>obtain⟨tk,⟨o,e,_,d⟩|⟨o,e,_,d⟩⟩:=t <;> exact#[o,e,λv z=>by rw[d]at z; cases z]
  simp only[JR,Ks,LX]at hb;rcases hb with rfl|rfl
  ·exact#[_,a,λv z=>by cases z]
  ·exact it d
 keep:=λi h h' #[#[old,a],d] k=>#[#[old,k z (by simp) _ a],Zs.keep d (k i1 (by simp))]
 item:=by
  intro X hP hw hK hc i J s Y H E I hf st hg;subst hP hw hK;obtain⟨x,g1⟩:=hg;obtain⟨⟨old,a⟩,d⟩:=st;have hf4:∀b∈[z,z,i1,i1],i7 X J H b:=λb hb=>hf b (by simp only[JR,Ks,LX]at hb ⊢; rcases hb with h|h|h|h <;> simp[h])
  obtain⟨C1,Zq,c1,k1⟩:=Zs.zit (it:=i1) (Uq:=gV x) I hf4 g1;have hT:s.TypeIs (.ref z) "enumerate":=#[_,a,rfl];unfold pyNext;refine Jc (NH (Kx (name:=LD "__next__") hT F.slot_enumerate_next (KI F.slot_enumerate_next hT F.entry_enumerate_next ?_ (F.args_enumerate_next_1 _))));refine mF Zq (I.ok.hd hc) a d c1 D (λV e1 u g tk tk0 r1 zg t1 ng kp=>?_) (λz=>by cases z)
  cases e1;refine Js #[_,rfl,?_];refine wpAny_letOwnedTupleGo_enum (s:={ s with heap:=g,toks:=tk }) zg λg' zg' sb=>?_
  have N0:H s.heap.objs.size=td:=I.hok.fresh (Jo _);have lt:∀ {b:Jn},b∈[z,i1]->s.heap.objs.size≠b:=λ{b} hb=>by
   have:∃o,s.heap.get? b=gV o:=by
    have it:∀ {S:Zs} {it:Jn},S.T it i s.heap->∃o,s.heap.get? it=gV o:=λ{S it} t=>by
     cases S with
     | tup a=>obtain⟨o,e,_⟩:=t; exact#[o,e]
     | lst a=>obtain⟨o,e,_⟩:=t; exact#[o,e]
     | txt x=>obtain⟨tk,⟨o,e,_⟩|⟨o,e,_⟩⟩:=t <;> exact#[o,e]
    simp only[JR,Ks,LX]at hb;rcases hb with rfl|rfl
    ·exact#[_,a]
    ·exact it d
   obtain⟨o,e⟩:=this;exact Ma (JJ e)
  have up:∀b o,b∉[z,i1]->s.heap.get? b=gV o->g'.get? b=gV o:=λb o hb e=>by
   simp only[JR,Ks,LX,Rj]at hb;exact sb.extBut _ _ hb.1 (kp b o hb.1 hb.2 e)
  have I1:Inv X J Y H { s with heap:=g',toks:=tk }:=Mi.Inv.turnedL I up hf
  have ng':g'.get? s.heap.objs.size=gV { cls:=.type "tuple",data:=.seq [.int i tk0,u].toArray }:=sb.extBut _ _ (lt (by simp)) ng
  have I2:Inv X J Y (bS H s.heap.objs.size (.tup [.int i,x])) { s with heap:=g',toks:=tk }:=by
   refine Mi.Inv.adopt I1 N0 (.inr I.sz) (Ma I.lt) (λw c e=>?_) (λp hp=>?_) #[#[by show 2<=sizeLine; decide,#[_,ng',rfl]],[.int i tk0,u],.cons #[_,rfl] #v[r1],#[_,ng',rfl,0,rfl]]
   ·obtain⟨v,q⟩:=I.cell w c e;exact J1 q.lt
   ·exact J1 (JJ (I.pin p hp).1)
  refine#[.ref s.heap.objs.size,_,I2,rfl,#[s.heap.objs.size,x,Zs.at_is I g1,rfl,N0,rfl],#[#[_,zg'],Zs.keep t1 λo e=>sb.extBut _ _ (Ne.symm D) e],λb hb=>?_]
  rw[aI (Ne.symm (lt hb))];exact(hf b hb).1
 done:=by
  intro X hP hw hK hc i J s Y H E I hf st hg;subst hP hw hK;obtain⟨⟨old,a⟩,d⟩:=st;have hf4:∀b∈[z,z,i1,i1],i7 X J H b:=λb hb=>hf b (by simp only[JR,Ks,LX]at hb ⊢; rcases hb with h|h|h|h <;> simp[h])
  obtain⟨C1,Zq,c1,k1⟩:=Zs.zit (it:=i1) (Uq:=td) I hf4 hg;have hT:s.TypeIs (.ref z) "enumerate":=#[_,a,rfl];unfold pyNext;refine Jc (NH (Kx (name:=LD "__next__") hT F.slot_enumerate_next (KI F.slot_enumerate_next hT F.entry_enumerate_next ?_ (F.args_enumerate_next_1 _))));refine mF Zq (I.ok.hd hc) a d c1 D (λV e1=>by cases e1) λ_ h' e k #[o,ho,hc]=>?_
  exact Jc (NS (T:="StopIteration") (b:=true) #[o,ho,hc] QE (Js #[rfl,Mi.Inv.turnedL (t':=s.toks) I (λb o hb e=>by
    simp only[JR,Ks,LX,Rj]at hb;exact k b o hb.2 e) hf]))
 self:=λ_ _ _ _ _ st h=>by obtain⟨⟨old,a⟩,_⟩:=st; exact PH a h
abbrev ji (xs:Ja W):Ja W:=xs.zipIdx.map λp=>.tup [.int (p.2:Jg),p.1]
def kI {xs:Ja W}{i:Jg}{w:W}(h:(ji xs)[i]?=gV w):∃x,xs[i]?=gV x/\w=.tup [.int i,x]:=by
 unfold ji at h;rw[Jl,List.getElem?_zipIdx,Option.map_map,Jf]at h;obtain⟨x,h1,rfl⟩:=h;exact#[x,h1,by simp]
abbrev xr (f:FA):FI:=λZ S=>match f Z S with
 | some ([x],S1)=>match GZ x with
  | some xs=>gV (.its (ji xs),S1)
  | none=>td
 | _=>td
section
variable{X:Cx}{J:Ja (Jn×KZ)}{Y:L2.St}{H:Hp}{s:Jh}{A:Ja Jn}
def xt {S1:Zs}{xs:Ja W}(z1:ZRel X.K A H xs S1):MIt X.w X.K (.its (ji xs)) (Ix X.K S1) A H:=by
 refine#[λA' H' S i w e so hi=>?_,λA' H' S i e so hi=>?_]
 ·simp only[MI.at,J3]at hi;obtain⟨x,e1,rfl⟩:=kI hi;obtain⟨v,g1,r1⟩:=(z1.mono e).at e1;refine#[#[v,g1],λp H2 #[a,v',q1,hp,hn,hH]=>?_]
  subst hp hH;have ex:Ext X.K A' H' A' (bS H' a (.tup [.int i,v'])):=dm (.inl hn);exact#[ex,so.lay hn,.tup (.of be) #v[.int,((z1.mono e).is e1 q1).mono ex]]
 ·simp only[MI.at,J3,Li,ji,Jb,List.length_zipIdx]at hi;exact(z1.mono e).out hi
def uI:bootBuiltins "enumerate" = gV (.type "enumerate"):=rfl
def AV {els:Ja JM}{k0:Jg}{tp:LJ}{a:JM}{f:FA}{p pos:LJ}(hg:Gl X "enumerate")(hm:X.mg "enumerate" = td)(ha:GA X [a] f)(hs:starEach [a] X.env=[(false,eval a X.env)]) :
  GI X (.Tuple els k0 tp) (.Call (.Name "enumerate" p) [a] [] pos) (xr f):=by
 intro J s Y H R I ⟨A,Z,S,mi,S',er,so,e,hq⟩;unfold xr at e;split at e
 ·rename_i x S1 h1;split at e
  ·rename_i xs e1;cases e;refine Call_ (i4 I hg hm uI (LC (bj (ha pos J s Y H _ I #[A,Z,S,_,_,er,so,h1,λ_ _ z=>z]) λus s1 #[vs,H1,I1,r1,A1,z1,z2,z3]=>?_) (by rw[hs]; rfl) (by rfl)))
   cases z3 with
   | cons ra t=>
    cases t;cases r1 with
    | cons ua t=>
     cases t;obtain⟨Sa,oa,Ca,za,ia,ca,ka,na,ta⟩:=AU I1 ra ua e1;refine uG ia ca na λh' hz g1 kp=>?_
     have I2:Inv X J Y H1 { s1 with heap:=h' }:=I1.kept (t':=s1.toks) kp
     refine PH (s:={ s1 with heap:=h' }) hz ?_
     refine#[s1.heap.objs.size+1,_,_,_,H1,rfl,I2,uH (S1:=Sa) (i1:=s1.heap.objs.size) (by simp),#[#[_,hz],ta _ _ g1],λb hb=>?_,hq _ _ A1 z1 z2 (xt za)]
     have hb':s1.heap.objs.size<=b:=by
      simp only[JR,Ks,LX]at hb;rcases hb with rfl|rfl
      ·exact Nat.le_add_right _ _
      ·exact Jo _
     exact I1.fpOk hb' (I1.hok.fresh hb')
  ·cases e
 ·cases e
end
end Mi
namespace Mi
open PySem PySem.Spec PyProof.Rows L2
abbrev EB (g1 g2:Ja W->aa->Ji (W×aa))(xs:Ja W)(S:aa):Ji (W×aa):=match g1 xs S with
 | some r=>gV r
 | none=>g2 xs S
def xu {X:Cx}{f:Jd}{g1 g2:Ja W->aa->Ji (W×aa)}(h1:LCall X f g1)(h2:LCall X f g2):LCall X f (EB g1 g2):=by
 intro J s Y H A S xs vs us w S' I so rl rv e;unfold EB at e;split at e
 ·rename_i r hr;cases e;exact h1 J s Y H A S xs vs us w S' I so rl rv hr
 ·exact h2 J s Y H A S xs vs us w S' I so rl rv e
inductive Bi where|len|list|tuple|int|sorted|range|min
 deriving Mo
abbrev Bi.fn:Bi->Ja W->aa->Ji (W×aa)
 | .len=>qJ|.list=>EB ko kC|.tuple=>kE|.int=>Fc|.sorted=>iF|.range=>qE|.min=>An
abbrev Bi.name:Bi->JG
 | .len=>"len"|.list=>"list"|.tuple=>"tuple"|.int=>"int"|.sorted=>"sorted"|.range=>"range"|.min=>"min"
inductive Me where|append|extend|pop|get|index
 deriving Mo
abbrev Me.fn:Me->W->Ja W->aa->Ji (W×aa)
 | .append=>iz|.extend=>iA|.pop=>Ai|.get=>sj|.index=>iB
abbrev Me.name:Me->JG
 | .append=>"append"|.extend=>"extend"|.pop=>"pop"|.get=>"get"|.index=>"index"
abbrev Me.ty:Me->KL
 | .append=>"list"|.extend=>"list"|.pop=>"list"|.get=>"dict"|.index=>"tuple"
inductive Tg where
 | nm (i:Jg)|tp (is:Ja Jg)
set_option genSizeOf false in
set_option genInjectivity false in
mutual
inductive E where
 | c (w:W)|v (i:Jg)
 | op (o:BOp) (a b:E)
 | cmp (o:COp) (a b:E)
 | and (a b:E)|or (a b:E)|not (a:E)
 | own (f:JG) (n:Jg) (es:Es)|ow2 (f g:JG) (n:Jg) (i:E) (es:Es)|bi (b:Bi) (es:Es)|me (m:Me) (o:E) (es:Es)
 | ix (a b:E)|sl (a:E) (lo hi:Ep)|tup (es:Es)|lst (es:Es)
 | isi (c:KL) (a:E)
 | neg (a:E)|dnew|disp (es:Es)|chn (o o':COp) (a b d:E)|ite (t a b:E)
 | comp (elt:E) (tg:Tg) (it:Ie) (cs:Es) (cap:Ja (Ji Jg))
inductive Es where
 | nil|cons (e:E) (es:Es)
inductive Ep where
 | no|yes (e:E)
inductive Ie where
 | seq (e:E)|rng (es:Es)|rng2 (es:Es)|enu (es:Es)
end
set_option genSizeOf false in
set_option genInjectivity false in
mutual
inductive Sm where
 | set (i:Jg) (e:E)|asg (is:Ja Jg) (e:E)|par (i j:Jg) (es:Es)|put (o k e:E)
 | ex (e:E)|ret (e:E)|pass
 | ite (t:E) (a b:Ss)|whl (t:E) (b:Ss)|loop (tg:Tg) (it:Ie) (b:Ss)
inductive Ss where
 | nil|cons (s:Sm) (ss:Ss)
end
abbrev eQ:Tg->FG
 | .nm i=>AF i
 | .tp is=>EA is
section
variable (M:JG->FF)
mutual
noncomputable def aA:E->FE
 | .c w=>fC w
 | .v i=>fV i
 | .op o a b=>Ao (iu o) (aA a) (aA b)
 | .cmp o a b=>Ap o (aA a) (aA b)
 | .and a b=>sA (aA a) (aA b)
 | .or a b=>At (aA a) (aA b)
 | .not a=>sB (aA a)
 | .own f n es=>lS n (M f) (cX es)
 | .ow2 f g n i es=>xi n (M f) (M g) (aA i) (cX es)
 | .bi b es=>jD b.fn (cX es)
 | .me m o es=>Ez m.ty m.fn (aA o) (cX es)
 | .ix a b=>HD (aA a) (aA b)
 | .sl a lo hi=>Fk (aA a) (sH lo) (sH hi)
 | .tup es=>wM (cX es)
 | .lst es=>wQ (cX es)
 | .isi c a=>xm c (aA a)
 | .neg a=>wF (aA a)
 | .dnew=>B0
 | .disp es=>pf (cX es)
 | .chn o o' a b d=>fT o o' (aA a) (aA b) (aA d)
 | .ite t a b=>Au (cV t) (aA a) (aA b)
 | .comp elt tg it cs cap=>kH (jQ it) (eQ tg) (AW cs) (aA elt) cap
noncomputable def cV:E->FT
 | .cmp o a b=>pc (Ap o (aA a) (aA b))
 | .and a b=>wK (cV a) (cV b)
 | .or a b=>Fh (cV a) (cV b)
 | .not a=>Aq (cV a)
 | .c w=>gM (fC w)
 | .v i=>gM (fV i)
 | .op o a b=>gM (Ao (iu o) (aA a) (aA b))
 | .own f n es=>gM (lS n (M f) (cX es))
 | .bi b es=>gM (jD b.fn (cX es))
 | .me m o es=>gM (Ez m.ty m.fn (aA o) (cX es))
 | .ix a b=>gM (HD (aA a) (aA b))
 | .sl a lo hi=>gM (Fk (aA a) (sH lo) (sH hi))
 | .tup es=>gM (wM (cX es))
 | .lst es=>gM (wQ (cX es))
 | .isi c a=>gM (xm c (aA a))
 | .neg a=>gM (wF (aA a))
 | .dnew=>λ_ _=>td
 | .disp _=>λ_ _=>td
 | .chn o o' a b d=>pc (fT o o' (aA a) (aA b) (aA d))
 | .ite _ _ _=>λ_ _=>td
 | .ow2 _ _ _ _ _=>λ_ _=>td
 | .comp _ _ _ _ _=>λ_ _=>td
noncomputable def cX:Es->FA
 | .nil=>iG
 | .cons e es=>dG (aA e) (cX es)
noncomputable def AW:Es->FT
 | .nil=>B1
 | .cons e .nil=>cV e
 | .cons _ (.cons _ _)=>λ_ _=>td
noncomputable def sH:Ep->FO
 | .no=>Dr
 | .yes e=>sD (aA e)
noncomputable def jQ:Ie->FI
 | .seq e=>eP (aA e)
 | .rng es=>qN (cX es)
 | .rng2 es=>iRng2 (cX es)
 | .enu es=>xr (cX es)
end
variable (fuel:Jg)
mutual
noncomputable def fM:Sm->FS
 | .set i e=>kG (aA M e) (AF i)
 | .asg is e=>kG (aA M e) (EA is)
 | .par i j es=>AH i j (cX M es)
 | .put o k e=>kG (aA M e) (AG (aA M o) (aA M k))
 | .ex e=>AB (aA M e)
 | .ret e=>AD (aA M e)
 | .pass=>w8
 | .ite t a b=>AE (cV M t) (fW a) (fW b)
 | .whl t b=>nM (cV M t) (fW b) fuel
 | .loop tg it b=>xj (jQ M it) (eQ tg) (fW b)
noncomputable def fW:Ss->FS
 | .nil=>λZ S=>gV (.nx Z,S)
 | .cons s ss=>AA (fM s) (fW ss)
end
end
structure Gam where
 sc:Ja (JG×Lb)
 N:Ja JG
 fns:Ja (JG×Jg)
 blt:Ja JG
 dfn:JL
abbrev DE:Ji Lb->JL
 | some .local=>true|some .cell=>true|some .free=>true|_=>false
abbrev AX:Ji Lb->JL
 | some .cell=>true|some .free=>true|_=>false
abbrev fX (names outer:Ja (JG×Lb)):Ja (JG×Lb):=names.map λ(n,k)=>if (k==.free&&outer.lookup n==gV .cell)then(n,.cell)else(n,k)
abbrev slot (Γ:Gam)(x:JG):Ji Jg:=if DE (Γ.sc.lookup x) && !(x==("__debug__" : JG)) && !(x==("__classdict__" : JG))then Γ.N.findIdx? (· == x)else td
abbrev sI:Pl->Ji BOp
 | .Add=>gV .add|.Sub=>gV .sub|.Mult=>gV .mul|.FloorDiv=>gV .fdiv|.Mod=>gV .mod|.Pow=>gV .pow|_=>td
abbrev jE:Qb->Ji COp
 | .Eq=>gV .eq|.NotEq=>gV .ne|.Lt=>gV .lt|.LtE=>gV .le|.Gt=>gV .gt|.GtE=>gV .ge|.In=>gV .isin|.NotIn=>gV .notin|.Is=>gV .is|.IsNot=>gV .isnot
abbrev AY (x:JG):Ji Bi:=[Bi.len,.list,.tuple,.int,.sorted,.range,.min].find? λb=>b.name==x
abbrev AZ (x:JG):Ji Me:=[Me.append,.extend,.pop,.get,.index].find? λb=>b.name==x
abbrev Fw (Γ:Gam)(x:JG):JL:=Γ.sc.lookup x==gV .globalImplicit && !(x==("__debug__" : JG))
abbrev xv (x:JG):Ji KL:=if x==("bool" : JG)then gV "bool" else if x==("int" : JG)then gV "int" else if x==("str" : JG)then gV "str" else if x==("tuple" : JG)then gV "tuple" else if x==("list" : JG)then gV "list" else if x==("dict" : JG)then gV "dict" else td
abbrev sJ:Ja (Ji JM)->Ja JM->Ja JM
 | some k::ks,v::vs=>k::v::sJ ks vs
 | _,_=>[]
abbrev A6 (Γ:Gam)(f:JM->Ji E):Ja JM->Ji E
 | [a,.Name c _]=>if Fw Γ c&&Γ.blt.contains c then match xv c,f a with
  | some cs,gV a'=>gV (.isi cs a')
  | _,_=>td
  else td
 | _=>td
abbrev gB:JM->JL
 | .Name _ _=>true|.Constant _ _ _=>true|.Subscript _ _ _=>true|_=>false
abbrev gO (Γ:Gam)(x:JG):JL:=Γ.sc.lookup x==gV .globalImplicit && !(x==("__debug__" : JG))
abbrev de (Γ:Gam)(x:JG):Ji Jg:=if (Γ.sc.lookup x==gV .local)||(Γ.dfn&&Γ.sc.lookup x==gV .cell)then Γ.N.findIdx? (· == x)else td
abbrev cA (f:JM->Ji E)(es:Ja JM):Ji Es:=es.foldr (λe acc=>match f e,acc with|some e',gV es'=>gV (.cons e' es')|_,_=>td) (gV .nil)
abbrev cB (f:JM->Ji E)(op:RM):Ja JM->Ji E
 | []=>td
 | [a]=>f a
 | a::b::cz=>match f a,cB f op (b::cz)with
  | some a',gV b'=>gV (match op with|.And=>.and a' b'|.Or=>.or a' b')
  | _,_=>td
abbrev cP (f:JM->Ji E):Ji JM->Ji Ep
 | none=>gV .no
 | some e=>(f e).map .yes
abbrev isTup:JM->JL
 | .Tuple _ _ _=>true
 | _=>false
abbrev cI (Γ:Gam)(f:JM->Ji E)(tg:JM):JM->Ji Ie
 | .Call (.Name x p) [a] [] q=>if x==("range" : JG)&&gO Γ x&&Γ.blt.contains x then(cA f [a]).map .rng else if x==("enumerate" : JG)&&gO Γ x&&Γ.blt.contains x&&isTup tg then(cA f [a]).map .enu else(f (.Call (.Name x p) [a] [] q)).map .seq
 | .Call (.Name x p) [a,b] [] q=>if x==("range" : JG)&&gO Γ x&&Γ.blt.contains x then(cA f [a,b]).map .rng2 else(f (.Call (.Name x p) [a,b] [] q)).map .seq
 | e=>(f e).map .seq
abbrev EC (Γ:Gam):Ja JM->Ji (Ja Jg)
 | []=>gV []
 | .Name x _::ts=>match de Γ x,EC Γ ts with
  | some i,gV is=>gV (i::is)
  | _,_=>td
 | _::_=>td
abbrev cT (Γ:Gam):JM->Ji Tg
 | .Name x _=>(de Γ x).map .nm
 | .Tuple ts _ _=>(EC Γ ts).map .tp
 | _=>td
abbrev gX (names:Ja (JG×Lb)):Ja JG:=(names.filter λp=>p.2==.local||p.2==.free).map (·.1)
abbrev gC (Γ:Gam)(names:Ja (JG×Lb)):Ja (Ji Jg):=(gX names).map λx=>if names.lookup x==gV .local then td else Γ.N.findIdx? (· == x)
abbrev xw (Γ:Gam)(scope:Ml):JL:=
 (scope.kind==.function)&&scope.names.all (λy=>!(y.2==.local)||scope.names.lookup y.1==gV .local)&&scope.names.all (λy=>!(y.2==.cell)) &&
 scope.names.all (λy=>!(y.2==.free)||(AX (Γ.sc.lookup y.1)&&scope.names.lookup y.1==gV .free&&(Γ.N.findIdx? (· == y.1)).isSome))&&decide (gX scope.names).Nodup
abbrev gY (Γ:Gam)(scope:Ml):Gam:={ Γ with sc:=fX scope.names Γ.sc,N:=gX scope.names,dfn:=false }
abbrev xx (f:JM->Ji E)(keys:Ja (Ji JM))(values:Ja JM):Ji E:=
 if keys.isEmpty&&values.isEmpty then gV .dnew
 else if keys.all (·.isSome)&&decide (keys.length=values.length)&&decide (keys.length<=15)then(cA f (sJ keys values)).map .disp else td
abbrev cE:Jg->Gam->JM->Ji E
 | 0,_,_=>td
 | n+1,Γ,e=>match e with
  | .Constant (.int i) _ _=>gV (.c (.int i))
  | .Constant (.str x) _ _=>gV (.c (.str x))
  | .Constant (.bool b) _ _=>gV (.c (.bl b))
  | .Constant .none _ _=>gV (.c .non)
  | .Name x _=>match slot Γ x with
   | some i=>gV (.v i)
   | none=>td
  | .BinOp a op b _=>match sI op,cE n Γ a,cE n Γ b with
   | some o,gV a',gV b'=>gV (.op o a' b')
   | _,_,_=>td
  | .UnaryOp .Not a _=>(cE n Γ a).map .not
  | .UnaryOp .USub a _=>(cE n Γ a).map .neg
  | .BoolOp op vs _=>cB (cE n Γ) op vs
  | .Compare a [op] [b] _=>match jE op,cE n Γ a,cE n Γ b with
   | some o,gV a',gV b'=>gV (.cmp o a' b')
   | _,_,_=>td
  | .Compare a [op,op'] [b,d] _=>match jE op,jE op',cE n Γ a,cE n Γ b,cE n Γ d with
   | some o,gV o',gV a',gV b',gV d'=>gV (.chn o o' a' b' d')
   | _,_,_,_,_=>td
  | .IfExp t a b _=>match cE n Γ t,cE n Γ a,cE n Γ b with
   | some t',gV a',gV b'=>gV (.ite t' a' b')
   | _,_,_=>td
  | .Call (.Name f _) args [] _=>if gO Γ f then match Γ.fns.lookup f with
    | some k=>(cA (cE n Γ) args).map (.own f k)
    | none=>if f==("isinstance" : JG)then(if Γ.blt.contains f then A6 Γ (cE n Γ) args else td)else match AY f,args with
     | some b,a::as=>if Γ.blt.contains f then(cA (cE n Γ) (a::as)).map (.bi b)else td
     | _,_=>td
   else td
  | .Call (.Subscript (.List [.Name f _,.Name g _] _) i _) (a::as) [] _=>match Γ.fns.lookup f,Γ.fns.lookup g,cE n Γ i,cA (cE n Γ) (a::as)with
   | some k,gV k',gV i',gV es=>if gO Γ f&&gO Γ g&&decide (k=k')then gV (.ow2 f g k i' es)else td
   | _,_,_,_=>td
  | .Call (.Attribute o m apos) (a::as) [] cpos=>match AZ m,cE n Γ o,cA (cE n Γ) (a::as)with
   | some m',gV o',gV es=>if gB o&&(apos.endLine==cpos.line)&&decide ((a::as).length < 29)then gV (.me m' o' es)else td
   | _,_,_=>td
  | .Subscript a (.Slice lo hi td _) _=>match cE n Γ a,cP (cE n Γ) lo,cP (cE n Γ) hi with
   | some a',gV lo',gV hi'=>gV (.sl a' lo' hi')
   | _,_,_=>td
  | .Subscript a b _=>match cE n Γ a,cE n Γ b with
   | some a',gV b'=>gV (.ix a' b')
   | _,_=>td
  | .Tuple es _ _=>(cA (cE n Γ) es).map .tup
  | .List es _=>(cA (cE n Γ) es).map .lst
  | .Dict keys values _=>xx (cE n Γ) keys values
  | .ListComp elt [#[tg,iter,ifs,asy]] scope _=>if (asy==0)&&(xw Γ scope&&decide (ifs.length<=1))then
    match cI Γ (cE n Γ) tg iter,cT (gY Γ scope) tg,cA (cE n (gY Γ scope)) ifs,cE n (gY Γ scope) elt with
    | some it,gV t,gV cs,gV el=>gV (.comp el t it cs (gC Γ scope.names))
    | _,_,_,_=>td
   else td
  | _=>td
structure CtxOk (M:JG->FF)(X:Cx)(Γ:Gam):Prop where
 names:X.env.scope.names=Γ.sc
 kind:X.env.scope.kind=.function
 N:X.N=Γ.N
 nd:Γ.N.Nodup
 calm:X.calm=true
 xe:X.xe=λ_ _=>KA
 un:X.A.units+fP < cLine
 dfn:Γ.dfn=true->∀x,X.fn x=true
 blt:∀x∈Γ.blt,X.mg x=td
 fns:∀f n,Γ.fns.lookup f=gV n->∃k fa fd ps,FnOk X.prog X.w X.K X.mg X.base rX k fa fd ps (uC X.w X.K n (M f))/\Room k X.A/\X.mg f=gV (.ref fa)/\Kv X.K (.ref fa)=true/\Binds X.K fd ps []
def ap {α:Type}{x:α}{P:Prop}(h:(td:Ji α)=gV x):P:=nomatch h
abbrev hX:JM->JL
 | .Starred _ _=>false
 | _=>true
def aB {e:JM}{es:Ja JM}{env:Pi}(h:hX e=true):starEach (e::es) env=(false,eval e env)::starEach es env:=by
 cases e <;> first|rfl|cases h
def bn {env:Pi}{pos:LJ}:∀ {es:Ja JM},es.all hX=true->(backTo pos (starEach es env)).any (·.1)=false
 | [],_=>rfl
 | e::es,h=>by
  rw[Ki,Jj]at h;rw[aB h.1];show(false||(backTo pos (starEach es env)).any (·.1))=false
  rw[bn h.2];rfl
def pi {env:Pi}{pos:LJ}:∀ {es:Ja JM},es.all hX=true->(backTo pos (starEach es env)).all (λx=>!x.1)=true
 | [],_=>rfl
 | e::es,h=>by
  rw[Ki,Jj]at h;rw[aB h.1];show(true&&(backTo pos (starEach es env)).all (λx=>!x.1))=true
  rw[pi h.2];rfl
def jj {n:Jg}{Γ:Gam}{e:JM}{e':E}(h:cE n Γ e=gV e'):hX e=true:=by
 cases n with
 | zero=>cases h
 | succ n=>cases e <;> first|rfl|(exact ap h)
def iI {f:JM->Ji E}{e:JM}{es:Ja JM}{r:Es}(h:cA f (e::es)=gV r):∃e' es',f e=gV e'/\cA f es=gV es'/\r=.cons e' es':=by
 simp only[cA,Qj]at h;split at h
 ·rename_i e' es' h1 h2;cases h;exact#[e',es',h1,h2,rfl]
 ·cases h
def cg {n:Jg}{Γ:Gam}:∀ {es:Ja JM} {r:Es},cA (cE n Γ) es=gV r->es.all hX=true
 | [],_,_=>rfl
 | e::es,r,h=>by
  obtain⟨e',es',h1,h2,_⟩:=iI h;rw[Ki,jj h1,cg h2];rfl
def du {N:Ja JG}{x:JG}{i:Jg}(h:N.findIdx? (· == x)=gV i):N[i]?=gV x:=by
 obtain⟨hl,h1,_⟩:=LN.mp h;rw[Ju hl];exact congrArg gV (eq_of_beq h1)
section
variable{M:JG->FF}{X:Cx}{Γ:Gam}
def iJ {e:JM}:GT X e (λ_ _=>td):=λJ s Y H Q I #[A,Z,S,k,S',er,so,e1,hq]=>by cases e1
def xy {x:JG}(h:DE (X.env.scope.names.lookup x)=true):G2 X.env.scope x:=by
 unfold DE at h;split at h
 ·exact .inl (by assumption)
 ·exact .inr (.inl (by assumption))
 ·exact .inr (.inr (by assumption))
 ·cases h
def xz (K:CtxOk M X Γ){x:JG}{pos:LJ}{i:Jg}(h:slot Γ x=gV i):GE X (.Name x pos) (fV i):=by
 unfold slot at h;split at h
 ·rename_i hc;rw[Jj,Jj]at hc;obtain⟨⟨h1,h2⟩,h3⟩:=hc;refine HC (Cu (by rw[K.N]; exact du h) (xy (by rw[K.names]; exact h1)) (by simpa using h2) (by simpa using h3))
 ·cases h
def iK (K:CtxOk M X Γ){x:JG}(h:gO Γ x=true):Gl X x/\(x==("__debug__" : JG))=false:=by
 unfold gO at h;rw[Jj]at h;refine#[?_,by simpa using h.2]
 show X.env.scope.names.lookup x=_;rw[K.names];exact eq_of_beq h.1
def kJ {o:Qb}{c:COp}(h:jE o=gV c):c.py=o:=by
 cases o <;> (simp only[jE,J3]at h; subst h; rfl)
def xA {o:Pl}{c:BOp}(h:sI o=gV c):c.py=o:=by
 cases o <;> simp only[sI,J3]at h <;> first|(subst h; rfl)|cases h
def uJ {x:JG}{b:Bi}(h:AY x=gV b):b.name=x:=by
 have:=Ol h;exact eq_of_beq this
def uK {x:JG}{b:Me}(h:AZ x=gV b):b.name=x:=by
 have:=Ol h;exact eq_of_beq this
def dg {n:Jg}(ih:∀ {e:JM} {e':E},cE n Γ e=gV e'->GE X e (aA M e')):∀ {es:Ja JM} {r:Es},cA (cE n Γ) es=gV r->GA X es (cX M r)
 | [],r,h=>by cases h; exact Dq
 | e::es,r,h=>by
  obtain⟨e',es',h1,h2,rfl⟩:=iI h;exact Av (ih h1) (dg ih h2) (aB (jj h1))
def Fx (K:CtxOk M X Γ){n:Jg}{f:JG}{p pos:LJ}{args:Ja JM}{k:Jg}{r:Es}(hg:gO Γ f=true)(hf:Γ.fns.lookup f=gV k)(ha:cA (cE n Γ) args=gV r)(h:GA X args (cX M r)):GE X (.Call (.Name f p) args [] pos) (lS k (M f) (cX M r)):=by
 obtain⟨d,fa,fd,ps,F,hr,hm,hk,hb⟩:=K.fns f k hf;obtain⟨g1,g2⟩:=iK K hg;cases args with
 | nil=>cases ha; exact Ay F hr g1 hm hk hb g2
 | cons a as=>
  have ns:=cg ha;rw[Ki,Jj]at ns;exact Dt F hr g1 hm hk hb h g2 (aB ns.1) (bn ns.2)
def Fy (K:CtxOk M X Γ){n:Jg}{f g:JG}{p1 p2 p3 p4 pos:LJ}{i a:JM}{as:Ja JM}{k:Jg}{fi:FE}{r:Es}(hg:gO Γ f=true)(hg':gO Γ g=true)(hf:Γ.fns.lookup f=gV k)(hf':Γ.fns.lookup g=gV k)(hi:GE X i fi)(hpi:gz i)(ha:cA (cE n Γ) (a::as)=gV r)(h:GA X (a::as) (cX M r)):GE X (.Call (.Subscript (.List [.Name f p1,.Name g p2] p3) i p4) (a::as) [] pos) (xi k (M f) (M g) fi (cX M r)):=by
 obtain⟨d,fa,fd,ps,F,hr,hm,hk,hb⟩:=K.fns f k hf;obtain⟨d',fa',fd',ps',F',hr',hm',hk',hb'⟩:=K.fns g k hf';obtain⟨g1,g2⟩:=iK K hg;obtain⟨g1',g2'⟩:=iK K hg';have ns:=cg ha;rw[Ki,Jj]at ns;exact Dz F F' hr hr' g1 g1' hm hm' hk hk' hb hb' hi hpi h g2 g2' (aB ns.1) (bn ns.2)
def HF (K:CtxOk M X Γ){n:Jg}{f:JG}{p pos:LJ}{a:JM}{as:Ja JM}{b:Bi}{r:Es}(hg:gO Γ f=true)(hb:AY f=gV b)(hc:Γ.blt.contains f=true)(ha:cA (cE n Γ) (a::as)=gV r)(h:GA X (a::as) (cX M r)):GE X (.Call (.Name f p) (a::as) [] pos) (jD b.fn (cX M r)):=by
 obtain⟨g1,g2⟩:=iK K hg;have hm:X.mg f=td:=K.blt f (by simpa using hc)
 have ns:=cg ha;rw[Ki,Jj]at ns;have e:=uJ hb;subst e;have hu:X.A.units+12 < cLine:=by have:=K.un; have:fP=20:=rfl; omega
 have calm:∀ {f:Jd} {g:Ja W->aa->Ji (W×aa)},(X.A.handled=td->LCall X f g)->LCall X f g:=λh J s Y H A S xs vs us w S' I=>h (I.ok.hd K.calm) J s Y H A S xs vs us w S' I
 cases b with
 | len=>exact wX qP g1 hm PySem.boot_len h #v[] g2 (aB ns.1) (bn ns.2)
 | list=>exact sC (calm λhh=>xu (oT hh) (o9 hh)) g1 hm rfl h #v[] g2 (aB ns.1) (bn ns.2)
 | tuple=>exact sC (calm nL) g1 hm rfl h #v[] g2 (aB ns.1) (bn ns.2)
 | int=>exact sC uh g1 hm rfl h #v[] g2 (aB ns.1) (bn ns.2)
 | sorted=>exact wX (calm λhh=>nJ hh hu) g1 hm rfl h #v[] g2 (aB ns.1) (bn ns.2)
 | range=>exact sC oS g1 hm rfl h #v[] g2 (aB ns.1) (bn ns.2)
 | min=>exact wX (calm λhh=>uB hh hu) g1 hm rfl h #v[] g2 (aB ns.1) (bn ns.2)
def xB {x:JG}{c:KL}(h:xv x=gV c):bootBuiltins x=gV (.type c)/\x≠"__name__":=by
 unfold xv at h;split at h
 ·rename_i e; cases h; rw[eq_of_beq e]; exact#[rfl,#v[]]
 ·split at h
  ·rename_i e; cases h; rw[eq_of_beq e]; exact#[rfl,#v[]]
  ·split at h
   ·rename_i e; cases h; rw[eq_of_beq e]; exact#[rfl,#v[]]
   ·split at h
    ·rename_i e; cases h; rw[eq_of_beq e]; exact#[rfl,#v[]]
    ·split at h
     ·rename_i e; cases h; rw[eq_of_beq e]; exact#[rfl,#v[]]
     ·split at h
      ·rename_i e; cases h; rw[eq_of_beq e]; exact#[rfl,#v[]]
      ·cases h
def Fz (K:CtxOk M X Γ){n:Jg}{f:JG}{p pos:LJ}{args:Ja JM}{r:E}(hg:gO Γ f=true)(hb:(f==("isinstance" : JG))=true)(hc:Γ.blt.contains f=true)(ih:∀ {e:JM} {e':E},cE n Γ e=gV e'->GE X e (aA M e'))(h:A6 Γ (cE n Γ) args=gV r) :
  GE X (.Call (.Name f p) args [] pos) (aA M r)/\∃a c,r=.isi c a:=by
 obtain⟨g1,g2⟩:=iK K hg;have hm:X.mg f=td:=K.blt f (by simpa using hc)
 have e:=eq_of_beq hb;subst e;unfold A6 at h;split at h
 ·rename_i a c q;split at h
  ·rename_i hcc;rw[Jj]at hcc;obtain⟨g3,g4⟩:=iK K (x:=c) hcc.1;have hm2:X.mg c=td:=K.blt c (by simpa using hcc.2)
   split at h
   ·rename_i cs a' h1 h2;cases h;obtain⟨b1,b2⟩:=xB h1;exact#[DC g1 hm g3 hm2 b1 b2 g4 (ih h2) (aB (jj h2)),a',cs,rfl]
   ·cases h
  ·cases h
 ·cases h
def eR {o:JM}{name:JG}{env:Pi}(h:gB o=true):attributeBase o name env (eval o env)=eval o env:=by
 cases o <;> first|rfl|cases h
def sK {n:Jg}{pos:LJ}(ih:∀ {e:JM} {e':E},cE n Γ e=gV e'->GE X e (aA M e')):∀(keys:Ja (Ji JM)) (values:Ja JM) {r:Es},keys.all (·.isSome)=true->keys.length=values.length->cA (cE n Γ) (sJ keys values)=gV r->Ft X pos keys values (cX M r)
 | [],[],r,_,_,h=>by cases h; exact AO
 | [],_::_,r,_,hl,_=>by cases hl
 | _::_,[],r,_,hl,_=>by cases hl
 | none::_,_::_,r,ha,_,_=>by cases ha
 | some k::ks,v::vs,r,ha,hl,h=>by
  dsimp only[sJ]at h;obtain⟨e1,es1,h1,h2,rfl⟩:=iI h;obtain⟨e2,es2,h3,h4,rfl⟩:=iI h2;rw[Ki,Jj]at ha;exact xn (ih h1) (ih h3) (sK ih ks vs ha.2 (by simpa using hl) h4)
def HG (K:CtxOk M X Γ){n:Jg}{m:JG}{apos cpos:LJ}{o a:JM}{as:Ja JM}{b:Me}{o':E}{r:Es}(hm:AZ m=gV b)(hr:gB o=true)(hl:(apos.endLine==cpos.line)=true)(hn:(a::as).length < 29)(ho:GE X o (aA M o'))(ha:cA (cE n Γ) (a::as)=gV r)(h:GA X (a::as) (cX M r)) :
  GE X (.Call (.Attribute o m apos) (a::as) [] cpos) (Ez b.ty b.fn (aA M o') (cX M r)):=by
 have ns:=cg ha;have ns':=ns;rw[Ki,Jj]at ns;have lU:((backTo cpos (starEach (a::as) X.env)).all (λx=>!x.1)&&(backToKw cpos (keywordEach [] X.env)).all (λx=>x.1.isSome)&&decide ((a::as).length+([]:Ja Qn).length+(if ([]:Ja Qn).isEmpty then 0 else 1) < 30))=true:=by
  rw[pi ns',LI,Jj];exact#[rfl,Kf (by simp only[Lg,List.isEmpty_nil,LV]; omega)]
 have e:=uK hm;subst e;cases b with
 | append=>exact pd MP PySem.F.slot_list_append PySem.F.type_list_append nv ho h (eR hr) lU hl (aB ns.1) (bn ns.2)
 | extend=>exact pd MP PySem.F.slot_list_extend PySem.F.type_list_extend nw ho h (eR hr) lU hl (aB ns.1) (bn ns.2)
 | pop=>exact pd MP PySem.F.slot_list_pop PySem.F.type_list_pop uj ho h (eR hr) lU hl (aB ns.1) (bn ns.2)
 | get=>exact pd PySem.F.plainAttrs_dict Oo PySem.F.type_dict_get (qF (by have:=K.un; have:fP=20:=rfl; omega)) ho h (eR hr) lU hl (aB ns.1) (bn ns.2)
 | index=>exact pd PySem.F.plainAttrs_tuple NF PySem.F.type_tuple_index oP ho h (eR hr) lU hl (aB ns.1) (bn ns.2)
def iL {n:Jg}{Γ:Gam}{e:JM}{e':E}{op:Qb}(h:cE n Γ e=gV e'):behindInMarks op e=false:=by
 cases n with
 | zero=>cases h
 | succ n=>cases e <;> first|rfl|(exact ap h)
def kK {n:Jg}{Γ:Gam}{e:JM}{e':E}(h:cE n Γ e=gV e'):gz e:=by
 cases n with
 | zero=>cases h
 | succ n=>cases e <;> first|(intro o i; rfl)|(exact ap h)
def nO {n:Jg}{Γ:Gam}{f:JM->Ji E}{e:JM}{i:Ie}{env:Pi}{tg:JM}(hf:∀el k p,f (.Set el k p)=td)(h:cI Γ f tg e=gV i):∀x,foldedSetIterable e env x=pure x:=by
 intro x;cases e <;> first|rfl|(simp[cI,hf]at h)
def nP {n:Jg}{op:RM}{pos:LJ}(ih:∀ {e:JM} {e':E},cE n Γ e=gV e'->GE X e (aA M e')):∀ {vs:Ja JM} {r:E},cB (cE n Γ) op vs=gV r->GE X (.BoolOp op vs pos) (aA M r)
 | [],r,h=>by cases h
 | [a],r,h=>Dm (ih h)
 | a::b::cz,r,h=>by
  simp only[cB]at h;split at h
  ·rename_i a' b' h1 h2;cases h;cases op with
   | And=>exact Dn (ih h1) (nP ih h2)
   | Or=>exact Fj (ih h1) (nP ih h2)
  ·cases h
def nQ {n:Jg}{op:RM}{pos:LJ}(ih:∀ {e:JM} {e':E},cE n Γ e=gV e'->GT X e (cV M e')):∀ {vs:Ja JM} {r:E},cB (cE n Γ) op vs=gV r->GW X (.BoolOp op vs pos) (cV M r)
 | [],r,h=>by cases h
 | [a],r,h=>by
  cases op with
  | And=>exact As (ih h)
  | Or=>exact Dj (ih h)
 | a::b::cz,r,h=>by
  simp only[cB]at h;split at h
  ·rename_i a' b' h1 h2;cases h;cases op with
   | And=>exact Dk (ih h1) (nQ ih h2)
   | Or=>exact Fi (ih h1) (nQ ih h2)
  ·cases h
def xD {n:Jg}(ih:∀ {e:JM} {e':E},cE n Γ e=gV e'->GE X e (aA M e')){o:Ji JM}{p:Ep}(h:cP (cE n Γ) o=gV p):GO X o (sH M p):=by
 cases o with
 | none=>cases h; exact Aw
 | some e=>
  simp only[cP,Jf]at h;obtain⟨e',h1,rfl⟩:=h;exact Ax (ih h1)
def qS (K:CtxOk M X Γ){n:Jg}(ih:∀ {e:JM} {e':E},cE n Γ e=gV e'->GE X e (aA M e')){tg e:JM}{i:Ie}(h:cI Γ (cE n Γ) tg e=gV i):GI X tg e (jQ M i):=by
 have gen:(cE n Γ e).map Ie.seq=gV i->GI X tg e (jQ M i):=λh=>by
  rw[Jf]at h;obtain⟨e',h1,rfl⟩:=h;exact AS (ih h1)
 unfold cI at h;split at h
 ·rename_i x p a pos;split at h
  ·rename_i hc;rw[Jj,Jj]at hc;obtain⟨⟨h1,h2⟩,h3⟩:=hc;have hx:=eq_of_beq h1;subst hx;rw[Jf]at h;obtain⟨r,hr,rfl⟩:=h;have ns:=cg hr;rw[Ki,Jj]at ns;exact AL (iK K h2).1 (K.blt _ (by simpa using h3)) (dg ih hr) (aB ns.1)
  ·split at h
   ·rename_i hc;rw[Jj,Jj,Jj]at hc;obtain⟨⟨⟨h1,h2⟩,h3⟩,h4⟩:=hc;have hx:=eq_of_beq h1;subst hx;rw[Jf]at h;obtain⟨r,hr,rfl⟩:=h;have ns:=cg hr;rw[Ki,Jj]at ns;cases tg with
    | Tuple els k0 tp=>exact AV (iK K h2).1 (K.blt _ (by simpa using h3)) (dg ih hr) (aB ns.1)
    | _=>cases h4
   ·exact gen h
 ·rename_i x p a b pos;split at h
  ·rename_i hc;rw[Jj,Jj]at hc;obtain⟨⟨h1,h2⟩,h3⟩:=hc;have hx:=eq_of_beq h1;subst hx;rw[Jf]at h;obtain⟨r,hr,rfl⟩:=h;have ns:=cg hr;rw[Ki,Ki,Jj,Jj]at ns;exact AM (iK K h2).1 (K.blt _ (by simpa using h3)) (dg ih hr) (by rw[aB ns.1,aB ns.2.1]; rfl) (aB ns.2.1)
  ·exact gen h
 ·exact gen h
def nR (K:CtxOk M X Γ){x:JG}{i:Jg}(h:de Γ x=gV i):X.N[i]?=gV x/\zA X.env.scope x/\(X.fn x=true\/X.env.scope.names.lookup x=gV .local):=by
 unfold de at h;split at h
 ·rename_i hc;refine#[by rw[K.N]; exact du h,?_]
  unfold L2.zA;rw[K.names];rw[K7,Jj]at hc;rcases hc with hc|⟨hd,hc⟩
  ·have:=eq_of_beq hc;exact#[.inl this,.inr this]
  ·exact#[.inr (eq_of_beq hc),.inl (K.dfn hd x)]
 ·cases h
def pj (K:CtxOk M X Γ):∀ {ts:Ja JM} {is:Ja Jg},EC Γ ts=gV is->(∀x∈ts,∃y p,x=OL y p)/\ND (λ(t:JM) (i:Jg)=>∃x p,t=OL x p/\X.N[i]?=gV x/\zA X.env.scope x/\(X.fn x=true\/X.env.scope.names.lookup x=gV .local)) ts is
 | [],is,h=>by cases h; exact#[λx hx=>by simp at hx,.nil]
 | t::ts,is,h=>by
  cases t with
  | Name x p=>
   dsimp only[EC]at h;split at h
   ·rename_i i is' h1 h2;cases h;obtain⟨a,b⟩:=pj K h2;exact#[λy hy=>(JR.mp hy).elim (λe=>#[x,p,e]) (a y),.cons #[x,p,rfl,nR K h1] b]
   ·cases h
  | _=>cases h
def hZ {env:Pi}:∀ {ts:Ja JM},(∀x∈ts,∃y p,x=OL y p)->(assignEach ts env).length=ts.length/\(assignEach ts env).findIdx? (·.1)=td
 | [],_=>#[rfl,rfl]
 | t::ts,h=>by
  obtain⟨y,p,rfl⟩:=h t KM;obtain⟨a,b⟩:=hZ (env:=env) λx hx=>h x (Ko _ hx)
  refine#[by show(assignEach ts env).length+1=ts.length+1; rw[a],?_]
  show List.findIdx? (·.1) ((false,assign (.Name y p) env)::assignEach ts env)=td
  rw[List.findIdx?_cons,b];rfl
def sL (K:CtxOk M X Γ){tg:JM}{t:Tg}(h:cT Γ tg=gV t):GG X tg (eQ t):=by
 have hN:X.N.Nodup:=by rw[K.N]; exact K.nd
 cases tg with
 | Name x p=>
  dsimp only[cT]at h; simp only[Jf]at h
  obtain⟨i,h1,rfl⟩:=h;obtain⟨a,b,c⟩:=nR K h1;exact sE hN a b c
 | Tuple ts k p=>
  dsimp only[cT]at h; simp only[Jf]at h
  obtain⟨is,h1,rfl⟩:=h;obtain⟨a,b⟩:=pj K h1;exact Dw K.calm a b hN (hZ a).1 (hZ a).2
 | _=>cases h
end
abbrev eI (env:Pi):Ja (JG×Lb)->Ja (JG×Jn)->Ja (JG×Jn)
 | [],cs=>cs
 | (n,k)::r,cs=>eI env r (if k==.free then(n,(env.cells.lookup n).getD 0)::cs else cs)
def jk {env:Pi}:∀(names:Ja (JG×Lb)) (cs:Ja (JG×Jn)),(∀y∈names,y.2=.free->(env.cells.lookup y.1).isSome=true)->
  (forIn names cs λx r=>match x with|(name,kind)=>if (kind==MF)=true then do let a <- cellOf env name; pure (K8 ((name,a)::r))else pure (K8 r):Rp (Ja (JG×Jn)))=pure (eI env names cs)
 | [],cs,_=>by rw[QH]; rfl
 | (n,k)::r,cs,h=>by
  rw[Of];have hr:=λy hy=>h y (Ko _ hy)
  by_cases hk:(k==MF)=true
  ·obtain⟨c,hc⟩:=Kn.mp (h (n,k) KM (eq_of_beq hk));have e1:cellOf env n=pure c:=by unfold cellOf; rw[hc]
   simp only[hk,LV,e1,pure_bind];rw[jk r _ hr];simp only[eI,hk,LV,hc,NV]
  ·have hk':(k==MF)=false:=by simpa using hk
   simp only[hk',KF,LU,pure_bind];rw[jk r _ hr];simp only[eI,hk',KF,LU]
def jR {scope:Ml}{env:Pi}(h:∀y∈scope.names,y.2=.free->(env.cells.lookup y.1).isSome=true):closureFor scope env=pure (eI env scope.names []):=by
 have:=jk scope.names [] h;unfold closureFor;simp only[this,pure_bind]
def kL {env:Pi}:∀(names:Ja (JG×Lb)) (cs:Ja (JG×Jn)),(∀y∈names,y.2=.free->(env.cells.lookup y.1).isSome=true)->(∀x c,cs.lookup x=gV c->env.cells.lookup x=gV c)->
  ∀x c,(eI env names cs).lookup x=gV c->env.cells.lookup x=gV c
 | [],cs,_,h,x,c,e=>h x c e
 | (n,k)::r,cs,hn,h,x,c,e=>by
  refine kL r _ (λy hy=>hn y (Ko _ hy)) (λx c e=>?_) x c e
  split at e
  ·rename_i hk;rw[KS]at e;split at e
   ·rename_i hx;cases e;have:=eq_of_beq hx;subst this;obtain⟨c,hc⟩:=Kn.mp (hn (x,k) KM (eq_of_beq hk));rw[hc]; rfl
   ·exact h x c e
  ·exact h x c e
def jF {env:Pi}{x:JG}:∀(names:Ja (JG×Lb)) (cs:Ja (JG×Jn)),(∃c,cs.lookup x=gV c)->∃c,(eI env names cs).lookup x=gV c
 | [],cs,h=>h
 | (n,k)::r,cs,h=>by
  refine jF r _ ?_;split
  ·rw[KS];split
   ·exact#[_,rfl]
   ·exact h
  ·exact h
def kM {env:Pi}{x:JG}:∀(names:Ja (JG×Lb)) (cs:Ja (JG×Jn)),(x,MF)∈names->∃c,(eI env names cs).lookup x=gV c
 | [],cs,h=>by simp at h
 | (n,k)::r,cs,h=>by
  rcases JR.mp h with e|h
  ·cases e;refine jF r _ ?_;simp[KS]
  ·exact kM r _ h
def kN {x:JG}{k:Lb}:∀ {l:Ja (JG×Lb)},l.lookup x=gV k->(x,k)∈l
 | [],h=>by simp at h
 | (n,j)::r,h=>by
  rw[KS]at h;split at h
  ·rename_i hx;cases h;have:=eq_of_beq hx;subst this;exact KM
  ·exact Ko _ (kN h)
def eJ {X:Cx}{M:JG->FF}{Γ:Gam}(K:CtxOk M X Γ)(scope:Ml):(relabel scope X.env).names=fX scope.names Γ.sc:=by
 unfold relabel fX N6;rw[K.kind,K.names];refine Kk λ#[n,k] _=>?_
 have e:(Pc==Pc)=true:=rfl;simp only[e,OT]
def d6 {outer:Ja (JG×Lb)}{x:JG}:∀ {names:Ja (JG×Lb)},(fX names outer).lookup x=(names.lookup x).map λk=>if (k==.free&&outer.lookup x==gV .cell)then .cell else k
 | []=>rfl
 | (n,k)::r=>by
  have ih:=d6 (outer:=outer) (x:=x) (names:=r);show List.lookup x ((if (k==MF&&outer.lookup n==gV .cell)=true then(n,R8)else(n,k))::fX r outer)=_
  cases hx:x==n with
  | true=>
   have:=eq_of_beq hx;subst this;simp only[KS,Kr,J4];split <;> simp[KS]
  | false=>
   simp only[KS,hx];split <;> (simp only[KS,hx]; exact ih)
section
variable{M:JG->FF}{X:Cx}{Γ:Gam}
structure ScOk (Γ:Gam)(scope:Ml):Prop where
 kind:scope.kind=.function
 names:∀y∈scope.names,y.2=.local->scope.names.lookup y.1=gV .local
 nocell:∀y∈scope.names,y.2≠.cell
 free:∀y∈scope.names,y.2=.free->AX (Γ.sc.lookup y.1)=true/\scope.names.lookup y.1=gV .free/\(Γ.N.findIdx? (· == y.1)).isSome=true
 nd:(gX scope.names).Nodup
def sM {scope:Ml}(h:xw Γ scope=true):ScOk Γ scope:=by
 unfold xw at h;rw[Jj,Jj,Jj,Jj]at h;obtain⟨⟨⟨⟨h1,h2⟩,h3⟩,h4⟩,h5⟩:=h;refine#[eq_of_beq h1,λy hy e=>?_,λy hy e=>?_,λy hy e=>?_,J8 h5]
 ·have:=JB.mp h2 y hy;rw[e]at this
  simpa using this
 ·have:=JB.mp h3 y hy;rw[e]at this;simp at this
 ·have:=JB.mp h4 y hy;rw[e]at this;simp only[Kr,OU,NG,Jj]at this;exact#[this.1.1,eq_of_beq this.1.2,this.2]
def sN {o:Ji Lb}(h:AX o=true):o=gV .cell\/o=gV .free:=by
 unfold AX at h;split at h
 ·exact .inl rfl
 ·exact .inr rfl
 ·cases h
def mG (K:CtxOk M X Γ)(ok:X.Ok){scope:Ml}(sc:ScOk Γ scope):CompOk X scope (eI X.env scope.names []) (gX scope.names) (gC Γ scope.names):=by
 have cells:∀y∈scope.names,y.2=.free->(X.env.cells.lookup y.1).isSome=true:=λy hy e=>by
  have hk:=sN (sc.free y hy e).1;obtain⟨c,hc⟩:=ok.has y.1 (by unfold N6; rw[K.names]; exact hk)
  rw[hc]; rfl
 have relab:∀x,((relabel scope X.env).names.lookup x=gV .cell\/(relabel scope X.env).names.lookup x=gV .free)->(x,MF)∈scope.names:=λx h=>by
  rw[eJ K,d6]at h;cases q:scope.names.lookup x with
  | none=>rw[q]at h; rcases h with h|h <;> cases h
  | some k=>
   rw[q]at h;have hm:=kN q;cases k with
   | free=>exact hm
   | cell=>exact absurd rfl (sc.nocell _ hm)
   | _=>rcases h with h|h <;> simp at h
 refine#[jR cells,sc.kind,sc.names,sc.nocell,kL _ _ cells (λx c e=>by cases e),λx h=>kM _ _ (relab x h),by simp[gC],λi j x hi hx=>?_]
 unfold gC at hi;rw[Jl,hx]at hi;simp only[J4,J3]at hi;split at hi
 ·cases hi
 ·rename_i hl;have hx2:x∈gX scope.names:=Jq hx;unfold gX at hx2;obtain⟨⟨x',k⟩,hf,e⟩:=Jy.mp hx2;obtain⟨hm,hk⟩:=KG.mp hf;have e':x'=x:=e;subst e';have hkf:k=.free:=by
   simp only[K7]at hk;rcases hk with hk|hk
   ·have:k=.local:=eq_of_beq hk;subst this;have:=sc.names (x',.local) hm rfl;rw[this]at hl;simp at hl
   ·exact eq_of_beq hk
  subst hkf;obtain⟨f1,f2,f3⟩:=sc.free _ hm rfl;refine#[by rw[K.N]; exact du hi,by unfold N6; rw[K.names]; exact sN f1,?_]
  rw[eJ K,d6,f2];simp only[J4,J3,Kr,LI];split
  ·exact .inl rfl
  ·exact .inr rfl
def eS (K:CtxOk M X Γ){scope:Ml}(sc:ScOk Γ scope)(C:Jn)(s0:Jh)(H0:Hp)(ex:Ja Jn):CtxOk M (lL X scope (eI X.env scope.names []) C (gX scope.names) s0 H0 ex) (gY Γ scope) where
 names:=eJ K scope
 kind:=sc.kind
 N:=rfl
 nd:=sc.nd
 calm:=K.calm
 xe:=rfl
 un:=K.un
 dfn:=λh=>by cases h
 blt:=K.blt
 fns:=K.fns
def pk {cs:Es}{n:Jg}{ifs:Ja JM}{Γ:Gam}(hl:ifs.length<=1)(hc:cA (cE n Γ) ifs=gV cs){Yq:Cx}(ih:∀ {e:JM} {e':E},cE n Γ e=gV e'->GT Yq e (cV M e'))(hx:Yq.xe=λ_ _=>KA) :
  ∀J s Y H Q,Inv Yq J Y H s->tT Yq (AW M cs) Y H Q->
  wpAny (model Yq.prog Yq.w) Yq.A (forIn ifs true λc r=>if r=true then do let ok <- isTrue c Yq.env (eval c Yq.env); pure (K8 ok)else pure (K8 r)) (TP Yq J Y Q) (λ_ _=>KA) s:=by
 intro J s Y H Q I h
 match ifs,hl,hc with
 | [],_,hc=>
  cases hc;obtain⟨A,Z,S,k,S',er,so,e,hq⟩:=h;cases e;exact wpAny_tests_nil #[H,I,hq _ _ #[rfl,A,.refl,so]]
 | [c],_,hc=>
  obtain⟨e',es',h1,h2,rfl⟩:=iI hc;cases h2;have:=ih h1 J s Y H Q I h;rw[hx]at this;exact wpAny_tests_one this
def bY:∀(n:Jg) {Γ:Gam} {X:Cx} {e:JM} {e':E},CtxOk M X Γ->cE n Γ e=gV e'->GE X e (aA M e')/\GT X e (cV M e'):=by
 intro n
 induction n with
 | zero=>intro Γ X e e' K h; cases h
 | succ n ih=>
  intro Γ X e e' K h;have ihE:∀ {e:JM} {e':E},cE n Γ e=gV e'->GE X e (aA M e'):=λq=>(ih K q).1
  have ihT:∀ {e:JM} {e':E},cE n Γ e=gV e'->GT X e (cV M e'):=λq=>(ih K q).2
  have hu10:X.A.units+10 < cLine:=by have:=K.un; have:fP=20:=rfl; omega
  cases e with
  | Constant c k p=>
   cases c <;> cases h
   all_goals first
    | exact#[pb vE (λ_ _=>.non),cJ (pb vE (λ_ _=>.non)) λ_=>rfl]
    | exact#[pb BV (λ_ _=>.bl),cJ (pb BV (λ_ _=>.bl)) λ_=>rfl]
    | exact#[pb vD (λ_ _=>.int),cJ (pb vD (λ_ _=>.int)) λ_=>rfl]
    | exact#[pb vF (λ_ _=>.str),cJ (pb vF (λ_ _=>.str)) λ_=>rfl]
  | Name x p=>
   replace h:(match slot Γ x with|some i=>gV (E.v i)|none=>td)=gV e':=h
   split at h
   ·rename_i i h1;cases h;exact#[xz K h1,cJ (xz K h1) λ_=>rfl]
   ·cases h
  | BinOp a op b p=>
   replace h:(match sI op,cE n Γ a,cE n Γ b with|some o,gV a',gV b'=>gV (E.op o a' b')|_,_,_=>td)=gV e':=h
   split at h
   ·rename_i o a' b' h1 h2 h3;cases h;have e:=xA h1;subst e;exact#[BZ (r6 o) (ihE h2) (ihE h3),cJ (BZ (r6 o) (ihE h2) (ihE h3)) λ_=>rfl]
   ·cases h
  | UnaryOp op a p=>
   cases op with
   | Not=>
    replace h:(cE n Γ a).map E.not=gV e':=h;rw[Jf]at h;obtain⟨a',h1,rfl⟩:=h;exact#[Do (ihE h1),Dl (ihT h1)]
   | USub=>
    replace h:(cE n Γ a).map E.neg=gV e':=h;rw[Jf]at h;obtain⟨a',h1,rfl⟩:=h;exact#[wH (ihE h1),cJ (wH (ihE h1)) λ_=>rfl]
   | _=>exact ap h
  | BoolOp op vs p=>
   replace h:cB (cE n Γ) op vs=gV e':=h;exact#[nP ihE h,(nQ ihT h).pt]
  | Compare a ops cs p=>
   match ops,cs,h with
   | [op],[b],h=>
    replace h:(match jE op,cE n Γ a,cE n Γ b with|some o,gV a',gV b'=>gV (E.cmp o a' b')|_,_,_=>td)=gV e':=h
    split at h
    ·rename_i o a' b' h1 h2 h3;cases h;have e:=kJ h1;subst e;exact#[Dh K.un (ihE h2) (ihE h3) (iL h3),Di K.un (ihE h2) (ihE h3) (iL h3)]
    ·cases h
   | [],_,h=>exact ap h
   | [_],[],h=>exact ap h
   | [_],_::_::_,h=>exact ap h
   | [op,op'],[b,d],h=>
    replace h:(match jE op,jE op',cE n Γ a,cE n Γ b,cE n Γ d with|some o,gV o',gV a',gV b',gV d'=>gV (E.chn o o' a' b' d')|_,_,_,_,_=>td)=gV e':=h
    split at h
    ·rename_i o o' a' b' d' h1 h2 h3 h4 h5;cases h;have e:=kJ h1;subst e;have e:=kJ h2;subst e;exact#[wI K.un (ihE h3) (ihE h4) (ihE h5) (iL h5),wJ K.un (ihE h3) (ihE h4) (ihE h5) (iL h5)]
    ·cases h
   | [_,_],[],h=>exact ap h
   | [_,_],[_],h=>exact ap h
   | [_,_],_::_::_::_,h=>exact ap h
   | _::_::_::_,_,h=>exact ap h
  | IfExp t a b p=>
   replace h:(match cE n Γ t,cE n Γ a,cE n Γ b with|some t',gV a',gV b'=>gV (E.ite t' a' b')|_,_,_=>td)=gV e':=h
   split at h
   ·rename_i t' a' b' h1 h2 h3;cases h;exact#[Dp (ihT h1) (ihE h2) (ihE h3),iJ]
   ·cases h
  | Call f args kws p=>
   cases kws with
   | cons _ _=>
    cases f with
    | Subscript v i q=>
     cases v with
     | List l q3=>
      rcases l with _|⟨a1,_|⟨a2,_|⟨a3,l⟩⟩⟩
      ·first|(exact ap h)|(cases args <;> (exact ap h))
      ·cases a1 <;> first|(exact ap h)|(cases args <;> (exact ap h))
      ·cases a1 <;> first|(exact ap h)|(cases args <;> (exact ap h))|(cases a2 <;> first|(exact ap h)|(cases args <;> (exact ap h)))
      ·cases a1 <;> first|(exact ap h)|(cases args <;> (exact ap h))|(cases a2 <;> first|(exact ap h)|(cases args <;> (exact ap h)))
     | _=>first|(exact ap h)|(cases args <;> (exact ap h))
    | _=>first|(exact ap h)|(cases args <;> (exact ap h))
   | nil=>
    cases f with
    | Name x q=>
     replace h:(if gO Γ x then match Γ.fns.lookup x with|some k=>(cA (cE n Γ) args).map (E.own x k)|none=>if x==("isinstance" : JG)then(if Γ.blt.contains x then A6 Γ (cE n Γ) args else td)else match (generalizing:=false) AY x,args with|some b,a::as=>if Γ.blt.contains x then(cA (cE n Γ) (a::as)).map (E.bi b)else td|_,_=>td else td)=gV e':=h
     split at h
     ·rename_i hg;split at h
      ·rename_i k hk;rw[Jf]at h;obtain⟨r,hr,rfl⟩:=h;have g:=Fx (pos:=p) (p:=q) K hg hk hr (dg ihE hr);exact#[g,cJ g λ_=>rfl]
      ·split at h
       ·rename_i his;split at h
        ·rename_i hc;obtain⟨g,a',c',rfl⟩:=Fz (pos:=p) (p:=q) K hg his hc ihE h;exact#[g,cJ g λ_=>rfl]
        ·cases h
       ·split at h
        ·rename_i bb a as hb;split at h
         ·rename_i hc;rw[Jf]at h;obtain⟨r,hr,rfl⟩:=h;have g:=HF (pos:=p) (p:=q) K hg hb hc hr (dg ihE hr);exact#[g,cJ g λ_=>rfl]
         ·cases h
        ·cases h
     ·cases h
    | Subscript v i q=>
     cases args with
     | nil=>
      cases v with
      | List l q3=>
       rcases l with _|⟨a1,_|⟨a2,_|⟨a3,l⟩⟩⟩
       ·exact ap h
       ·cases a1 <;> (exact ap h)
       ·cases a1 <;> first|(exact ap h)|(cases a2 <;> (exact ap h))
       ·cases a1 <;> first|(exact ap h)|(cases a2 <;> (exact ap h))
      | _=>exact ap h
     | cons a as=>
      cases v with
      | List l q3=>
       rcases l with _|⟨a1,_|⟨a2,_|⟨a3,l⟩⟩⟩
       ·exact ap h
       ·cases a1 <;> (exact ap h)
       ·cases a1 with
        | Name x p1=>
         cases a2 with
         | Name y p2=>
          replace h:(match Γ.fns.lookup x,Γ.fns.lookup y,cE n Γ i,cA (cE n Γ) (a::as)with|some k,gV k',gV i',gV es=>if gO Γ x&&gO Γ y&&decide (k=k')then gV (E.ow2 x y k i' es)else td|_,_,_,_=>td)=gV e':=h
          split at h
          ·rename_i k k' i' es h1 h2 h3 h4;split at h
           ·rename_i hc;rw[Jj,Jj,JP]at hc;obtain⟨⟨c1,c2⟩,rfl⟩:=hc;cases h;exact#[Fy K c1 c2 h1 h2 (ihE h3) (kK h3) h4 (dg ihE h4),iJ]
           ·cases h
          ·cases h
         | _=>exact ap h
        | _=>exact ap h
       ·cases a1 <;> first|(exact ap h)|(cases a2 <;> (exact ap h))
      | _=>exact ap h
    | Attribute o m q=>
     cases args with
     | nil=>exact ap h
     | cons a as=>
      replace h:(match AZ m,cE n Γ o,cA (cE n Γ) (a::as)with|some m',gV o',gV es=>if gB o&&(q.endLine==p.line)&&decide ((a::as).length < 29)then gV (E.me m' o' es)else td|_,_,_=>td)=gV e':=h
      split at h
      ·rename_i m' o' es h1 h2 h3;split at h
       ·rename_i hc;rw[Jj,Jj,JP]at hc;cases h;have g:=HG K (cpos:=p) (apos:=q) h1 hc.1.1 hc.1.2 hc.2 (ihE h2) h3 (dg ihE h3);exact#[g,cJ g λ_=>rfl]
       ·cases h
      ·cases h
    | _=>exact ap h
  | Subscript a b p=>
   have plain:(match cE n Γ a,cE n Γ b with|some a',gV b'=>gV (E.ix a' b')|_,_=>td)=gV e'->GE X (.Subscript a b p) (aA M e')/\GT X (.Subscript a b p) (cV M e'):=λh=>by
    split at h
    ·rename_i a' b' h1 h2;cases h;have g:=Fn (pos:=p) hu10 (ihE h1) (ihE h2) (kK h2);exact#[g,cJ g λ_=>rfl]
    ·cases h
   cases b with
   | Slice lo hi st q=>
    cases st with
    | none=>
     replace h:(match cE n Γ a,cP (cE n Γ) lo,cP (cE n Γ) hi with|some a',gV lo',gV hi'=>gV (E.sl a' lo' hi')|_,_,_=>td)=gV e':=h
     split at h
     ·rename_i a' lo' hi' h1 h2 h3;cases h;have g:=Fo (pos:=p) (p2:=q) (ihE h1) (xD ihE h2) (xD ihE h3);exact#[g,cJ g λ_=>rfl]
     ·cases h
    | some z=>exact plain h
   | _=>exact plain h
  | Tuple es k p=>
   replace h:(cA (cE n Γ) es).map E.tup=gV e':=h;rw[Jf]at h;obtain⟨r,h1,rfl⟩:=h;exact#[wR (dg ihE h1),cJ (wR (dg ihE h1)) λ_=>rfl]
  | List es p=>
   replace h:(cA (cE n Γ) es).map E.lst=gV e':=h;rw[Jf]at h;obtain⟨r,h1,rfl⟩:=h;exact#[wW (dg ihE h1),cJ (wW (dg ihE h1)) λ_=>rfl]
  | Dict keys values p=>
   replace h:xx (cE n Γ) keys values=gV e':=h;unfold xx at h;split at h
   ·rename_i hc;cases h;rw[Jj]at hc;have k0:keys=[]:=M1.mp hc.1;have v0:values=[]:=M1.mp hc.2;subst k0 v0;exact#[AQ,iJ]
   ·rename_i hc0;split at h
    ·rename_i hc;rw[Jj,Jj,JP,JP]at hc;rw[Jf]at h;obtain⟨r,hr,rfl⟩:=h;have h0:keys≠[]:=λz=>by
      subst z;have v0:values=[]:=MO.mp hc.1.2.symm;subst v0;exact hc0 rfl
     exact#[AR (pos:=p) hu10 (sK ihE keys values hc.1.1 hc.1.2 hr) hc.1.1 hc.1.2 h0 hc.2,iJ]
    ·cases h
  | ListComp elt gens scope p=>
   match gens,h with
   | [#[tg,iter,ifs,asy]],h=>
    replace h:(if (asy==0)&&(xw Γ scope&&decide (ifs.length<=1))then match cI Γ (cE n Γ) tg iter,cT (gY Γ scope) tg,cA (cE n (gY Γ scope)) ifs,cE n (gY Γ scope) elt with|some it,gV t,gV cs,gV el=>gV (E.comp el t it cs (gC Γ scope.names))|_,_,_,_=>td else td)=gV e':=h
    split at h
    ·rename_i hc;rw[Jj,Jj,JP]at hc;have e0:asy=0:=eq_of_beq hc.1;subst e0;replace hc:=hc.2;split at h
     ·rename_i it t cs el h1 h2 h3 h4;cases h;have sc:=sM hc.1;refine#[AT K.calm (qS K ihE h1) (λok=>#[_,mG K ok sc,?_]) (nO (n:=n) (λel k p=>by cases n <;> rfl) h1),iJ]
      refine#[λC s0 H0 ex=>sL (eS K sc C s0 H0 ex) h2,λC s0 H0 ex J s Y H Q I q=>?_,λC s0 H0 ex=>(ih (eS K sc C s0 H0 ex) h4).1]
      exact pk hc.2 h3 (λz=>(ih (eS K sc C s0 H0 ex) z).2) rfl J s Y H Q I q
     ·cases h
    ·cases h
   | [],h=>exact ap h
   | #[_,_,_,_]::_::_,h=>exact ap h
  | _=>exact ap h
end
noncomputable abbrev bZ:Jg:=30
abbrev B2:JM->JL
 | .Constant (.str _) _ _=>true
 | _=>false
abbrev jl:JM->JL
 | .ListComp _ _ _ _=>true
 | _=>false
abbrev sO:JM->JL
 | .Slice _ _ _ _=>true
 | _=>false
abbrev sP (f:L4->Ji Sm)(ss:Ja L4):Ji Ss:=ss.foldr (λs acc=>match f s,acc with|some s',gV ss'=>gV (.cons s' ss')|_,_=>td) (gV .nil)
abbrev DF (Γ:Gam):Ja JM->JM->Ji Sm
 | [.Name x px,.Name y py],.Tuple [a,b] _ _=>match Γ.N.findIdx? (· == x),Γ.N.findIdx? (· == y),cA (cE bZ Γ) [a,b]with
  | some i,gV j,gV es=>if !(i==j)&&(Γ.sc.lookup x==gV .local)&&(Γ.sc.lookup y==gV .local)&&(py.line==px.line) && !([a,b].all (foldedForSure 8)) && !([a,b].all (constantsAlone 8))then gV (.par i j es)else td
  | _,_,_=>td
 | _,_=>td
abbrev cS:Jg->Gam->L4->Ji Sm
 | 0,_,_=>td
 | n+1,Γ,st=>match st with
  | .Assign [.Name x _] e _=>match de Γ x,cE bZ Γ e with
   | some i,gV e'=>gV (.set i e')
   | _,_=>td
  | .Assign [.Tuple ts _ _] e _=>if isTup e then DF Γ ts e else if jl e then td else match EC Γ ts,cE bZ Γ e with
   | some is,gV e'=>gV (.asg is e')
   | _,_=>td
  | .Assign [.Subscript o k _] e _=>if sO k then td else match cE bZ Γ o,cE bZ Γ k,cE bZ Γ e with
   | some o',gV k',gV e'=>gV (.put o' k' e')
   | _,_,_=>td
  | .Expr e _=>if B2 e then gV .pass else if jl e then td else(cE bZ Γ e).map .ex
  | .Return (gV e) _=>(cE bZ Γ e).map .ret
  | .Pass _=>gV .pass
  | .If t a b _=>match cE bZ Γ t,sP (cS n Γ) a,sP (cS n Γ) b with
   | some t',gV a',gV b'=>gV (.ite t' a' b')
   | _,_,_=>td
  | .While t b [] _=>match cE bZ Γ t,sP (cS n Γ) b with
   | some t',gV b'=>gV (.whl t' b')
   | _,_=>td
  | .For tg it b [] _=>match cT Γ tg,cI Γ (cE bZ Γ) tg it,sP (cS n Γ) b with
   | some t,gV i,gV b'=>gV (.loop t i b')
   | _,_,_=>td
  | _=>td
section
variable{M:JG->FF}{X:Cx}{Γ:Gam}{fuel:Jg}
def xE {f:L4->Ji Sm}{s:L4}{ss:Ja L4}{r:Ss}(h:sP f (s::ss)=gV r):∃s' ss',f s=gV s'/\sP f ss=gV ss'/\r=.cons s' ss':=by
 simp only[sP,Qj]at h;split at h
 ·rename_i e' es' h1 h2;cases h;exact#[e',es',h1,h2,rfl]
 ·cases h
def gD {n:Jg}(ih:∀ {st:L4} {s':Sm},cS n Γ st=gV s'->GS X st (fM M fuel s')):∀ {ss:Ja L4} {r:Ss},sP (cS n Γ) ss=gV r->GSs X ss (fW M fuel r)
 | [],r,h=>by cases h; exact Az
 | s::ss,r,h=>by
  obtain⟨s',ss',h1,h2,rfl⟩:=xE h;exact wY (ih h1) (gD ih h2)
def kO {e:JM}{t:Ji JM}{l:Jg}{env:Pi}(h:jl e=false)(n:Jg){Γ:Gam}{e':E}(hc:cE n Γ e=gV e'):swapsWith e t l env=pure false:=by
 cases n with
 | zero=>cases hc
 | succ n=>cases e <;> first|(exfalso; exact ap hc)|rfl|cases h
def qT (K:CtxOk M X Γ){n:Jg}{elt:JM}{gens:Ja Comprehension}{scope:Ml}{p:LJ}{e':E}(h:cE (n+1) Γ (.ListComp elt gens scope p)=gV e') :
  ∃tg iter ifs fi g c f cap,gens=[#[tg,iter,ifs,0]]/\aA M e'=kH fi g c f cap/\GI X tg iter fi/\(X.Ok->∃cl,CompOk X scope cl (gX scope.names) cap/\BlockOk X scope cl (gX scope.names) tg elt ifs g c f)/\∀x,foldedSetIterable iter X.env x=pure x:=by
 match gens,h with
 | [#[tg,iter,ifs,asy]],h=>
  replace h:(if (asy==0)&&(xw Γ scope&&decide (ifs.length<=1))then match cI Γ (cE n Γ) tg iter,cT (gY Γ scope) tg,cA (cE n (gY Γ scope)) ifs,cE n (gY Γ scope) elt with|some it,gV t,gV cs,gV el=>gV (E.comp el t it cs (gC Γ scope.names))|_,_,_,_=>td else td)=gV e':=h
  split at h
  ·rename_i hc;rw[Jj,Jj,JP]at hc;have e0:asy=0:=eq_of_beq hc.1;subst e0;replace hc:=hc.2;split at h
   ·rename_i it t cs el h1 h2 h3 h4;cases h;have sc:=sM hc.1;refine#[tg,iter,ifs,_,_,_,_,_,rfl,rfl,qS K (λz=>(bY n K z).1) h1,λok=>#[_,mG K ok sc,?_],nO (n:=n) (λel k p=>by cases n <;> rfl) h1]
    refine#[λC s0 H0 ex=>sL (eS K sc C s0 H0 ex) h2,λC s0 H0 ex J s Y H Q I q=>?_,λC s0 H0 ex=>(bY n (eS K sc C s0 H0 ex) h4).1]
    exact pk hc.2 h3 (λz=>(bY n (eS K sc C s0 H0 ex) z).2) rfl J s Y H Q I q
   ·cases h
  ·cases h
 | [],h=>exact ap h
 | #[_,_,_,_]::_::_,h=>exact ap h
def FB (K:CtxOk M X Γ){x:JG}{px pos:LJ}{e:JM}{i:Jg}{e':E}(hi:de Γ x=gV i)(he:cE bZ Γ e=gV e'):GS X (.Assign [.Name x px] e pos) (kG (aA M e') (AF i)):=by
 obtain⟨a,b,c⟩:=nR K hi;have hN:X.N.Nodup:=by rw[K.N]; exact K.nd
 have plain:swapsWith e (gV (.Name x px)) pos.line X.env=pure false->GS X (.Assign [.Name x px] e pos) (kG (aA M e') (AF i)):=λhs=>qM (bY _ K he).1 (sE hN a b c) hs (by cases e <;> rfl) rfl
 cases hc:jl e with
 | false=>exact plain (kO hc _ he)
 | true=>
  cases e with
  | ListComp elt gens scope p=>
   cases hsw:(X.env.blockKind==.function&&X.env.kindOf x==gV .local&&px.line==p.line && !(scope.names.any λ(n,k)=>n==x&&(k==.local||k==.cell)))with
   | false=>
    refine plain ?_;show(pure (X.env.blockKind==.function&&X.env.kindOf x==gV .local&&px.line==p.line && !(scope.names.any λ(n,k)=>n==x&&(k==.local||k==.cell))):Rp JL)=pure false
    rw[hsw]
   | true=>
    have hsw':swapsWith (.ListComp elt gens scope p) (gV (.Name x px)) pos.line X.env=pure true:=by
     show(pure (X.env.blockKind==.function&&X.env.kindOf x==gV .local&&px.line==p.line && !(scope.names.any λ(n,k)=>n==x&&(k==.local||k==.cell))):Rp JL)=pure true
     rw[hsw]
    rw[Jj,Jj,Jj]at hsw;have hl:X.env.scope.names.lookup x=gV .local:=eq_of_beq hsw.1.1.2;obtain⟨tg,iter,ifs,fi,g,c',f,cap,rfl,e2,gi,hck,hs⟩:=qT K he;rw[e2];exact qQ K.calm gi hck hs hsw' hN a hl
  | _=>cases hc
def pq (K:CtxOk M X Γ){x y:JG}{px py pt pt2:LJ}{kt k2:Jg}{a b:JM}(hxy:x≠y)(hx:Γ.sc.lookup x=gV .local)(hy:Γ.sc.lookup y=gV .local)(hl:(py.line==px.line)=true)(h1:[a,b].all (foldedForSure 8)=false)(h2:[a,b].all (constantsAlone 8)=false)(hs:hX a=true)(hs2:hX b=true) :
  swappedStores [.Tuple [.Name x px,.Name y py] kt pt] (.Tuple [a,b] k2 pt2) X.env=pure (gV [x,y]):=by
 have kx:(X.env.kindOf x==gV .local)=true:=by unfold N6; rw[K.names,hx]; rfl
 have ky:(X.env.kindOf y==gV .local)=true:=by unfold N6; rw[K.names,hy]; rfl
 have bk:(X.env.blockKind != .function)=false:=by
  unfold Env.blockKind;rw[K.kind];rfl
 have hp:(px.line==px.line)=true:=by simp
 have ed:([x,y].eraseDups.length != [x,y].length)=false:=by
  have:(y==x)=false:=by simpa using Ne.symm hxy
  simp[OP,this]
 have kx':X.env.kindOf x=gV .local:=eq_of_beq kx;have ky':X.env.kindOf y=gV .local:=eq_of_beq ky;have hl':py.line=px.line:=eq_of_beq hl;have bk':X.env.blockKind=.function:=by simpa using bk
 have yx:(y==x)=false:=by simpa using Ne.symm hxy
 have h1':(foldedForSure 8 a&&foldedForSure 8 b)=false:=by simpa using h1
 have h2':(constantsAlone 8 a&&constantsAlone 8 b)=false:=by simpa using h2
 unfold swappedStores;simp only[LZ,List.any_nil,QT,Mz,List.filterMap_nil,kx',ky',bk',List.head?_cons,J4,NV,J2,Lg,Ki,List.all_nil,OT,h1',h2'];refine Eq.trans (JU ?_) (Eq.trans (JU ?_) ?_)
 ·decide
 ·rw[K7];rintro(hh|hh)
  ·clear h1 h2 h1' h2';cases a <;> first|(cases hh; done)|(cases hs; done)
  ·clear h1 h2 h1' h2';cases b <;> first|(cases hh; done)|(cases hs2; done)
 ·dsimp only[Expr.pos]; simp[hl',yx,OP]
def A7 (fuel:Jg)(K:CtxOk M X Γ):∀(n:Jg) {st:L4} {s':Sm},cS n Γ st=gV s'->GS X st (fM M fuel s'):=by
 have hN:X.N.Nodup:=by rw[K.N]; exact K.nd
 have own:OJ (model X.prog X.w) X.A X.env X.xe:=by rw[K.xe]; exact R3
 intro n
 induction n with
 | zero=>intro st s' h; cases h
 | succ n ih=>
  intro st s' h;cases st with
  | Expr e p=>
   replace h:(if B2 e then gV Sm.pass else if jl e then td else(cE bZ Γ e).map Sm.ex)=gV s':=h
   split at h
   ·rename_i hd;cases h;cases e with
    | Constant c k q=>
     cases c with
     | str x=>exact Du
     | _=>cases hd
    | _=>cases hd
   ·split at h
    ·cases h
    ·rename_i hd hc;rw[Jf]at h;obtain⟨e',h1,rfl⟩:=h;exact Fp (bY _ K h1).1 (kO (by simpa using hc) _ h1)
  | Return o p=>
   cases o with
   | none=>cases h
   | some e=>
    replace h:(cE bZ Γ e).map Sm.ret=gV s':=h;rw[Jf]at h;obtain⟨e',h1,rfl⟩:=h;exact Dv (bY _ K h1).1
  | Pass p=>cases h; exact AC
  | If t a b p=>
   replace h:(match cE bZ Γ t,sP (cS n Γ) a,sP (cS n Γ) b with|some t',gV a',gV b'=>gV (Sm.ite t' a' b')|_,_,_=>td)=gV s':=h
   split at h
   ·rename_i t' a' b' h1 h2 h3;cases h;exact Fq (bY _ K h1).2 (gD ih h2) (gD ih h3)
   ·cases h
  | While t b o p=>
   cases o with
   | cons _ _=>exact ap h
   | nil=>
    replace h:(match cE bZ Γ t,sP (cS n Γ) b with|some t',gV b'=>gV (Sm.whl t' b')|_,_=>td)=gV s':=h
    split at h
    ·rename_i t' b' h1 h2;cases h;exact xf fuel own (bY _ K h1).2 (gD ih h2)
    ·cases h
  | For tg it b o p=>
   cases o with
   | cons _ _=>exact ap h
   | nil=>
    replace h:(match cT Γ tg,cI Γ (cE bZ Γ) tg it,sP (cS n Γ) b with|some t,gV i,gV b'=>gV (Sm.loop t i b')|_,_,_=>td)=gV s':=h
    split at h
    ·rename_i t i b' h1 h2 h3;cases h;exact DB own K.calm (qS K (λz=>(bY _ K z).1) h2) (sL K h1) (gD ih h3) (nO (n:=bZ) (λel k p=>rfl) h2)
    ·cases h
  | Assign ts e p=>
   match ts,h with
   | [],h=>exact ap h
   | a::_::_,h=>cases a <;> exact ap h
   | [t],h=>
    cases t with
    | Name x px=>
     replace h:(match de Γ x,cE bZ Γ e with|some i,gV e'=>gV (Sm.set i e')|_,_=>td)=gV s':=h
     split at h
     ·rename_i i e' h1 h2;cases h;exact FB K h1 h2
     ·cases h
    | Subscript o k q=>
     replace h:(if sO k then td else match cE bZ Γ o,cE bZ Γ k,cE bZ Γ e with|some o',gV k',gV e'=>gV (Sm.put o' k' e')|_,_,_=>td)=gV s':=h
     split at h
     ·cases h
     ·rename_i hc;split at h
      ·rename_i o' k' e' h1 h2 h3;cases h;refine qM (bY _ K h3).1 (Dx (by have:=K.un; have:fP=20:=rfl; omega) (bY _ K h1).1 (bY _ K h2).1 ?_) (by cases e <;> rfl) (by cases e <;> rfl) rfl
       intro v;cases k <;> first|rfl|exact absurd rfl hc
      ·cases h
    | Tuple ts' k q=>
     have par:∀ {x y:JG} {px py:LJ} {a b:PySem.Expr} {k2:Jg} {q2:LJ},(match Γ.N.findIdx? (· == x),Γ.N.findIdx? (· == y),cA (cE bZ Γ) [a,b]with
       | some i,gV j,gV es=>if !(i==j)&&(Γ.sc.lookup x==gV .local)&&(Γ.sc.lookup y==gV .local)&&(py.line==px.line) && !([a,b].all (foldedForSure 8)) && !([a,b].all (constantsAlone 8))then gV (Sm.par i j es)else td
       | _,_,_=>td)=gV s'->GS X (.Assign [.Tuple [.Name x px,.Name y py] k q] (.Tuple [a,b] k2 q2) p) (fM M fuel s'):=λ{x y px py a b k2 q2} h=>by
      split at h
      ·rename_i i j es h1 h2 h3;split at h
       ·rename_i hc;cases h;rw[Jj,Jj,Jj,Jj,Jj]at hc;obtain⟨⟨⟨⟨⟨c1,c2⟩,c3⟩,c4⟩,c5⟩,c6⟩:=hc;have hij:i≠j:=by simpa using c1
        have ns:=cg h3;rw[Ki,Ki,Jj,Jj]at ns;have hi:X.N[i]?=gV x:=by rw[K.N]; exact du h1
        have hj:X.N[j]?=gV y:=by rw[K.N]; exact du h2
        refine Dy K.calm hN hi hj hij (by rw[K.names]; exact eq_of_beq c2) (by rw[K.names]; exact eq_of_beq c3) (dg (λz=>(bY _ K z).1) h3) (pq K ?_ (eq_of_beq c2) (eq_of_beq c3) c4 (by rw[<- LY]; exact c5) (by rw[<- LY]; exact c6) ns.1 ns.2.1) rfl
        rintro rfl;rw[h1]at h2;cases h2;exact hij rfl
       ·cases h
      ·cases h
     replace h:(if isTup e then DF Γ ts' e else if jl e then td else match EC Γ ts',cE bZ Γ e with|some is,gV e'=>gV (Sm.asg is e')|_,_=>td)=gV s':=h
     split at h
     ·unfold DF at h;split at h
      ·exact par h
      ·cases h
     ·split at h
      ·cases h
      ·rename_i hc1 hc2;split at h
       ·rename_i is e' h1 h2;cases h;refine qM (bY _ K h2).1 (sL (tg:=.Tuple ts' k q) (t:=.tp is) K (by simp[cT,h1])) (kO (t:=gV (.Tuple ts' k q)) (l:=p.line) (env:=X.env) (by simpa using hc2) _ h2) ?_ rfl
        cases e <;> first|rfl|exact absurd rfl hc1
       ·cases h
    | _=>exact ap h
  | _=>exact ap h
end
structure Df where
 ps:Ja JG
 N:Ja JG
 body:Ss
abbrev fm (N:Ja JG)(ws:Ja W):Fm:=ws.map gV++Ke (N.length - ws.length) td
abbrev ar (defs:Ja (JG×Df))(fuel:Jg):Jg->JG->FF
 | 0,_,_,_=>td
 | d+1,f,ws,S=>match defs.lookup f with
  | some df=>if ws.length=df.ps.length then match fW (ar defs fuel d) fuel df.body (fm df.N ws) S with
    | some (.rt w,S')=>gV (w,S')
    | some (.nx _,S')=>gV (.non,S')
    | _=>td
   else td
  | none=>td
structure Md where
 fns:Ja (JG×Jg)
 blt:Ja JG
abbrev xF (tx:Md)(st:L4)(N:Ja JG):Gam:={ sc:=(aW st).names,N:=N,fns:=tx.fns,blt:=tx.blt,dfn:=true }
abbrev FC (tx:Md)(st:L4)(df:Df):Prop:=sP (cS 20 (xF tx st df.N)) (cD st)=gV df.body
def mH {K:Jx}{A:Ja Jn}{H:Hp}{ws:Ja W}{vs:Ja V}{N:Ja JG}(r:RelL K A H ws vs):EnvRel K A H (fm N ws) (fN N vs):=by
 refine#[by simp[fm,L2.fN,r.length],λi w h=>?_]
 unfold fm at h;unfold L2.fN
 by_cases hi:i < ws.length
 ·rw[JZ (by simpa using hi),Jl]at h
  rw[JZ (by rw[Jb,<- r.length]; exact hi),Jl]
  cases q:ws[i]? with
  | none=>rw[q]at h; cases h
  | some w'=>
   rw[q]at h;simp only[J4,J3]at h;subst h;obtain⟨v,h1,h2⟩:=r.get q;exact#[v,by rw[h1]; rfl,h2]
 ·rw[J9 (by simpa using hi)]at h
  have:=Jq h;simp at this
section
variable{P:J0}{w:Kc}{K:Jx}{mg:JG->Ji Jd}{base:Kl}
abbrev B3 (P:J0)(w:Kc)(K:Jx)(mg:JG->Ji Jd)(base:Kl)(tx:Md)(defs:Ja (JG×Df))(fuel d:Jg):Prop:=
 ∀f n,tx.fns.lookup f=gV n->∃fa fd ps,FnOk P w K mg base rX d fa fd ps (uC w K n (ar defs fuel d f))/\mg f=gV (.ref fa)/\Kv K (.ref fa)=true/\Binds K fd ps []
structure MdOk (w:Kc)(K:Jx)(mg:JG->Ji Jd)(tx:Md):Prop where
 blt:∀y∈tx.blt,mg y=td
def B4 {tx:Md}{defs:Ja (JG×Df)}{fuel d:Jg}{x qual:JG}{st:L4}{f:Jn}{fd:Lr}{df:Df}(F:Fun K x qual st f fd)(S:FnScope df.N df.ps (aW st))(hd:defs.lookup x=gV df)(hc:FC tx st df)
  (hb:MdOk w K mg tx) (prev:B3 P w K mg base tx defs fuel d):FnOk P w K mg base rX (d+1) f fd df.ps (uC w K df.ps.length (ar defs fuel (d+1) x)):=by
 refine F.ok S (λvs H Q E h=>?_) (λcdv A outer s H vs Q E hr h=>?_)
 ·obtain⟨A,S,ws,w',S',_,rl,hl,_⟩:=h;rw[<- rl.length]; exact hl
 ·obtain⟨A',St,ws,w',S',so,rl,hl,e,hq⟩:=h;have K':CtxOk (ar defs fuel d) (qw rX P w K mg base df.N qual (aW st) f cdv A outer s H E).nox (xF tx st df.N):=by
   refine#[rfl,S.kind,rfl,S.nd,rfl,rfl,?_,λ_ _=>rfl,hb.blt,λg n hg=>?_]
   ·have:=hr.un;show(A.deeper _).units+20 < cLine;omega
   ·obtain⟨fa,fd',ps',h1,h2,h3,h4⟩:=prev g n hg;exact#[d,fa,fd',ps',h1,hr,h2,h3,h4]
  refine#[tS _ (fW (ar defs fuel d) fuel df.body),gD (λz=>A7 fuel K' 20 z) hc,?_]
  simp only[ar,hd]at e;rw[JK hl]at e;split at e
  ·rename_i w1 S1 h1;cases e;refine#[A',fm df.N ws,St,_,_,mH rl,so,h1,#[λY' H' #[_,_,z,_]=>(by cases z),λv H' #[w2,A2,z0,z1,z2,z3]=>?_,λY' H' #[_,_,z,_]=>(by cases z),λY' H' #[_,_,z,_]=>(by cases z)]]
   cases z0;exact hq v H' #[A2,z1,z2,z3]
  ·rename_i Z1 S1 h1;cases e;refine#[A',fm df.N ws,St,_,_,mH rl,so,h1,#[λY' H' #[w2,A2,z0,z1,z2,z3]=>?_,λY' H' #[_,_,z,_]=>(by cases z),λY' H' #[_,_,z,_]=>(by cases z),λY' H' #[_,_,z,_]=>(by cases z)]]
   exact hq _ H' #[A2,z1,z2,.non]
  ·cases e
def uL {H:Hp}{a:Jn}{ns:Ja Jk}(hO:vV H)(hS:SqL K H a (ns.map V.int)):StoreOk w K [a] H [.fro (ns.map W.int)]/\RelL K [a] H [.ref 0] [.ref a]:=by
 have rl:∀ns:Ja Jk,RelL K [a] H (ns.map W.int) (ns.map V.int):=by
  intro ns
  induction ns with
  | nil=>exact .nil
  | cons n ns ih=>exact .cons .int ih
 have fr:FroL K H a (ns.map V.int):=by
  rcases hS with(h|⟨o,h⟩)|h
  ·rcases hO a with z|⟨o,xs,z⟩ <;> (rw[z]at h; cases h)
  ·exact .inl #[o,h]
  ·exact .inr h
 refine#[#[rfl,λi j b o u e1 m1 e2 m2 _ _=>?_,λi o b e1 e2=>?_],.cons (.ref rfl) .nil]
 ·cases i with
  | zero=>simp at e1; subst e1; cases m1
  | succ i=>simp at e1
 ·cases i with
  | zero=>
   simp at e1 e2;subst e1 e2;exact#[_,fr,rl ns]
  | succ i=>simp at e1
def DH {g:FF}{H:Hp}{a:Jn}{ns:Ja Jk}(h:∃S',g [.ref 0] [.fro (ns.map W.int)]=gV (.bl true,S'))(hO:vV H)(hS:SqL K H a (ns.map V.int)):uC w K 1 g [.ref a] H (λv _=>v=.bl true) λ_ _ _=>KA:=by
 obtain⟨S',e⟩:=h;obtain⟨so,rl⟩:=uL hO hS;exact#[[a],_,_,_,S',so,rl,rfl,e,λv H' #[A',z1,z2,z3]=>by cases z3; rfl]
end
abbrev Wp {α:Type}(o:Ji α)(Q:α->Prop):Prop:=∃a,o=gV a/\Q a
def af {α:Type}{a:α}{Q:α->Prop}:Wp (gV a) Q↔Q a:=#[λ#[b,e,h]=>(by cases e; exact h),λh=>#[a,rfl,h]]
def ag {α:Type}{Q:α->Prop}:Wp (td:Ji α) Q↔KA:=#[λ#[b,e,h]=>(by cases e),λh=>h.elim]
def Wp.mono {α:Type}{o:Ji α}{Q Q':α->Prop}(h:Wp o Q)(k:∀a,Q a->Q' a):Wp o Q':=let ⟨a,e,q⟩:=h; #[a,e,k a q]
section
variable{M:JG->FF}{fuel:Jg}{Z:Fm}{S:aa}
noncomputable abbrev QW:=W×aa->Prop
def IJ {w:W}{Q:QW}:Wp (aA M (.c w) Z S) Q↔Q (w,S):=by(dsimp only[aA]; simp[fC,af,ag])
def Iy {i:Jg}{Q:QW}:Wp (aA M (.v i) Z S) Q↔∃w,Z[i]?=gV (gV w)/\Q (w,S):=by
 (dsimp only[aA]; simp only[fV])
 rcases h:Z[i]? with _|_|w <;> simp[af,ag]
def xG {g:W->W->aa->Ji (W×aa)}{a b:FE}{Q:QW}:Wp (Ao g a b Z S) Q↔Wp (a Z S) λp=>Wp (b Z p.2) λq=>Wp (g p.1 q.1 q.2) Q:=by
 unfold Ao;rcases h:a Z S with _|⟨x,S1⟩
 ·simp[af,ag]
 ·rcases h2:b Z S1 with _|⟨y,S2⟩ <;> simp[af,ag,h2]
def HH {o:BOp}{a b:E}{Q:QW}:Wp (aA M (.op o a b) Z S) Q↔Wp (aA M a Z S) λp=>Wp (aA M b Z p.2) λq=>Wp (iu o p.1 q.1 q.2) Q:=by dsimp only[aA]; exact xG
def B5 {o:COp}{a b:E}{Q:QW}:Wp (aA M (.cmp o a b) Z S) Q↔Wp (aA M a Z S) λp=>Wp (aA M b Z p.2) λq=>Wp (aP o p.1 q.1 q.2) Q:=by dsimp only[aA]; exact xG
def HI {a b:E}{Q:QW}:Wp (aA M (.ix a b) Z S) Q↔Wp (aA M a Z S) λp=>Wp (aA M b Z p.2) λq=>Wp (jP p.1 q.1 q.2) Q:=by dsimp only[aA]; exact xG
def FD {a b:E}{Q:QW}:Wp (aA M (.and a b) Z S) Q↔Wp (aA M a Z S) λp=>∃k,p.1=.bl k/\(k=true->Wp (aA M b Z p.2) Q)/\(k=false->Q (.bl false,p.2)):=by
 (dsimp only[aA]; simp only[sA])
 rcases h:aA M a Z S with _|⟨x,S1⟩
 ·simp[af,ag]
 ·cases x <;> simp[af,ag]
  rename_i b; cases b <;> simp[af,ag]
def HJ {a b:E}{Q:QW}:Wp (aA M (.or a b) Z S) Q↔Wp (aA M a Z S) λp=>∃k,p.1=.bl k/\(k=true->Q (.bl true,p.2))/\(k=false->Wp (aA M b Z p.2) Q):=by
 (dsimp only[aA]; simp only[At])
 rcases h:aA M a Z S with _|⟨x,S1⟩
 ·simp[af,ag]
 ·cases x <;> simp[af,ag]
  rename_i b; cases b <;> simp[af,ag]
def FH {a:E}{Q:QW}:Wp (aA M (.not a) Z S) Q↔Wp (aA M a Z S) λp=>∃k,p.1=.bl k/\Q (.bl (!k),p.2):=by
 (dsimp only[aA]; simp only[sB])
 rcases h:aA M a Z S with _|⟨x,S1⟩
 ·simp[af,ag]
 ·cases x <;> simp[af,ag]
  rename_i k; cases k <;> simp
def FJ {t a b:E}{Q:QW}:Wp (aA M (.ite t a b) Z S) Q↔Wp (cV M t Z S) λp=>(p.1=true->Wp (aA M a Z p.2) Q)/\(p.1=false->Wp (aA M b Z p.2) Q):=by
 (dsimp only[aA]; simp only[Au])
 rcases h:cV M t Z S with _|⟨x,S1⟩
 ·simp[af,ag]
 ·cases x <;> simp[af,ag]
def sQ {f:JG}{n:Jg}{es:Es}{Q:QW}:Wp (aA M (.own f n es) Z S) Q↔Wp (cX M es Z S) λp=>p.1.length=n/\Wp (M f p.1 p.2) Q:=by
 (dsimp only[aA]; simp only[lS])
 rcases h:cX M es Z S with _|⟨x,S1⟩
 ·simp[af,ag]
 ·by_cases hl:x.length=n <;> simp[af,ag,hl]
def FK {f g:JG}{n:Jg}{i:E}{es:Es}{Q:QW}(h:Wp (aA M i Z S) λp=>(p.1=.int 0/\Wp (aA M (.own f n es) Z p.2) Q)\/(p.1=.int 1/\Wp (aA M (.own g n es) Z p.2) Q)):Wp (aA M (.ow2 f g n i es) Z S) Q:=by
 obtain⟨⟨w,S1⟩,e,hq⟩:=h;rcases hq with⟨z,r,e2,hq⟩|⟨z,r,e2,hq⟩
 all_goals
  dsimp only at z e2;subst z;refine#[r,?_,hq];dsimp only[aA]at e2 ⊢;simp only[xi,e];exact e2
def FL {b:Bi}{es:Es}{Q:QW}:Wp (aA M (.bi b es) Z S) Q↔Wp (cX M es Z S) λp=>Wp (b.fn p.1 p.2) Q:=by
 (dsimp only[aA]; simp only[jD])
 rcases h:cX M es Z S with _|⟨x,S1⟩ <;> simp[af,ag]
def HK {m:Me}{o:E}{es:Es}{Q:QW}:Wp (aA M (.me m o es) Z S) Q↔Wp (aA M o Z S) λp=>tyOk m.ty p.2 p.1=true/\Wp (cX M es Z p.2) λq=>Wp (m.fn p.1 q.1 q.2) Q:=by
 (dsimp only[aA]; simp only[Ez])
 rcases h:aA M o Z S with _|⟨x,S1⟩
 ·simp[af,ag]
 ·by_cases ht:tyOk m.ty S1 x=true
  ·rcases h2:cX M es Z S1 with _|⟨y,S2⟩ <;> simp[af,ag,ht,h2]
  ·simp[af,ag,ht]
def HL {a:E}{lo hi:Ep}{Q:QW}:Wp (aA M (.sl a lo hi) Z S) Q↔Wp (aA M a Z S) λp=>Wp (sH M lo Z p.2) λq=>Wp (sH M hi Z q.2) λr=>Wp (lP p.1 q.1 r.1 r.2) Q:=by
 (dsimp only[aA]; simp only[Fk])
 rcases h:aA M a Z S with _|⟨x,S1⟩
 ·simp[af,ag]
 ·rcases h2:sH M lo Z S1 with _|⟨y,S2⟩
  ·simp[af,ag,h2]
  ·rcases h3:sH M hi Z S2 with _|⟨z,S3⟩ <;> simp[af,ag,h2,h3]
def HM {Q:Ji Jk×aa->Prop}:Wp (sH M .no Z S) Q↔Q (td,S):=by(dsimp only[sH]; simp[Dr,af,ag])
def FM {a:E}{Q:Ji Jk×aa->Prop}:Wp (sH M (.yes a) Z S) Q↔Wp (aA M a Z S) λp=>∃i,p.1=.int i/\Q (gV i,p.2):=by
 (dsimp only[sH]; simp only[sD])
 rcases h:aA M a Z S with _|⟨x,S1⟩
 ·simp[af,ag]
 ·cases x <;> simp[af,ag]
def FN {es:Es}{Q:QW}:Wp (aA M (.tup es) Z S) Q↔Wp (cX M es Z S) λp=>p.1.length<=sizeLine/\Q (.tup p.1,p.2):=by
 (dsimp only[aA]; simp only[wM,qB])
 rcases h:cX M es Z S with _|⟨x,S1⟩
 ·simp[af,ag]
 ·by_cases hl:x.length<=sizeLine <;> simp[af,ag,hl]
def FP {es:Es}{Q:QW}:Wp (aA M (.lst es) Z S) Q↔Wp (cX M es Z S) λp=>p.1.length<=sizeLine/\Q (.ref p.2.length,p.2++[.lst p.1]):=by
 (dsimp only[aA]; simp only[wQ,lO])
 rcases h:cX M es Z S with _|⟨x,S1⟩
 ·simp[af,ag]
 ·by_cases hl:x.length<=sizeLine <;> simp[af,ag,hl]
def B6 {c:KL}{a:E}{Q:QW}:Wp (aA M (.isi c a) Z S) Q↔Wp (aA M a Z S) λp=>∃k,uE p.2 p.1 c=gV k/\Q (.bl k,p.2):=by
 (dsimp only[aA]; simp only[xm])
 rcases h:aA M a Z S with _|⟨x,S1⟩
 ·simp[af,ag]
 ·cases h2:uE S1 x c <;> simp[af,ag,h2]
  rename_i k; cases k <;> simp
def FQ {a:E}{Q:QW}:Wp (aA M (.neg a) Z S) Q↔Wp (aA M a Z S) λp=>∃i,p.1=.int i/\Q (.int (-i),p.2):=by
 (dsimp only[aA]; simp only[wF])
 rcases h:aA M a Z S with _|⟨x,S1⟩
 ·simp[af,ag]
 ·cases x <;> simp[af,ag]
def DI {es:Es}{Q:QW}:Wp (aA M (.disp es) Z S) Q↔Wp (cX M es Z (S++[.dic []])) λp=>p.2[S.length]?=gV (.dic [])/\∃U,dE [] p.1=gV U/\Q (.ref S.length,p.2.set S.length (.dic U)):=by
 have e:aA M (.disp es) Z S=pf (cX M es) Z S:=by dsimp only[aA]
 rw[e];unfold pf;cases cX M es Z (S++[.dic []])with
 | none=>simp[ag]
 | some p=>
  obtain⟨x,S1⟩:=p;simp only[af];cases h2:S1[S.length]? with
  | none=>simp[ag]
  | some o=>
   cases o with
   | lst _=>simp[ag]
   | fro _=>simp[ag]
   | frd _=>simp[ag]
   | rng _ _=>simp[ag]
   | dic U=>
    cases U with
    | nil=>cases h3:dE [] x <;> simp[af,ag]
    | cons a b=>simp[ag]
def B7 {o o':COp}{a b d:E}{Q:QW}(h:Wp (aA M a Z S) λp=>Wp (aA M b Z p.2) λq=>∃k,ud o p.1 q.1 q.2=gV k/\(k=true->Wp (aA M d Z q.2) λr=>Wp (dC o' q.1 r.1 r.2) Q)/\(k=false->Q (.bl false,q.2))):Wp (aA M (.chn o o' a b d) Z S) Q:=by
 obtain⟨⟨x,S1⟩,e1,⟨y,S2⟩,e2,k,e3,h1,h2⟩:=h;have e:aA M (.chn o o' a b d) Z S=fT o o' (aA M a) (aA M b) (aA M d) Z S:=by dsimp only[aA]
 rw[e];unfold fT;rw[e1];dsimp only;rw[e2];dsimp only;rw[e3];cases k with
 | false=>exact#[_,rfl,h2 rfl]
 | true=>
  obtain⟨⟨z,S3⟩,e4,⟨r,e5,q⟩⟩:=h1 rfl;dsimp only;rw[e4];exact#[_,e5,q]
def FR {Q:Ja W×aa->Prop}:Wp (cX M .nil Z S) Q↔Q ([],S):=by(dsimp only[cX]; simp[iG,af,ag])
def DJ {e:E}{es:Es}{Q:Ja W×aa->Prop}:Wp (cX M (.cons e es) Z S) Q↔Wp (aA M e Z S) λp=>Wp (cX M es Z p.2) λq=>Q (p.1::q.1,q.2):=by
 (dsimp only[cX]; simp only[dG])
 rcases h:aA M e Z S with _|⟨x,S1⟩
 ·simp[af,ag]
 ·rcases h2:cX M es Z S1 with _|⟨y,S2⟩ <;> simp[af,ag,h2]
noncomputable abbrev QB:=JL×aa->Prop
def B8 {f:FE}{Q:QB}:Wp (pc f Z S) Q↔Wp (f Z S) λp=>∃k,p.1=.bl k/\Q (k,p.2):=by
 unfold pc;rcases h:f Z S with _|⟨x,S1⟩
 ·simp[af,ag]
 ·cases x <;> simp[af,ag]
  rename_i k; cases k <;> simp
def sR {f:FE}{Q:QB}:Wp (gM f Z S) Q↔Wp (f Z S) λp=>∃k,cU p.2 p.1=gV k/\Q (k,p.2):=by
 unfold gM;rcases h:f Z S with _|⟨x,S1⟩
 ·simp[af,ag]
 ·cases h2:cU S1 x <;> simp[af,ag,h2]
  rename_i k; cases k <;> simp
def FU {o:COp}{a b:E}{Q:QB}:Wp (cV M (.cmp o a b) Z S) Q↔Wp (aA M (.cmp o a b) Z S) λp=>∃k,p.1=.bl k/\Q (k,p.2):=by dsimp only[cV,aA]; exact B8
def FV {o o':COp}{a b d:E}{Q:QB}:Wp (cV M (.chn o o' a b d) Z S) Q↔Wp (aA M (.chn o o' a b d) Z S) λp=>∃k,p.1=.bl k/\Q (k,p.2):=by dsimp only[cV,aA]; exact B8
def FW {a b:E}{Q:QB}:Wp (cV M (.and a b) Z S) Q↔Wp (cV M a Z S) λp=>(p.1=true->Wp (cV M b Z p.2) Q)/\(p.1=false->Q (false,p.2)):=by
 (dsimp only[cV]; simp only[wK])
 rcases h:cV M a Z S with _|⟨x,S1⟩
 ·simp[af,ag]
 ·cases x <;> simp[af,ag]
def HN {a b:E}{Q:QB}:Wp (cV M (.or a b) Z S) Q↔Wp (cV M a Z S) λp=>(p.1=true->Q (true,p.2))/\(p.1=false->Wp (cV M b Z p.2) Q):=by
 (dsimp only[cV]; simp only[Fh])
 rcases h:cV M a Z S with _|⟨x,S1⟩
 ·simp[af,ag]
 ·cases x <;> simp[af,ag]
def FX {a:E}{Q:QB}:Wp (cV M (.not a) Z S) Q↔Wp (cV M a Z S) λp=>Q (!p.1,p.2):=by
 (dsimp only[cV]; simp only[Aq])
 rcases h:cV M a Z S with _|⟨x,S1⟩ <;> simp[af,ag]
def IK {i:Jg}{Q:QB}:Wp (cV M (.v i) Z S) Q↔Wp (aA M (.v i) Z S) λp=>∃k,cU p.2 p.1=gV k/\Q (k,p.2):=by dsimp only[cV,aA]; exact sR
def FY {f:JG}{n:Jg}{es:Es}{Q:QB}:Wp (cV M (.own f n es) Z S) Q↔Wp (aA M (.own f n es) Z S) λp=>∃k,cU p.2 p.1=gV k/\Q (k,p.2):=by dsimp only[cV,aA]; exact sR
def HP {b:Bi}{es:Es}{Q:QB}:Wp (cV M (.bi b es) Z S) Q↔Wp (aA M (.bi b es) Z S) λp=>∃k,cU p.2 p.1=gV k/\Q (k,p.2):=by dsimp only[cV,aA]; exact sR
def FZ {c:KL}{a:E}{Q:QB}:Wp (cV M (.isi c a) Z S) Q↔Wp (aA M (.isi c a) Z S) λp=>∃k,cU p.2 p.1=gV k/\Q (k,p.2):=by dsimp only[cV,aA]; exact sR
noncomputable abbrev QO:=Out×aa->Prop
def F0 {Q:QO}:Wp (fW M fuel .nil Z S) Q↔Q (.nx Z,S):=by(dsimp only[fW]; simp[af,ag])
def DK {s:Sm}{ss:Ss}{Q:QO}:Wp (fW M fuel (.cons s ss) Z S) Q↔Wp (fM M fuel s Z S) λp=>(∀Z',p.1=.nx Z'->Wp (fW M fuel ss Z' p.2) Q)/\((∀Z',p.1≠.nx Z')->Q p):=by
 (dsimp only[fW]; simp only[AA])
 rcases h:fM M fuel s Z S with _|⟨o,S1⟩
 ·simp[af,ag]
 ·cases o <;> simp[af,ag]
def xH {f:FE}{g:FG}{Q:QO}:Wp (kG f g Z S) Q↔Wp (f Z S) λp=>Wp (g p.1 Z p.2) λq=>Q (.nx q.1,q.2):=by
 unfold kG;rcases h:f Z S with _|⟨x,S1⟩
 ·simp[af,ag]
 ·rcases h2:g x Z S1 with _|⟨y,S2⟩ <;> simp[af,ag,h2]
def DL {i:Jg}{e:E}{Q:QO}:Wp (fM M fuel (.set i e) Z S) Q↔Wp (aA M e Z S) λp=>Q (.nx (Z.set i (gV p.1)),p.2):=by
 dsimp only[fM]; rw[xH]; simp[AF,af,ag]
def DM {is:Ja Jg}{e:E}{Q:QO}:Wp (fM M fuel (.asg is e) Z S) Q↔Wp (aA M e Z S) λp=>∃ws Z',p.1=.tup ws/\c7 is ws Z=gV Z'/\Q (.nx Z',p.2):=by
 dsimp only[fM]; rw[xH]
 constructor
 ·refine λh=>h.mono λp hp=>?_
  obtain⟨w,S1⟩:=p;obtain⟨q,h1,h2⟩:=hp;cases w with
  | tup ws=>
   simp only[EA,Jf]at h1;obtain⟨Z',h3,rfl⟩:=h1;exact#[ws,Z',rfl,h3,h2]
  | _=>cases h1
 ·refine λh=>h.mono λp hp=>?_
  obtain⟨w,S1⟩:=p;obtain⟨ws,Z',h0,h1,h2⟩:=hp;subst h0;exact#[(Z',S1),by simp[EA,h1],h2]
def DN {i j:Jg}{es:Es}{Q:QO}:Wp (fM M fuel (.par i j es) Z S) Q↔Wp (cX M es Z S) λp=>∃x y,p.1=[x,y]/\Q (.nx ((Z.set i (gV x)).set j (gV y)),p.2):=by
 (dsimp only[fM]; simp only[AH])
 rcases h:cX M es Z S with _|⟨x,S1⟩
 ·simp[ag]
 ·match x with
  | []=>simp[af,ag]
  | [_]=>simp[af,ag]
  | [a,b]=>
   simp only[af];exact#[λh=>#[a,b,rfl,h],λ#[x,y,e,h]=>by cases e; exact h]
  | _::_::_::_=>simp[af,ag]
def DO {o k e:E}{Q:QO}:Wp (fM M fuel (.put o k e) Z S) Q↔Wp (aA M e Z S) λp=>Wp (aA M o Z p.2) λq=>Wp (aA M k Z q.2) λr=>∃S',iE q.1 r.1 p.1 r.2=gV S'/\Q (.nx Z,S'):=by
 dsimp only[fM]; rw[xH]
 rcases h:aA M e Z S with _|⟨x,S1⟩
 ·simp[af,ag]
 ·simp only[af];unfold AG;rcases h2:aA M o Z S1 with _|⟨y,S2⟩
  ·simp[af,ag]
  ·rcases h3:aA M k Z S2 with _|⟨z,S3⟩
   ·simp[af,ag,h3]
   ·cases h4:iE y z x S3 <;> simp[af,ag,h3,h4]
def F1 {e:E}{Q:QO}:Wp (fM M fuel (.ex e) Z S) Q↔Wp (aA M e Z S) λp=>Q (.nx Z,p.2):=by
 (dsimp only[fM]; simp only[AB])
 rcases h:aA M e Z S with _|⟨x,S1⟩ <;> simp[af,ag]
def DP {e:E}{Q:QO}:Wp (fM M fuel (.ret e) Z S) Q↔Wp (aA M e Z S) λp=>Q (.rt p.1,p.2):=by
 (dsimp only[fM]; simp only[AD])
 rcases h:aA M e Z S with _|⟨x,S1⟩ <;> simp[af,ag]
def DQ {t:E}{a b:Ss}{Q:QO}:Wp (fM M fuel (.ite t a b) Z S) Q↔Wp (cV M t Z S) λp=>(p.1=true->Wp (fW M fuel a Z p.2) Q)/\(p.1=false->Wp (fW M fuel b Z p.2) Q):=by
 (dsimp only[fM]; simp only[AE])
 rcases h:cV M t Z S with _|⟨x,S1⟩
 ·simp[af,ag]
 ·cases x <;> simp[af,ag]
end
section
variable{M:JG->FF}{fuel:Jg}{Z:Fm}{S:aa}
abbrev xI (I:Fm->aa->Prop)(Q:QO)(o:Out×aa):Prop:=match o.1 with
 | .nx Z'=>I Z' o.2
 | .ct Z'=>I Z' o.2
 | .bk Z'=>Q (.nx Z',o.2)
 | .rt w=>Q (.rt w,o.2)
def jm {mi:MI}{g:FG}{b:FS}{xs:Ja W}{Q:QO}(I:Jg->Fm->aa->Prop)(hat:∀i Z S,I i Z S->mi.at S i=gV xs[i]?)
  (hstep:∀i w Z S,xs[i]?=gV w->I i Z S->Wp (g w Z S) λq=>Wp (b q.1 q.2) (xI (I (i+1)) Q)) (hend:∀Z S,I xs.length Z S->Q (.nx Z,S)):∀(n i:Jg) (Z:Fm) (S:aa),i+n=xs.length->I i Z S->Wp (fU mi g b n i Z S) Q
 | 0,i,Z,S,hl,hI=>by
  have e:mi.at S i=gV td:=by rw[hat i Z S hI,Mj ∅]
  simp only[fU,e];have hi:i=xs.length:=∅
  exact af.mpr (hend Z S (hi ▸ hI))
 | n+1,i,Z,S,hl,hI=>by
  have hi:i < xs.length:=∅
  have e:mi.at S i=gV (gV xs[i]):=by rw[hat i Z S hI,Ju hi]
  obtain⟨⟨Z1,S1⟩,h1,⟨o,S2⟩,h2,h3⟩:=hstep i xs[i] Z S (Ju hi) hI;simp only[fU,e,h1,h2];cases o with
  | nx Z2=>exact jm I hat hstep hend n (i+1) Z2 S2 ∅ h3
  | ct Z2=>exact jm I hat hstep hend n (i+1) Z2 S2 ∅ h3
  | bk Z2=>exact af.mpr h3
  | rt w=>exact af.mpr h3
def F2 {fi:FI}{g:FG}{b:FS}{Q:QO}:Wp (xj fi g b Z S) Q↔Wp (fi Z S) λp=>∃n,p.1.len p.2=gV n/\Wp (fU p.1 g b n 0 Z p.2) Q:=by
 unfold xj;rcases h:fi Z S with _|⟨mi,S1⟩
 ·simp[ag]
 ·cases h2:mi.len S1 <;> simp[af,ag,h2]
def dJ {mi:MI}{g:FG}{c:FT}{f:FE}{xs:Ja W}{Q:Ja W×aa->Prop}(I:Jg->Ja W->Fm->aa->Prop)(hat:∀i ys Z S,I i ys Z S->mi.at S i=gV xs[i]?)
  (hstep:∀i w ys Z S,xs[i]?=gV w->I i ys Z S->Wp (g w Z S) λq=>Wp (c q.1 q.2) λk=>(k.1=true->Wp (f q.1 k.2) λy=>I (i+1) (ys++[y.1]) q.1 y.2)/\(k.1=false->I (i+1) ys q.1 k.2))
  (hend:∀ys Z S,I xs.length ys Z S->Q (ys,S)):∀(n i:Jg) (ys:Ja W) (Z:Fm) (S:aa),i+n=xs.length->I i ys Z S->Wp (bJ mi g c f n i Z S) λp=>Q (ys++p.1,p.2)
 | 0,i,ys,Z,S,hl,hI=>by
  have e:mi.at S i=gV td:=by rw[hat i ys Z S hI,Mj ∅]
  simp only[bJ,e];refine af.mpr ?_;have:i=xs.length:=∅
  simpa using hend ys Z S (this ▸ hI)
 | n+1,i,ys,Z,S,hl,hI=>by
  have hi:i < xs.length:=∅
  have e:mi.at S i=gV (gV xs[i]):=by rw[hat i ys Z S hI,Ju hi]
  obtain⟨⟨Z1,S1⟩,h1,⟨k,S2⟩,h2,h3,h4⟩:=hstep i xs[i] ys Z S (Ju hi) hI;simp only[bJ,e,h1,h2];cases k with
  | true=>
   obtain⟨⟨y,S3⟩,h5,h6⟩:=h3 rfl;simp only[h5];obtain⟨⟨zs,S4⟩,h7,h8⟩:=dJ I hat hstep hend n (i+1) (ys++[y]) Z1 S3 ∅ h6
   simp only[h7];exact af.mpr (by simpa using h8)
  | false=>exact dJ I hat hstep hend n (i+1) ys Z1 S2 ∅ (h4 rfl)
def xJ {elt:E}{tg:Tg}{it:Ie}{cs:Es}{cap:Ja (Ji Jg)}{Q:QW}:Wp (aA M (.comp elt tg it cs cap) Z S) Q↔Wp (jQ M it Z S) λp=>∃n,p.1.len p.2=gV n/\Wp (bJ p.1 (eQ tg) (AW M cs) (aA M elt) n 0 (fj cap Z) p.2) λq=>q.1.length<=sizeLine/\Q (.ref q.2.length,q.2++[.lst q.1]):=by
 (dsimp only[aA]; simp only[kH,lO])
 rcases h:jQ M it Z S with _|⟨mi,S1⟩
 ·simp[ag]
 ·rcases h2:mi.len S1 with _|n
  ·simp[af,ag,h2]
  ·rcases h3:bJ mi (eQ tg) (AW M cs) (aA M elt) n 0 (fj cap Z) S1 with _|⟨ys,S2⟩
   ·simp[af,ag,h2,h3]
   ·by_cases hl:ys.length<=sizeLine <;> simp[af,ag,h2,h3,hl]
def F3 {Q:QB}:Wp (AW M .nil Z S) Q↔Q (true,S):=by(dsimp only[AW]; simp[B1,af])
def F4 {e:E}{Q:QB}:Wp (AW M #v[e] Z S) Q↔Wp (cV M e Z S) Q:=by dsimp only[AW]; exact PJ
def HQ {i:Jg}{w:W}{Q:Fm×aa->Prop}:Wp (eQ (.nm i) w Z S) Q↔Q (Z.set i (gV w),S):=by(dsimp only[eQ]; simp[AF,af])
def kP {c:FT}{b:FS}{Q:QO}(I:Jg->Fm->aa->Prop)(hstep:∀m Z S,I m Z S->Wp (c Z S) λk=>(k.1=true->∃m',m=m'+1/\Wp (b Z k.2) (xI (I m') Q))/\(k.1=false->Q (.nx Z,k.2))) :
  ∀(n m:Jg) (Z:Fm) (S:aa),m < n->I m Z S->Wp (nM c b n Z S) Q
 | 0,m,Z,S,h,_=>∅
 | n+1,m,Z,S,h,hI=>by
  obtain⟨⟨k,S1⟩,h1,h2,h3⟩:=hstep m Z S hI;simp only[nM,h1];cases k with
  | false=>exact af.mpr (h3 rfl)
  | true=>
   obtain⟨m',rfl,⟨o,S2⟩,h5,h6⟩:=h2 rfl;simp only[h5];cases o with
   | nx Z2=>exact kP I hstep n m' Z2 S2 ∅ h6
   | ct Z2=>exact kP I hstep n m' Z2 S2 ∅ h6
   | bk Z2=>exact af.mpr h6
   | rt w=>exact af.mpr h6
def uM {defs:Ja (JG×Df)}{d:Jg}{f:JG}{ws:Ja W}{df:Df}{Q:QW}(h:defs.lookup f=gV df)(hl:ws.length=df.ps.length)
  (hb:Wp (fW (ar defs fuel d) fuel df.body (fm df.N ws) S) λp=>match p.1 with|.rt w=>Q (w,p.2)|.nx _=>Q (.non,p.2)|_=>KA):Wp (ar defs fuel (d+1) f ws S) Q:=by
 obtain⟨⟨o,S1⟩,h1,h2⟩:=hb;simp only[ar,h,JK hl,h1];cases o with
 | rt w=>exact af.mpr h2
 | nx Z=>exact af.mpr h2
 | bk _=>exact h2.elim
 | ct _=>exact h2.elim
end
section
variable{S:aa}{Q:QW}
def cO {a b:Jk}:iu .add (.int a) (.int b) S=gV (.int (a+b),S):=rfl
def gZ {a b:Jk}:iu .sub (.int a) (.int b) S=gV (.int (a - b),S):=rfl
def nS {c:Jk->Jk->JL}{f:Jk->Jk->Jk}{i j:Jk}(h:c i j=true):zt c f (.int i) (.int j) S=gV (.int (f i j),S):=by
 unfold zt;dsimp only;rw[JK h]
def sS {a b:Jk}(h : -(2 ^ 64) < b)(h2:b < 2 ^ 64):iu .mul (.int a) (.int b) S=gV (.int (a*b),S):=nS (c:=uc) (f:=(· * ·)) (by
 unfold uc;simp only[K7,Jj,JP];exact .inr #[h,h2])
def kQ {a b:Jk}(h:0 < b):iu .mod (.int a) (.int b) S=gV (.int (a % b),S):=nS (c:=λ_ j=>decide (0 < j)) (f:=(· % ·)) (Kf h)
def nT {a b:Jk}(h:0 < b)(h2:b < 1073741824):iu .fdiv (.int a) (.int b) S=gV (.int (a / b),S):=nS (c:=λ_ j=>zY j) (f:=(· / ·)) (by
 unfold zY;simp only[Jj,JP];exact#[h,h2])
def DR:iu .pow (.int 10) (.int 18) S=gV (.int 1000000000000000000,S):=rfl
def bO {xs ys:Ja W}(h:(xs++ys).length<=sizeLine):iu .add (.tup xs) (.tup ys) S=gV (.tup (xs++ys),S):=by simp only[iu,v6,qB]; rw[JK h]
def nU {i j:Jg}{xs ys:Ja W}(h1:S[i]?=gV (.lst xs))(h2:S[j]?=gV (.lst ys))(h:(xs++ys).length<=sizeLine):iu .add (.ref i) (.ref j) S=gV (.ref S.length,S++[.lst (xs++ys)]):=by
 simp only[iu,v6,oB,h1,h2,lO]; rw[JK h]
def lT {a b:Jk}:aP .eq (.int a) (.int b) S=gV (.bl (a==b),S):=rfl
def uN {a b:Jk}:aP .ne (.int a) (.int b) S=gV (.bl (!(a==b)),S):=rfl
def DS {a b:Jk}:aP .lt (.int a) (.int b) S=gV (.bl (decide (a < b)),S):=rfl
def DT {a b:Jk}:aP .gt (.int a) (.int b) S=gV (.bl (decide (a > b)),S):=rfl
def HR {a b:Jk}:aP .ge (.int a) (.int b) S=gV (.bl (decide (a>=b)),S):=rfl
def aK {r:Jg}{xs:Ja W}(h:S[r]?=gV (.lst xs)):iq S r=gV xs:=by simp[iq,h]
def Ba {r:Jg}{xs:Ja W}(h:S[r]?=gV (.fro xs)):iq S r=gV xs:=by simp[iq,h]
def b6 {r:Jg}{xs:Ja W}(h:S[r]?=gV (.lst xs)):oB S r=gV xs:=by simp[oB,h]
def jW {r:Jg}{xs:Ja W}(h:S[r]?=gV (.lst xs)):jO S r=td:=by simp[jO,h]
def bP {r:Jg}{U:Ja (T×W)}(h:S[r]?=gV (.dic U)):jO S r=gV U:=by simp[jO,h]
def nV {r:Jg}{U:Ja (T×W)}(h:S[r]?=gV (.dic U)):iq S r=td:=by simp[iq,h]
def Bb {r:Jg}{U:Ja (T×W)}(h:S[r]?=gV (.frd U)):jO S r=gV U:=by simp[jO,h]
def atI_nat {α:Type}{xs:Ja α}{j:Jg}{w:α}(h:xs[j]?=gV w):oJ xs (j:Jk)=gV w:=by
 have hl:=(Jz.mp h).1;unfold oJ rV;rw[JK (Jp j),JK (by exact_mod_cast hl)]
 simpa using h
def nW {α:Type}{xs:Ja α}{i:Jk}{w:α}(h0:0<=i)(h:xs[i.toNat]?=gV w):oJ xs i=gV w:=by
 have:=atI_nat h
 rwa [L6 h0]at this
def xK {r:Jg}{xs:Ja W}{i:Jk}{w:W}(h:S[r]?=gV (.lst xs))(h0:0<=i)(hw:xs[i.toNat]?=gV w):jP (.ref r) (.int i) S=gV (w,S):=by
 show ue (.ref r) (.int i) S=_;simp[ue,aK h,nW h0 hw]
def F5 {xs:Ja W}{i:Jk}{w:W}(h0:0<=i)(hw:xs[i.toNat]?=gV w):jP (.tup xs) (.int i) S=gV (w,S):=by
 show ue (.tup xs) (.int i) S=_;simp[ue,nW h0 hw]
def F6 {x:JG}{i:Jk}{c:Jg}(hz:x.length<=sizeLine)(h0:0<=i)(hw:x.cps.toList[i.toNat]?=gV c):jP (.str x) (.int i) S=gV (.str #[[c].toArray],S):=by
 show ue (.str x) (.int i) S=_;simp[ue,hz,nW h0 hw]
def B9 {r:Jg}{xs:Ja W}{i:Jk}{w:W}(h:S[r]?=gV (.lst xs))(h0:0<=i)(hi:i.toNat < xs.length):iE (.ref r) (.int i) w S=gV (S.set r (.lst (xs.set i.toNat w))):=by
 show uf (.ref r) (.int i) w S=_;have:rV xs.length i=gV i.toNat:=by
  unfold rV;rw[JK h0,JK ∅]
 simp[uf,b6 h,this]
def Cb {r:Jg}{xs:Ja W}(h:S[r]?=gV (.lst xs)):qJ [.ref r] S=gV (.int xs.length,S):=by
 simp[qJ,jW h,qD,aK h]
def sT {r:Jg}{xs:Ja W}{y:W}(h:S[r]?=gV (.lst xs))(hl:xs.length < sizeLine):iz (.ref r) [y] S=gV (.non,S.set r (.lst (xs++[y]))):=by
 simp[iz,b6 h,hl]
def F7 {r:Jg}{xs:Ja W}(h:S[r]?=gV (.lst xs)):kE [.ref r] S=gV (.tup xs,S):=by
 simp[kE,wj,h,kn,aK h]
def cK {r:Jg}{xs:Ja W}(h:S[r]?=gV (.lst xs)):tyOk "list" S (.ref r)=true:=by simp[tyOk,aK h]
def bg {r:Jg}{o o':O}(h:S[r]?=gV o):(S.set r o')[r]?=gV o':=by
 rw[Ld,JK rfl,JK (Jz.mp h).1]
def aY {r j:Jg}{o':O}(h:r≠j):(S.set r o')[j]?=S[j]?:=by rw[Ld,JU h]
def ah {o:O}:(S++[o])[S.length]?=gV o:=by simp
def aq {j:Jg}{o u:O}(h:S[j]?=gV o):(S++[u])[j]?=gV o:=by rw[JZ (Jz.mp h).1]; exact h
def bK {j:Jg}{o:O}(h:S[j]?=gV o):j < S.length:=(Jz.mp h).1
structure Kp (r:Jg)(S S':aa):Prop where
 get:∀j o,j≠r->S[j]?=gV o->S'[j]?=gV o
 len:S.length<=S'.length
def Kp.refl {r:Jg}{S:aa}:Kp r S S:=#[λ_ _ _ h=>h,Jo _]
def Kp.trans {r:Jg}{S S' S'':aa}(a:Kp r S S')(b:Kp r S' S''):Kp r S S'':=#[λj o n h=>b.get j o n (a.get j o n h),JY a.len b.len]
def Kp.set {r:Jg}{S:aa}{o:O}:Kp r S (S.set r o):=#[λj u n h=>by rw[aY (Ne.symm n)]; exact h,by simp]
def Kp.push {r:Jg}{S:aa}{o:O}:Kp r S (S++[o]):=#[λj u n h=>aq h,by simp]
def Kp.late {r t:Jg}{S0 S:aa}{o:O}(a:Kp r S0 S)(h:S0.length<=t):Kp r S0 (S.set t o):=
 #[λj u n e=>by
  have:=bK e;rw[aY ∅]; exact a.get j u n e,by simpa using a.len]
end
abbrev wO {α:Type}(o:Ji α)(Q:α->Prop):Prop:=match o with
 | some a=>Q a
 | none=>KA
def bL {α:Type}{o:Ji α}{Q:α->Prop}(h:wO o Q):Wp o Q:=by
 cases o with
 | none=>exact h.elim
 | some a=>exact#[a,rfl,h]
def F8 {α:Type}{o:Ji α}{Q:α->Prop}(h:Wp o Q):wO o Q:=by
 obtain⟨a,rfl,q⟩:=h;exact q
def ab {α:Type}{o:Ji α}{a:α}{Q:α->Prop}(e:o=gV a)(h:Q a):wO o Q:=by subst e; exact h
abbrev wB:W->(JL->Prop)->Prop
 | .bl k,Q=>Q k
 | _,_=>KA
abbrev wN:W->(Jk->Prop)->Prop
 | .int k,Q=>Q k
 | _,_=>KA
abbrev wU:W->(Ja W->Prop)->Prop
 | .tup k,Q=>Q k
 | _,_=>KA
def pr {w:W}{Q:JL->Prop}(h:wB w Q):∃k,w=.bl k/\Q k:=by cases w <;> first|exact h.elim|exact#[_,rfl,h]
def Cc {w:W}{Q:Jk->Prop}(h:wN w Q):∃k,w=.int k/\Q k:=by cases w <;> first|exact h.elim|exact#[_,rfl,h]
def F9 {w:W}{Q:Ja W->Prop}(h:wU w Q):∃k,w=.tup k/\Q k:=by cases w <;> first|exact h.elim|exact#[_,rfl,h]
abbrev w2:Ja W->(W->W->Prop)->Prop
 | [x,y],Q=>Q x y
 | _,_=>KA
def Ga {xs:Ja W}{Q:W->W->Prop}(h:w2 xs Q):∃x y,xs=[x,y]/\Q x y:=by
 match xs,h with
 | [x,y],h=>exact#[x,y,rfl,h]
abbrev wG:Ji W->(W->Prop)->Prop
 | some w,Q=>Q w
 | none,_=>KA
abbrev wV:Fm->Jg->(W->Prop)->Prop
 | [],_,_=>KA
 | o::_,0,Q=>wG o Q
 | _::Z,n+1,Q=>wV Z n Q
def xL {Q:W->Prop}:∀ {Z:Fm} {i:Jg},wV Z i Q->∃w,Z[i]?=gV (gV w)/\Q w
 | [],i,h=>h.elim
 | some w::Z,0,h=>#[w,rfl,h]
 | none::Z,0,h=>h.elim
 | x::Z,n+1,h=>by
  obtain⟨w,e2,q⟩:=xL (Z:=Z) (i:=n) h;exact#[w,e2,q]
abbrev aF (M:JG->FF)(f:JG)(n:Jg)(ws:Ja W)(S:aa):Ji (W×aa):=if ws.length=n then M f ws S else td
section
variable (M:JG->FF) (fuel:Jg)
mutual
noncomputable def wE:E->Fm->aa->QW->Prop
 | .c w,_,S,Q=>Q (w,S)
 | .v i,Z,S,Q=>wV Z i λw=>Q (w,S)
 | .op o a b,Z,S,Q=>wE a Z S λp=>wE b Z p.2 λq=>wO (iu o p.1 q.1 q.2) Q
 | .cmp o a b,Z,S,Q=>wE a Z S λp=>wE b Z p.2 λq=>wO (aP o p.1 q.1 q.2) Q
 | .and a b,Z,S,Q=>wE a Z S λp=>wB p.1 λk=>(k=true->wE b Z p.2 Q)/\(k=false->Q (.bl false,p.2))
 | .or a b,Z,S,Q=>wE a Z S λp=>wB p.1 λk=>(k=true->Q (.bl true,p.2))/\(k=false->wE b Z p.2 Q)
 | .not a,Z,S,Q=>wE a Z S λp=>wB p.1 λk=>Q (.bl (!k),p.2)
 | .own f n es,Z,S,Q=>wA es Z S λp=>wO (aF M f n p.1 p.2) Q
 | .ow2 f g n i es,Z,S,Q=>wE i Z S λp=>(p.1=.int 0/\wA es Z p.2 λq=>wO (aF M f n q.1 q.2) Q)\/(p.1=.int 1/\wA es Z p.2 λq=>wO (aF M g n q.1 q.2) Q)
 | .bi b es,Z,S,Q=>wA es Z S λp=>wO (b.fn p.1 p.2) Q
 | .me m o es,Z,S,Q=>wE o Z S λp=>tyOk m.ty p.2 p.1=true/\wA es Z p.2 λq=>wO (m.fn p.1 q.1 q.2) Q
 | .ix a b,Z,S,Q=>wE a Z S λp=>wE b Z p.2 λq=>wO (jP p.1 q.1 q.2) Q
 | .sl a lo hi,Z,S,Q=>wE a Z S λp=>wP lo Z p.2 λq=>wP hi Z q.2 λr=>wO (lP p.1 q.1 r.1 r.2) Q
 | .tup es,Z,S,Q=>wA es Z S λp=>Q (.tup p.1,p.2)
 | .lst es,Z,S,Q=>wA es Z S λp=>Q (.ref p.2.length,p.2++[.lst p.1])
 | .isi c a,Z,S,Q=>wE a Z S λp=>wO (uE p.2 p.1 c) λk=>Q (.bl k,p.2)
 | .neg a,Z,S,Q=>wE a Z S λp=>wN p.1 λi=>Q (.int (-i),p.2)
 | .dnew,_,S,Q=>Q (.ref S.length,S++[.dic []])
 | .disp es,Z,S,Q=>wA es Z (S++[.dic []]) λp=>p.2[S.length]?=gV (.dic [])/\wO (dE [] p.1) λU=>Q (.ref S.length,p.2.set S.length (.dic U))
 | .chn o o' a b d,Z,S,Q=>wE a Z S λp=>wE b Z p.2 λq=>wO (ud o p.1 q.1 q.2) λk=>(k=true->wE d Z q.2 λr=>wO (dC o' q.1 r.1 r.2) Q)/\(k=false->Q (.bl false,q.2))
 | .ite t a b,Z,S,Q=>wT t Z S λp=>(p.1=true->wE a Z p.2 Q)/\(p.1=false->wE b Z p.2 Q)
 | .comp elt tg it cs cap,Z,S,Q=>Wp (aA M (.comp elt tg it cs cap) Z S) Q
noncomputable def wT:E->Fm->aa->QB->Prop
 | .cmp o a b,Z,S,Q=>wE a Z S λp=>wE b Z p.2 λq=>wO (aP o p.1 q.1 q.2) λr=>wB r.1 λk=>Q (k,r.2)
 | .and a b,Z,S,Q=>wT a Z S λp=>(p.1=true->wT b Z p.2 Q)/\(p.1=false->Q (false,p.2))
 | .or a b,Z,S,Q=>wT a Z S λp=>(p.1=true->Q (true,p.2))/\(p.1=false->wT b Z p.2 Q)
 | .not a,Z,S,Q=>wT a Z S λp=>Q (!p.1,p.2)
 | .isi c a,Z,S,Q=>wE a Z S λp=>wO (uE p.2 p.1 c) λk=>Q (k,p.2)
 | .c w,Z,S,Q=>Wp (cV M (.c w) Z S) Q
 | .v i,Z,S,Q=>wV Z i λw=>wO (cU S w) λk=>Q (k,S)
 | .op o a b,Z,S,Q=>Wp (cV M (.op o a b) Z S) Q
 | .own f n es,Z,S,Q=>wA es Z S λp=>wO (aF M f n p.1 p.2) λq=>wO (cU q.2 q.1) λk=>Q (k,q.2)
 | .bi b es,Z,S,Q=>wA es Z S λp=>wO (b.fn p.1 p.2) λq=>wO (cU q.2 q.1) λk=>Q (k,q.2)
 | .me m o es,Z,S,Q=>Wp (cV M (.me m o es) Z S) Q
 | .ix a b,Z,S,Q=>Wp (cV M (.ix a b) Z S) Q
 | .sl a lo hi,Z,S,Q=>Wp (cV M (.sl a lo hi) Z S) Q
 | .tup es,Z,S,Q=>Wp (cV M (.tup es) Z S) Q
 | .lst es,Z,S,Q=>Wp (cV M (.lst es) Z S) Q
 | .neg a,Z,S,Q=>Wp (cV M (.neg a) Z S) Q
 | .dnew,Z,S,Q=>Wp (cV M .dnew Z S) Q
 | .disp es,Z,S,Q=>Wp (cV M (.disp es) Z S) Q
 | .chn o o' a b d,Z,S,Q=>wE a Z S λp=>wE b Z p.2 λq=>wO (ud o p.1 q.1 q.2) λk=>(k=true->wE d Z q.2 λr=>wO (dC o' q.1 r.1 r.2) λs=>wB s.1 λc=>Q (c,s.2))/\(k=false->Q (false,q.2))
 | .ite t a b,Z,S,Q=>Wp (cV M (.ite t a b) Z S) Q
 | .ow2 f g n i es,Z,S,Q=>Wp (cV M (.ow2 f g n i es) Z S) Q
 | .comp elt tg it cs cap,Z,S,Q=>Wp (cV M (.comp elt tg it cs cap) Z S) Q
noncomputable def wA:Es->Fm->aa->(Ja W×aa->Prop)->Prop
 | .nil,_,S,Q=>Q ([],S)
 | .cons e es,Z,S,Q=>wE e Z S λp=>wA es Z p.2 λq=>Q (p.1::q.1,q.2)
noncomputable def wP:Ep->Fm->aa->(Ji Jk×aa->Prop)->Prop
 | .no,_,S,Q=>Q (td,S)
 | .yes a,Z,S,Q=>wE a Z S λp=>wN p.1 λi=>Q (gV i,p.2)
end
abbrev pv (K:Fm->aa->Prop)(Q:QO)(p:Out×aa):Prop:=match p.1 with
 | .nx Z=>K Z p.2
 | o=>Q (o,p.2)
mutual
noncomputable def wS:Sm->Fm->aa->(Fm->aa->Prop)->QO->Prop
 | .set i e,Z,S,K,_=>wE M e Z S λp=>K (Z.set i (gV p.1)) p.2
 | .asg is e,Z,S,K,_=>wE M e Z S λp=>wU p.1 λws=>wO (c7 is ws Z) λZ'=>K Z' p.2
 | .par i j es,Z,S,K,_=>wA M es Z S λp=>w2 p.1 λx y=>K ((Z.set i (gV x)).set j (gV y)) p.2
 | .put o k e,Z,S,K,_=>wE M e Z S λp=>wE M o Z p.2 λq=>wE M k Z q.2 λr=>wO (iE q.1 r.1 p.1 r.2) λS'=>K Z S'
 | .ex e,Z,S,K,_=>wE M e Z S λp=>K Z p.2
 | .ret e,Z,S,_,Q=>wE M e Z S λp=>Q (.rt p.1,p.2)
 | .pass,Z,S,K,_=>K Z S
 | .ite t a b,Z,S,K,Q=>wT M t Z S λp=>∀Q':QO,(∀Z' S',K Z' S'->Q' (.nx Z',S'))->(∀o S',(∀Z',o≠.nx Z')->Q (o,S')->Q' (o,S'))->(p.1=true->Bc a Z p.2 Q')/\(p.1=false->Bc b Z p.2 Q')
 | .whl t b,Z,S,K,Q=>Wp (fM M fuel (.whl t b) Z S) (pv K Q)
 | .loop tg it b,Z,S,K,Q=>Wp (fM M fuel (.loop tg it b) Z S) (pv K Q)
noncomputable def Bc:Ss->Fm->aa->QO->Prop
 | .nil,Z,S,Q=>Q (.nx Z,S)
 | .cons s ss,Z,S,Q=>wS s Z S (λZ' S'=>Bc ss Z' S' Q) Q
end
end
abbrev Gb:Es->Jg
 | .nil=>0
 | .cons _ es=>Gb es+1
mutual
noncomputable def dH:E->JL
 | .c _|.v _|.comp _ _ _ _ _|.dnew=>true
 | .op _ a b|.cmp _ a b|.and a b|.or a b|.ix a b=>dH a&&dH b
 | .chn _ _ a b c|.ite a b c=>dH a&&dH b&&dH c
 | .neg a|.not a|.isi _ a=>dH a
 | .own _ n es=>Gb es==n&&nX es
 | .ow2 _ _ n i es=>dH i&&(Gb es==n&&nX es)
 | .bi _ es|.disp es=>nX es
 | .me _ o es=>dH o&&nX es
 | .sl a lo hi=>dH a&&HS lo&&HS hi
 | .tup es|.lst es=>decide (Gb es<=1000)&&nX es
noncomputable def nX:Es->JL
 | .nil=>true
 | .cons e es=>dH e&&nX es
noncomputable def HS:Ep->JL
 | .no=>true
 | .yes e=>dH e
end
mutual
noncomputable def Iz:Sm->JL
 | .set _ e|.asg _ e|.ex e|.ret e=>dH e
 | .put o k e=>dH o&&dH k&&dH e
 | .par _ _ es=>nX es
 | .ite t a b=>dH t&&fY a&&fY b
 | _=>true
noncomputable def fY:Ss->JL
 | .nil=>true
 | .cons s ss=>Iz s&&fY ss
end
section
variable{M:JG->FF}{fuel:Jg}
def fq:∀ {es:Es} {Z:Fm} {S S':aa} {ws:Ja W},cX M es Z S=gV (ws,S')->ws.length=Gb es
 | .nil,Z,S,S',ws,h=>by dsimp only[cX]at h; cases h; rfl
 | .cons e es,Z,S,S',ws,h=>by
  dsimp only[cX]at h;unfold dG at h;split at h
  ·split at h
   ·rename_i h2; cases h; rw[J2,fq h2]; rfl
   ·cases h
  ·cases h
def xM {n:Jg}(h:decide (n<=1000)=true):n<=sizeLine:=JY (J8 h) (by rw[Kq]; decide)
def bV {a b:JL}(h:(a&&b)=true):a=true:=by cases a <;> first|rfl|cases h
def cv {a b:JL}(h:(a&&b)=true):b=true:=by cases a <;> first|exact h|cases h
mutual
theorem aQ:∀(e:E) {Z:Fm} {S:aa} {Q:QW},dH e=true->wE M e Z S Q->Wp (aA M e Z S) Q
  | .c w,Z,S,Q,k,h=>IJ.mpr h
  | .v i,Z,S,Q,k,h=>Iy.mpr (xL h)
  | .op o a b,Z,S,Q,k,h=>HH.mpr ((aQ a (bV k) h).mono λp hp=>(aQ b (cv k) hp).mono λq hq=>bL hq)
  | .cmp o a b,Z,S,Q,k,h=>B5.mpr ((aQ a (bV k) h).mono λp hp=>(aQ b (cv k) hp).mono λq hq=>bL hq)
  | .and a b,Z,S,Q,k,h=>FD.mpr ((aQ a (bV k) h).mono λp hp=>let ⟨c,e,h1,h2⟩:=pr hp; #[c,e,λz=>aQ b (cv k) (h1 z),h2])
  | .or a b,Z,S,Q,k,h=>HJ.mpr ((aQ a (bV k) h).mono λp hp=>let ⟨c,e,h1,h2⟩:=pr hp; #[c,e,h1,λz=>aQ b (cv k) (h2 z)])
  | .not a,Z,S,Q,k,h=>FH.mpr ((aQ a k h).mono λp hp=>pr hp)
  | .own f n es,Z,S,Q,k,h=>sQ.mpr (by
      obtain⟨⟨ws,S1⟩,e,hq⟩:=fI es (cv k) h;have hl:ws.length=n:=(fq e).trans (eq_of_beq (bV k));simp only[aF,JK hl]at hq;exact#[_,e,hl,bL hq])
  | .ow2 f g n i es,Z,S,Q,k,h=>FK ((aQ i (bV k) h).mono λp hp=>hp.imp (λ#[z,hp]=>#[z,sQ.mpr (by
      obtain⟨⟨ws,S1⟩,e,hq⟩:=fI es (cv (cv k)) hp;have hl:ws.length=n:=(fq e).trans (eq_of_beq (bV (cv k)));simp only[aF,JK hl]at hq;exact#[_,e,hl,bL hq])]) (λ#[z,hp]=>#[z,sQ.mpr (by
      obtain⟨⟨ws,S1⟩,e,hq⟩:=fI es (cv (cv k)) hp;have hl:ws.length=n:=(fq e).trans (eq_of_beq (bV (cv k)));simp only[aF,JK hl]at hq;exact#[_,e,hl,bL hq])]))
  | .bi b es,Z,S,Q,k,h=>FL.mpr ((fI es k h).mono λp hp=>bL hp)
  | .me m o es,Z,S,Q,k,h=>HK.mpr ((aQ o (bV k) h).mono λp hp=>#[hp.1,(fI es (cv k) hp.2).mono λq hq=>bL hq])
  | .ix a b,Z,S,Q,k,h=>HI.mpr ((aQ a (bV k) h).mono λp hp=>(aQ b (cv k) hp).mono λq hq=>bL hq)
  | .sl a lo hi,Z,S,Q,k,h=>HL.mpr ((aQ a (bV (bV k)) h).mono λp hp=>(Cd lo (cv (bV k)) hp).mono λq hq=>(Cd hi (cv k) hq).mono λr hr=>bL hr)
  | .tup es,Z,S,Q,k,h=>FN.mpr (by
      obtain⟨⟨ws,S1⟩,e,hq⟩:=fI es (cv k) h;exact#[_,e,by rw[fq e]; exact xM (bV k),hq])
  | .lst es,Z,S,Q,k,h=>FP.mpr (by
      obtain⟨⟨ws,S1⟩,e,hq⟩:=fI es (cv k) h;exact#[_,e,by rw[fq e]; exact xM (bV k),hq])
  | .isi c a,Z,S,Q,k,h=>B6.mpr ((aQ a k h).mono λp hp=>bL hp)
  | .neg a,Z,S,Q,k,h=>FQ.mpr ((aQ a k h).mono λp hp=>Cc hp)
  | .dnew,Z,S,Q,k,h=>#[_,rfl,h]
  | .disp es,Z,S,Q,k,h=>DI.mpr ((fI es k h).mono λp hp=>#[hp.1,let ⟨U,e,q⟩:=bL hp.2; #[U,e,q]])
  | .chn o o' a b d,Z,S,Q,k,h=>B7 ((aQ a (bV (bV k)) h).mono λp hp=>(aQ b (cv (bV k)) hp).mono λq hq=>let ⟨c,e,h1,h2⟩:=bL hq; #[c,e,λz=>(aQ d (cv k) (h1 z)).mono λr hr=>bL hr,h2])
  | .ite t a b,Z,S,Q,k,h=>FJ.mpr ((iM t (bV (bV k)) h).mono λp hp=>#[λz=>aQ a (cv (bV k)) (hp.1 z),λz=>aQ b (cv k) (hp.2 z)])
  | .comp elt tg it cs cap,Z,S,Q,k,h=>h
theorem fI:∀(es:Es) {Z:Fm} {S:aa} {Q:Ja W×aa->Prop},nX es=true->wA M es Z S Q->Wp (cX M es Z S) Q
 | .nil,Z,S,Q,k,h=>FR.mpr h
 | .cons e es,Z,S,Q,k,h=>DJ.mpr ((aQ e (bV k) h).mono λp hp=>fI es (cv k) hp)
theorem Cd:∀(e:Ep) {Z:Fm} {S:aa} {Q:Ji Jk×aa->Prop},HS e=true->wP M e Z S Q->Wp (sH M e Z S) Q
 | .no,Z,S,Q,k,h=>HM.mpr h
 | .yes a,Z,S,Q,k,h=>FM.mpr ((aQ a k h).mono λp hp=>Cc hp)
theorem iM:∀(e:E) {Z:Fm} {S:aa} {Q:QB},dH e=true->wT M e Z S Q->Wp (cV M e Z S) Q
 | .cmp o a b,Z,S,Q,k,h=>FU.mpr (B5.mpr ((aQ a (bV k) h).mono λp hp=>(aQ b (cv k) hp).mono λq hq=>(bL hq).mono λr hr=>pr hr))
 | .and a b,Z,S,Q,k,h=>FW.mpr ((iM a (bV k) h).mono λp hp=>#[λz=>iM b (cv k) (hp.1 z),hp.2])
 | .or a b,Z,S,Q,k,h=>HN.mpr ((iM a (bV k) h).mono λp hp=>#[hp.1,λz=>iM b (cv k) (hp.2 z)])
 | .not a,Z,S,Q,k,h=>FX.mpr (iM a k h)
 | .isi c a,Z,S,Q,k,h=>FZ.mpr (B6.mpr ((aQ a k h).mono λp hp=>let ⟨b,e,q⟩:=bL hp; #[b,e,b,rfl,q]))
 | .v i,Z,S,Q,k,h=>IK.mpr (Iy.mpr (let ⟨w,e,q⟩:=xL h; #[w,e,bL q]))
 | .own f n es,Z,S,Q,k,h=>FY.mpr (sQ.mpr (by
   obtain⟨⟨ws,S1⟩,e,hq⟩:=fI es (cv k) h;have hl:ws.length=n:=(fq e).trans (eq_of_beq (bV k));simp only[aF,JK hl]at hq;exact#[_,e,hl,(bL hq).mono λq hq=>bL hq]))
 | .c w,Z,S,Q,k,h=>h
 | .op o a b,Z,S,Q,k,h=>h
 | .bi b es,Z,S,Q,k,h=>HP.mpr (FL.mpr ((fI es k h).mono λp hp=>(bL hp).mono λq hq=>bL hq))
 | .me m o es,Z,S,Q,k,h=>h
 | .ix a b,Z,S,Q,k,h=>h
 | .sl a lo hi,Z,S,Q,k,h=>h
 | .tup es,Z,S,Q,k,h=>h
 | .lst es,Z,S,Q,k,h=>h
 | .neg a,Z,S,Q,k,h=>h
 | .dnew,Z,S,Q,k,h=>h
 | .disp es,Z,S,Q,k,h=>h
 | .chn o o' a b d,Z,S,Q,k,h=>FV.mpr (B7 ((aQ a (bV (bV k)) h).mono λp hp=>(aQ b (cv (bV k)) hp).mono λq hq=>let ⟨c,e,h1,h2⟩:=bL hq; #[c,e,λz=>(aQ d (cv k) (h1 z)).mono λr hr=>(bL hr).mono λs hs=>pr hs,λz=>#[false,rfl,h2 z]]))
 | .ite t a b,Z,S,Q,k,h=>h
 | .ow2 f g n i es,Z,S,Q,k,h=>h
 | .comp elt tg it cs cap,Z,S,Q,k,h=>h
end
mutual
theorem Gc:∀(s:Sm) {Z:Fm} {S:aa} {K:Fm->aa->Prop} {Q:QO},Iz s=true->wS M fuel s Z S K Q->Wp (fM M fuel s Z S) (pv K Q)
 | .set i e,Z,S,K,Q,k,h=>DL.mpr (aQ e k h)
 | .asg is e,Z,S,K,Q,k,h=>DM.mpr ((aQ e k h).mono λp hp=>let ⟨ws,e1,h1⟩:=F9 hp; let ⟨Z',e2,h2⟩:=bL h1; #[ws,Z',e1,e2,h2])
 | .par i j es,Z,S,K,Q,k,h=>DN.mpr ((fI es k h).mono λp hp=>Ga hp)
 | .put o i e,Z,S,K,Q,k,h=>DO.mpr ((aQ e (cv k) h).mono λp hp=>(aQ o (bV (bV k)) hp).mono λq hq=>(aQ i (cv (bV k)) hq).mono λr hr=>bL hr)
 | .ex e,Z,S,K,Q,k,h=>F1.mpr (aQ e k h)
 | .ret e,Z,S,K,Q,k,h=>DP.mpr (aQ e k h)
 | .pass,Z,S,K,Q,k,h=>#[_,rfl,h]
 | .ite t a b,Z,S,K,Q,k,h=>DQ.mpr ((iM t (bV (bV k)) h).mono λp hp=>by
   obtain⟨h1,h2⟩:=hp (pv K Q) (λZ' S' z=>z) (λo S' hn z=>by cases o <;> first|exact z|exact absurd rfl (hn _))
   exact#[λz=>jn a (cv (bV k)) (h1 z),λz=>jn b (cv k) (h2 z)])
 | .whl t b,Z,S,K,Q,k,h=>h
 | .loop tg it b,Z,S,K,Q,k,h=>h
theorem jn:∀(ss:Ss) {Z:Fm} {S:aa} {Q:QO},fY ss=true->Bc M fuel ss Z S Q->Wp (fW M fuel ss Z S) Q
 | .nil,Z,S,Q,k,h=>F0.mpr h
 | .cons s ss,Z,S,Q,k,h=>DK.mpr ((Gc s (bV k) h).mono λp hp=>by
   obtain⟨o,S1⟩:=p;cases o with
   | nx Z'=>exact#[λZ2 e=>by cases e; exact jn ss (cv k) hp,λz=>absurd rfl (z Z')]
   | _=>exact#[λZ2 e=>(by cases e),λ_=>hp])
end
structure wZ (M:JG->FF)(fuel:Jg)(ss:Ss)(Z:Fm)(S:aa)(Q:QO):Prop where
 out:Bc M fuel ss Z S Q
def Gd {ss:Ss}{Z:Fm}{S:aa}{Q:QO}:Bc M fuel ss Z S Q=wZ M fuel ss Z S Q:=propext #[λh=>#[h],λh=>h.out]
def DU {defs:Ja (JG×Df)}{d:Jg}{f:JG}{n:Jg}{ws:Ja W}{df:Df}{S:aa}{Q:QW}(h:defs.lookup f=gV df)(hn:ws.length=n)(hl:ws.length=df.ps.length)(ok:fY df.body=true)
  (hb:∀Q':QO,(∀w S',Q (w,S')->Q' (.rt w,S'))->wZ (ar defs fuel d) fuel df.body (fm df.N ws) S Q'):wO (aF (ar defs fuel (d+1)) f n ws S) Q:=by
 unfold aF;rw[JK hn];exact F8 (uM h hl ((jn _ ok (hb (λp=>match p.1 with|.rt w=>Q (w,p.2)|_=>KA) λw S' q=>q).out).mono λp hp=>by
  obtain⟨o,S1⟩:=p;cases o <;> first|exact hp|exact hp.elim))
end
section
variable{M:JG->FF}{fuel:Jg}{Z:Fm}{S:aa}{K:Fm->aa->Prop}{Q:QO}
abbrev uO (M:JG->FF)(fuel:Jg)(b:Ss)(Z:Fm)(S:aa)(I:Fm->aa->Prop)(Q:QO):Prop:=∀Q':QO,(∀Z' S',I Z' S'->Q' (.nx Z',S'))->(∀w S',Q (.rt w,S')->Q' (.rt w,S'))->wZ M fuel b Z S Q'
def fZ {tg:Tg}{it:Ie}{b:Ss}{mi:MI}{S1:aa}{xs:Ja W}(I:Jg->Fm->aa->Prop)(ok:fY b=true)(hi:jQ M it Z S=gV (mi,S1))(hat:∀i Z S,I i Z S->mi.at S i=gV xs[i]?)(hl:mi.len S1=gV xs.length)(h0:I 0 Z S1)
  (hstep:∀(i:Jg) (w:W) (Z:Fm) (S:aa),xs[i]?=gV w->I i Z S->wO (eQ tg w Z S) λq=>uO M fuel b q.1 q.2 (I (i+1)) Q) (hend:∀Z S,I xs.length Z S->K Z S):Wp (fM M fuel (.loop tg it b) Z S) (pv K Q):=by
 rw[fM,F2];refine#[_,hi,xs.length,hl,?_];refine jm (Q:=pv K Q) I hat (λi w Z S h1 h2=>?_) (λZ S h=>hend Z S h) _ 0 Z S1 ∅ h0
 exact(bL (hstep i w Z S h1 h2)).mono λq hq=>jn b ok (wZ.out (hq _ (λ_ _ h=>h) λ_ _ h=>h))
def bW {e:E}{Q:QW}(ok:dH e=true)(h:wE M e Z S Q):∃w S',aA M e Z S=gV (w,S')/\Q (w,S'):=let ⟨⟨w,S'⟩,a,b⟩:=aQ e ok h; #[w,S',a,b]
def bC {i0:Jg}{e:E}{b:Ss}(j:Jk)(I:Jg->Fm->aa->Prop)(oe:dH e=true)(ok:fY b=true)(hj : -(2 ^ 62)<=j/\j < 2 ^ 62)(he:wE M e Z S λp=>p.1=.int j/\I 0 Z p.2)
  (hstep:∀(i:Jg) (Z:Fm) (S:aa),(i:Jk) < j->I i Z S->uO M fuel b (Z.set i0 (gV (.int i))) S (I (i+1)) Q) (hend:∀Z S,I j.toNat Z S->K Z S):Wp (fM M fuel (.loop (.nm i0) (.rng #v[e]) b) Z S) (pv K Q):=by
 obtain⟨w,S1,e1,rfl,h0⟩:=bW oe he;have hl:(dc 0 j.toNat).length=j.toNat:=by simp[dc]
 refine fZ (mi:=.its (dc 0 j.toNat)) (S1:=S1) (xs:=dc 0 j.toNat) I ok ?_ (λ_ _ _ _=>rfl) rfl h0 (λi w Z S hw hI=>?_) λZ S hI=>hend Z S (hl ▸ hI)
 ·simp only[jQ,cX,dG,iG,qN,e1];rw[JK hj]
 ·rw[d4]at hw;split at hw
  ·rename_i hk;cases hw;rw[Nc];exact hstep i Z S ∅ hI
  ·cases hw
def for_tup {tg:Tg}{e:E}{b:Ss}(xs:Ja W)(I:Jg->Fm->aa->Prop)(oe:dH e=true)(ok:fY b=true)(he:wE M e Z S λp=>p.1=.tup xs/\I 0 Z p.2)
  (hstep:∀(i:Jg) (w:W) (Z:Fm) (S:aa),xs[i]?=gV w->I i Z S->wO (eQ tg w Z S) λq=>uO M fuel b q.1 q.2 (I (i+1)) Q) (hend:∀Z S,I xs.length Z S->K Z S):Wp (fM M fuel (.loop tg (.seq e) b) Z S) (pv K Q):=by
 obtain⟨w,S1,e1,rfl,h0⟩:=bW oe he;exact fZ (mi:=.its xs) (S1:=S1) I ok (by simp only[jQ,eP,e1]) (λ_ _ _ _=>rfl) rfl h0 hstep hend
def jX {tg:Tg}{e:E}{b:Ss}(t:Jg)(xs:Ja W)(I:Jg->Fm->aa->Prop)(oe:dH e=true)(ok:fY b=true)(he:wE M e Z S λp=>p.1=.ref t/\I 0 Z p.2)(hat:∀i Z S,I i Z S->S[t]?=gV (.lst xs))
  (hstep:∀(i:Jg) (w:W) (Z:Fm) (S:aa),xs[i]?=gV w->I i Z S->wO (eQ tg w Z S) λq=>uO M fuel b q.1 q.2 (I (i+1)) Q) (hend:∀Z S,I xs.length Z S->K Z S):Wp (fM M fuel (.loop tg (.seq e) b) Z S) (pv K Q):=by
 obtain⟨w,S1,e1,rfl,h0⟩:=bW oe he;exact fZ (mi:=.live t) (S1:=S1) I ok (by simp only[jQ,eP,e1,aK (hat _ _ _ h0)]) (λi Z S h=>by simp only[MI.at,aK (hat _ _ _ h)]) (by simp only[MI.len,aK (hat _ _ _ h0),J4]) h0 hstep hend
def Ce {t:E}{b:Ss}(I:Jg->Fm->aa->Prop)(m:Jg)(ot:dH t=true)(ok:fY b=true)(hm:m < fuel)(h0:I m Z S)
  (hstep:∀m Z S,I m Z S->wT M t Z S λk=>(k.1=true->∃m',m=m'+1/\uO M fuel b Z k.2 (I m') Q)/\(k.1=false->K Z k.2)):Wp (fM M fuel (.whl t b) Z S) (pv K Q):=by
 rw[fM];refine kP (Q:=pv K Q) I (λm Z S hI=>(iM t ot (hstep m Z S hI)).mono λk hk=>#[λz=>?_,λz=>hk.2 z]) fuel m Z S hm h0
 obtain⟨m',e,h⟩:=hk.1 z;exact#[m',e,jn b ok (wZ.out (h _ (λ_ _ h=>h) λ_ _ h=>h))]
abbrev wC (M:JG->FF):Es->Fm->aa->QB->Prop
 | .nil,_,S,Q=>Q (true,S)
 | .cons e .nil,Z,S,Q=>wT M e Z S Q
 | .cons _ (.cons _ _),_,_,_=>KA
def Cg {cs:Es}{Q:QB}(ok:nX cs=true)(h:wC M cs Z S Q):Wp (AW M cs Z S) Q:=by
 match cs,h,ok with
 | .nil,h,_=>exact F3.mpr h
 | .cons e .nil,h,ok=>exact F4.mpr (iM e (bV ok) h)
abbrev ig (M:JG->FF)(elt:E)(cs:Es)(Z:Fm)(S:aa)(G:W->Fm->aa->Prop)(N:Fm->aa->Prop):Prop:=wC M cs Z S λk=>(k.1=true->wE M elt Z k.2 λy=>G y.1 Z y.2)/\(k.1=false->N Z k.2)
def kR {elt:E}{tg:Tg}{it:Ie}{cs:Es}{cap:Ja (Ji Jg)}{mi:MI}{S1:aa}{xs:Ja W}{Q:QW}(I:Jg->Ja W->Fm->aa->Prop)(oe:dH elt=true)(oc:nX cs=true)(hi:jQ M it Z S=gV (mi,S1))(hat:∀i ys Z S,I i ys Z S->mi.at S i=gV xs[i]?)(hl:mi.len S1=gV xs.length)(h0:I 0 [] (fj cap Z) S1)
  (hstep:∀(i:Jg) (w:W) (ys:Ja W) (Z:Fm) (S:aa),xs[i]?=gV w->I i ys Z S->wO (eQ tg w Z S) λq=>ig M elt cs q.1 q.2 (λy=>I (i+1) (ys++[y])) (I (i+1) ys))
  (hend:∀ys Z S,I xs.length ys Z S->ys.length<=sizeLine/\Q (.ref S.length,S++[.lst ys])):Wp (aA M (.comp elt tg it cs cap) Z S) Q:=by
 rw[xJ];refine#[_,hi,xs.length,hl,?_];refine(dJ (xs:=xs) (Q:=λq=>q.1.length<=sizeLine/\Q (.ref q.2.length,q.2++[.lst q.1])) I hat (λi w ys Z S h1 h2=>?_) hend xs.length 0 [] _ S1 ∅ h0).mono λq hq=>by simpa using hq
 exact(bL (hstep i w ys Z S h1 h2)).mono λq hq=>(Cg oc hq).mono λk hk=>#[λz=>aQ elt oe (hk.1 z),hk.2]
def eB {elt e:E}{i0:Jg}{cs:Es}{cap:Ja (Ji Jg)}{Q:QW}(j:Jk)(I:Jg->Ja W->Fm->aa->Prop)(oi:dH e=true)(oe:dH elt=true)(oc:nX cs=true)(hj : -(2 ^ 62)<=j/\j < 2 ^ 62)(he:wE M e Z S λp=>p.1=.int j/\I 0 [] (fj cap Z) p.2)
  (hstep:∀(i:Jg) (ys:Ja W) (Z:Fm) (S:aa),(i:Jk) < j->I i ys Z S->ig M elt cs (Z.set i0 (gV (.int i))) S (λy=>I (i+1) (ys++[y])) (I (i+1) ys))
  (hend:∀ys Z S,I j.toNat ys Z S->ys.length<=sizeLine/\Q (.ref S.length,S++[.lst ys])):Wp (aA M (.comp elt (.nm i0) (.rng #v[e]) cs cap) Z S) Q:=by
 obtain⟨w,S1,e1,rfl,h0⟩:=bW oi he;have hl:(dc 0 j.toNat).length=j.toNat:=by simp[dc]
 refine kR (mi:=.its (dc 0 j.toNat)) (S1:=S1) (xs:=dc 0 j.toNat) I oe oc ?_ (λ_ _ _ _ _=>rfl) rfl h0 (λi w ys Z S hw hI=>?_) λys Z S hI=>hend ys Z S (hl ▸ hI)
 ·simp only[jQ,cX,dG,iG,qN,e1];rw[JK hj]
 ·rw[d4]at hw;split at hw
  ·rename_i hk;cases hw;rw[Nc];exact hstep i ys Z S ∅ hI
  ·cases hw
def sU {elt e:E}{tg:Tg}{cs:Es}{cap:Ja (Ji Jg)}{Q:QW}(xs:Ja W)(I:Jg->Ja W->Fm->aa->Prop)(oi:dH e=true)(oe:dH elt=true)(oc:nX cs=true)(he:wE M e Z S λp=>p.1=.tup xs/\I 0 [] (fj cap Z) p.2)
  (hstep:∀(i:Jg) (w:W) (ys:Ja W) (Z:Fm) (S:aa),xs[i]?=gV w->I i ys Z S->wO (eQ tg w Z S) λq=>ig M elt cs q.1 q.2 (λy=>I (i+1) (ys++[y])) (I (i+1) ys))
  (hend:∀ys Z S,I xs.length ys Z S->ys.length<=sizeLine/\Q (.ref S.length,S++[.lst ys])):Wp (aA M (.comp elt tg (.seq e) cs cap) Z S) Q:=by
 obtain⟨w,S1,e1,rfl,h0⟩:=bW oi he;exact kR (mi:=.its xs) (S1:=S1) I oe oc (by simp only[jQ,eP,e1]) (λ_ _ _ _ _=>rfl) rfl h0 hstep hend
def sV {elt e:E}{tg:Tg}{cs:Es}{cap:Ja (Ji Jg)}{Q:QW}(t:Jg)(xs:Ja W)(I:Jg->Ja W->Fm->aa->Prop)(oi:dH e=true)(oe:dH elt=true)(oc:nX cs=true)(he:wE M e Z S λp=>p.1=.ref t/\I 0 [] (fj cap Z) p.2)(hat:∀i ys Z S,I i ys Z S->S[t]?=gV (.lst xs))
  (hstep:∀(i:Jg) (w:W) (ys:Ja W) (Z:Fm) (S:aa),xs[i]?=gV w->I i ys Z S->wO (eQ tg w Z S) λq=>ig M elt cs q.1 q.2 (λy=>I (i+1) (ys++[y])) (I (i+1) ys))
  (hend:∀ys Z S,I xs.length ys Z S->ys.length<=sizeLine/\Q (.ref S.length,S++[.lst ys])):Wp (aA M (.comp elt tg (.seq e) cs cap) Z S) Q:=by
 obtain⟨w,S1,e1,rfl,h0⟩:=bW oi he;exact kR (mi:=.live t) (S1:=S1) I oe oc (by simp only[jQ,eP,e1,aK (hat _ _ _ _ h0)]) (λi ys Z S h=>by simp only[MI.at,aK (hat _ _ _ _ h)]) (by simp only[MI.len,aK (hat _ _ _ _ h0),J4]) h0 hstep hend
def Bd {elt a:E}{tg:Tg}{cs:Es}{cap:Ja (Ji Jg)}{Q:QW}(xs:Ja W)(I:Jg->Ja W->Fm->aa->Prop)(oa:dH a=true)(oe:dH elt=true)(oc:nX cs=true)(he:wE M a Z S λp=>GZ p.1=gV xs/\I 0 [] (fj cap Z) p.2)
  (hstep:∀(i:Jg) (x:W) (ys:Ja W) (Z:Fm) (S:aa),xs[i]?=gV x->I i ys Z S->wO (eQ tg (.tup [.int i,x]) Z S) λq=>ig M elt cs q.1 q.2 (λy=>I (i+1) (ys++[y])) (I (i+1) ys))
  (hend:∀ys Z S,I xs.length ys Z S->ys.length<=sizeLine/\Q (.ref S.length,S++[.lst ys])):Wp (aA M (.comp elt tg (.enu #v[a]) cs cap) Z S) Q:=by
 obtain⟨x,S1,e1,h1,h0⟩:=bW oa he;have hl:(ji xs).length=xs.length:=by simp[ji]
 refine kR (mi:=.its (ji xs)) (S1:=S1) (xs:=ji xs) I oe oc (by simp only[jQ,cX,dG,iG,xr,e1,h1]) (λ_ _ _ _ _=>rfl) rfl h0 (λi w ys Z S hw hI=>?_) λys Z S hI=>hend ys Z S (hl ▸ hI)
 obtain⟨y,hy,rfl⟩:=kI hw;exact hstep i y ys Z S hy hI
def st {s:Sm}{ss:Ss}(h:wS M fuel s Z S (λZ' S'=>wZ M fuel ss Z' S' Q) Q):wZ M fuel (.cons s ss) Z S Q:=#[by
 dsimp only[Bc];simp only[Gd];exact h]
def aR (h:Q (.nx Z,S)):wZ M fuel .nil Z S Q:=#[h]
def aj {t:JL}{a b:Ss}{Q Q0:QO}{K:Fm->aa->Prop}(ha:t=true->∀Q':QO,(∀Z' S',K Z' S'->Q' (.nx Z',S'))->(∀w S',Q (.rt w,S')->Q' (.rt w,S'))->wZ M fuel a Z S Q')(hb:t=false->∀Q':QO,(∀Z' S',K Z' S'->Q' (.nx Z',S'))->(∀w S',Q (.rt w,S')->Q' (.rt w,S'))->wZ M fuel b Z S Q') :
  ∀Q':QO,(∀Z' S',K Z' S'->Q' (.nx Z',S'))->(∀o S',(∀Z',o≠.nx Z')->Q (o,S')->Q' (o,S'))->(t=true->Bc M fuel a Z S Q')/\(t=false->Bc M fuel b Z S Q'):=
 λQ' h1 h2=>#[λe=>(ha e Q' h1 λw S'=>h2 (.rt w) S' (λ_ z=>nomatch z)).out,λe=>(hb e Q' h1 λw S'=>h2 (.rt w) S' (λ_ z=>nomatch z)).out]
end
abbrev d7:Ss:=
 #v[.ret (.lst #v[.bi .list #v[.v 0],.c (.int 0),.c (.int 0),.c (.int 1),.c (.int 0)])]
abbrev cL:Ss:=
 #v[.ite (.and (.cmp .eq (.ix (.v 0) (.c (.int 2))) (.c (.int 0))) (.cmp .lt (.ix (.v 0) (.c (.int 1))) (.bi .len #v[.ix (.v 0) (.c (.int 0))]))) #v[.set 2 (.ix (.ix (.v 0) (.c (.int 0))) (.ix (.v 0) (.c (.int 1)))),.put (.v 0) (.c (.int 1)) (.op .add (.ix (.v 0) (.c (.int 1))) (.c (.int 1))),.ite (.cmp .ge (.v 2) (.op .pow (.c (.int 10)) (.c (.int 18)))) #v[.put (.v 0) (.c (.int 2)) (.v 2)] #v[.put (.v 0) (.c (.int 3)) (.op .mod (.op .add (.op .add (.op .mul (.ix (.v 0) (.c (.int 3))) (.c (.int 40013))) (.op .mod (.v 2) (.c (.int 1000003)))) (.c (.int 1))) (.c (.int 2147483647)))]] .nil,.ite (.cmp .gt (.ix (.v 0) (.c (.int 2))) (.c (.int 0))) #v[.set 3 (.op .mod (.ix (.v 0) (.c (.int 2))) (.v 1)),.put (.v 0) (.c (.int 2)) (.op .fdiv (.ix (.v 0) (.c (.int 2))) (.v 1)),.ret (.v 3)] .nil,.put (.v 0) (.c (.int 4)) (.op .add (.ix (.v 0) (.c (.int 4))) (.c (.int 1))),.put (.v 0) (.c (.int 3)) (.op .mod (.op .add (.op .add (.op .mul (.ix (.v 0) (.c (.int 3))) (.c (.int 48271))) (.c (.int 12820163))) (.ix (.v 0) (.c (.int 4)))) (.c (.int 2147483647))),.ret (.op .mod (.op .fdiv (.op .mod (.op .mul (.op .add (.op .mod (.ix (.v 0) (.c (.int 3))) (.c (.int 65521))) (.c (.int 1))) (.op .add (.op .fdiv (.ix (.v 0) (.c (.int 3))) (.c (.int 65521))) (.c (.int 7919)))) (.c (.int 1000003))) (.c (.int 7))) (.v 1))]
abbrev dq:Ss:=
 #v[.ite (.cmp .lt (.v 3) (.v 2)) #v[.ret (.ix (.ix (.ix (.v 1) (.v 2)) (.c (.int 1))) (.v 3))] .nil,.ret (.ix (.ix (.ix (.v 0) (.c (.int 1))) (.ix (.ix (.ix (.v 1) (.v 3)) (.c (.int 1))) (.v 2))) (.c (.int 1)))]
abbrev fA:Ss:=
 #v[.set 3 (.lst .nil),.loop (.nm 4) (.rng #v[.bi .len #v[.v 2]]) #v[.set 5 (.ix (.v 2) (.v 4)),.ex (.me .append (.v 3) #v[.tup #v[.ix (.ix (.v 1) (.v 5)) (.c (.int 0)),.bi .tuple #v[.comp (.own "_law_between" 4 #v[.v 3,.v 4,.v 2,.v 1]) (.nm 1) (.seq (.sl (.v 2) .no (.yes (.v 4)))) .nil [td,td,gV 5,gV 0,gV 1]]]])],.ret (.bi .tuple #v[.v 3])]
abbrev ga:Ss:=
 #v[.ret (.lst #v[.tup #v[.c (.int 0),.c (.int 1),.c (.int 2)],.tup #v[.c (.int 0),.c (.int 2),.c (.int 1)],.tup #v[.c (.int 1),.c (.int 0),.c (.int 2)],.tup #v[.c (.int 1),.c (.int 2),.c (.int 0)],.tup #v[.c (.int 2),.c (.int 0),.c (.int 1)],.tup #v[.c (.int 2),.c (.int 1),.c (.int 0)]])]
abbrev dL:Ss:=
 #v[.ret (.bi .min #v[.comp (.own "_law_part" 3 #v[.v 2,.v 3,.v 1]) (.nm 1) (.seq (.own "_law_turns" 0 .nil)) .nil [td,td,gV 0,gV 1]])]
abbrev eC:Ss:=
 #v[.set 2 (.ix (.lst #v[.lst #v[.tup #v[.c (.int 0)]],.lst #v[.tup #v[.c (.int 0),.c (.int 1)],.tup #v[.c (.int 1),.c (.int 0)]],.lst #v[.tup #v[.c (.int 0),.c (.int 1),.c (.int 2)],.tup #v[.c (.int 1),.c (.int 0),.c (.int 2)],.tup #v[.c (.int 0),.c (.int 2),.c (.int 1)]]]) (.op .sub (.v 1) (.c (.int 1)))),.ret (.ix (.v 2) (.own "_law_pick" 2 #v[.v 0,.bi .len #v[.v 2]]))]
abbrev dt:Ss:=
 #v[.set 4 (.own "_law_names" 2 #v[.v 0,.op .add (.v 1) (.bi .len #v[.v 2])]),.set 5 (.bi .tuple #v[.comp (.tup #v[.ix (.v 4) (.op .add (.v 3) (.v 1)),.ix (.v 2) (.v 1)]) (.nm 1) (.rng #v[.bi .len #v[.v 2]]) .nil [td,td,gV 2,gV 1,gV 4]]),.ret (.tup #v[.sl (.v 4) .no (.yes (.v 1)),.v 5,.bi .tuple #v[.bi .sorted #v[.v 3]]])]
abbrev ci:Ss:=
 #v[.set 3 (.lst .nil),.loop (.nm 4) (.rng #v[.c (.int 3)]) #v[.ex (.me .append (.v 3) #v[.tup #v[.own "_law_pick" 2 #v[.v 0,.v 1],.bi .tuple #v[.comp (.own "_law_pick" 2 #v[.v 2,.v 3]) (.nm 1) (.rng #v[.v 4]) .nil [td,td,gV 0,gV 2]]]])],.ret (.bi .tuple #v[.v 3])]
abbrev eE:Ss:=
 #v[.set 1 (.lst #v[.tup #v[.c (.int 1),.c (.int 1)],.tup #v[.c (.int 2),.c (.int 1)],.tup #v[.c (.int 3),.c (.int 1)],.tup #v[.c (.int 1),.c (.int 2)],.tup #v[.c (.int 1),.c (.int 2)],.tup #v[.c (.int 2),.c (.int 2)],.tup #v[.c (.int 2),.c (.int 2)],.tup #v[.c (.int 3),.c (.int 2)],.tup #v[.c (.int 1),.c (.int 3)],.tup #v[.c (.int 1),.c (.int 3)],.tup #v[.c (.int 2),.c (.int 3)]]),.ret (.ix (.v 1) (.own "_law_pick" 2 #v[.v 0,.c (.int 11)]))]
abbrev b7:Ss:=
 #v[.set 1 (.lst #v[.tup #v[.tup #v[.c (.int 1),.c (.int 0)],.disp #v[.tup #v[.c (.int 0),.c (.int 0)],.lst #v[.c (.int 0)]],.c (.int 3)],.tup #v[.tup #v[.c (.int 0),.c (.int 2),.c (.int 1)],.disp #v[.tup #v[.c (.int 1),.c (.int 1)],.lst #v[.c (.int 1)]],.c (.int 2)],.tup #v[.tup #v[.c (.int 0),.c (.int 1)],.disp #v[.tup #v[.c (.int 1),.c (.int 1)],.lst #v[.c (.int 1)]],.c (.int 3)]]),.ex (.me .append (.v 1) #v[.tup #v[.tup #v[.c (.int 0),.c (.int 1)],.disp #v[.tup #v[.c (.int 1),.c (.int 1)],.lst #v[.c (.int 1)],.tup #v[.c (.int 0),.c (.int 0)],.lst #v[.c (.int 1)]],.c (.int 3)]]),.ex (.me .append (.v 1) #v[.tup #v[.tup #v[.c (.int 0),.c (.int 1)],.disp #v[.tup #v[.c (.int 1),.c (.int 1)],.lst .nil],.c (.int 1)]]),.ex (.me .append (.v 1) #v[.tup #v[.tup #v[.c (.int 0),.c (.int 2),.c (.int 1)],.disp #v[.tup #v[.c (.int 0),.c (.int 0)],.lst #v[.c (.int 0)],.tup #v[.c (.int 0),.c (.int 1)],.lst #v[.c (.int 1)],.tup #v[.c (.int 1),.c (.int 0)],.lst #v[.c (.int 1)],.tup #v[.c (.int 1),.c (.int 1)],.lst #v[.c (.int 1)]],.c (.int 2)]]),.ex (.me .append (.v 1) #v[.tup #v[.tup #v[.c (.int 1),.c (.int 0)],.dnew,.c (.int 3)]]),.ex (.me .append (.v 1) #v[.tup #v[.tup #v[.c (.int 0),.c (.int 1),.c (.int 2)],.disp #v[.tup #v[.c (.int 2),.c (.int 2)],.lst #v[.c (.int 2)],.tup #v[.c (.int 1),.c (.int 2)],.lst #v[.c (.int 1)],.tup #v[.c (.int 2),.c (.int 1)],.lst #v[.c (.int 1)],.tup #v[.c (.int 1),.c (.int 1)],.lst #v[.c (.int 1),.c (.int 2)]],.c (.int 2)]]),.ex (.me .append (.v 1) #v[.tup #v[.tup #v[.c (.int 0),.c (.int 1),.c (.int 2)],.disp #v[.tup #v[.c (.int 0),.c (.int 0)],.lst #v[.c (.int 0),.c (.int 1)]],.c (.int 2)]]),.ret (.ix (.v 1) (.own "_law_pick" 2 #v[.v 0,.c (.int 9)]))]
abbrev dM:Ss:=
 #v[.set 5 (.disp #v[.tup #v[.c (.int 1),.c (.int 0)],.v 2,.tup #v[.c (.int 2),.c (.int 0)],.v 3,.tup #v[.c (.int 2),.c (.int 1)],.v 4]),.loop (.nm 6) (.seq (.bi .list #v[.v 5])) #v[.put (.v 5) (.tup #v[.ix (.v 6) (.c (.int 1)),.ix (.v 6) (.c (.int 0))]) (.ix (.v 0) (.ix (.v 5) (.v 6)))],.loop (.tp [7,8,9]) (.seq (.own "_law_turns" 0 .nil)) #v[.ite (.cmp .notin (.ix (.v 5) (.tup #v[.v 7,.v 9])) (.me .get (.v 1) #v[.tup #v[.ix (.v 5) (.tup #v[.v 7,.v 8]),.ix (.v 5) (.tup #v[.v 8,.v 9])],.lst #v[.ix (.v 5) (.tup #v[.v 7,.v 9])]])) #v[.ret (.c (.bl true))] .nil],.ret (.c (.bl false))]
abbrev bo:Ss:=
 #v[.set 3 (.bi .len #v[.v 1]),.set 4 (.lst #v[.lst #v[.tup #v[.c (.int 0)]],.lst #v[.tup #v[.c (.int 0),.c (.int 1)],.tup #v[.c (.int 1),.c (.int 0)]]]),.ex (.me .append (.v 4) #v[.lst #v[.tup #v[.c (.int 0),.c (.int 1),.c (.int 2)],.tup #v[.c (.int 0),.c (.int 2),.c (.int 1)],.tup #v[.c (.int 2),.c (.int 0),.c (.int 1)],.tup #v[.c (.int 2),.c (.int 1),.c (.int 0)]]]),.set 5 (.ix (.v 4) (.op .sub (.v 3) (.c (.int 1)))),.ite (.cmp .eq (.v 1) (.tup #v[.c (.int 0),.c (.int 1),.c (.int 2)])) #v[.set 5 (.own "_law_turns" 0 .nil)] .nil,.set 6 (.ix (.v 5) (.own "_law_pick" 2 #v[.v 0,.bi .len #v[.v 5]])),.set 7 (.op .mul (.lst #v[.c (.int 0)]) (.v 3)),.loop (.nm 8) (.rng #v[.v 3]) #v[.put (.v 7) (.ix (.v 6) (.v 8)) (.ix (.v 6) (.ix (.v 1) (.v 8)))],.set 9 .dnew,.loop (.tp [10,11]) (.seq (.v 2)) #v[.put (.v 9) (.tup #v[.ix (.v 6) (.v 10),.ix (.v 6) (.v 11)]) (.comp (.ix (.v 2) (.v 1)) (.nm 1) (.seq (.ix (.v 2) (.tup #v[.v 10,.v 11]))) .nil [td,td,gV 6])],.ret (.tup #v[.bi .tuple #v[.v 7],.v 9])]
abbrev b8:Ss:=
 #v[.set 1 (.own "_law_pick" 2 #v[.v 0,.c (.int 7)]),.ite (.cmp .eq (.v 1) (.c (.int 0))) #v[.ret (.own "_law_free_rule" 1 #v[.v 0])] .nil,.ite (.cmp .eq (.v 1) (.c (.int 1))) #v[.ret (.own "_law_one_way_rule" 1 #v[.v 0])] .nil,.asg [2,3,4] (.own "_law_laying_kind" 1 #v[.v 0]),.set 5 (.op .add (.c (.int 1)) (.own "_law_pick" 2 #v[.v 0,.v 4])),.asg [2,3] (.own "_law_numbered" 3 #v[.v 0,.v 2,.v 3]),.set 6 (.own "_law_rule_of" 4 #v[.v 0,.v 5,.v 2,.tup .nil]),.set 7 .dnew,.set 8 (.bi .len #v[.v 2]),.loop (.nm 9) (.rng #v[.op .mul (.op .mul (.v 8) (.v 8)) (.v 8)]) #v[.par 10 11 #v[.op .mod (.v 9) (.v 8),.op .mod (.op .fdiv (.v 9) (.v 8)) (.v 8)],.set 12 (.op .fdiv (.op .fdiv (.v 9) (.v 8)) (.v 8)),.ite (.own "_law_breaks" 5 #v[.v 2,.v 3,.v 10,.v 11,.v 12]) #v[.loop (.nm 13) (.seq (.own "_law_rising" 1 #v[.v 5])) #v[.set 14 (.tup #v[.tup #v[.ix (.v 13) (.c (.int 0)),.tup .nil],.tup #v[.ix (.v 13) (.c (.int 1)),.tup #v[.v 10]]]),.put (.v 7) (.own "_law_figure" 2 #v[.v 6,.op .add (.v 14) (.tup #v[.tup #v[.ix (.v 13) (.c (.int 2)),.tup #v[.v 11,.v 12]]])]) (.c (.bl true))]] .nil],.ret (.tup #v[.ix (.v 6) (.c (.int 0)),.ix (.v 6) (.c (.int 1)),.bi .tuple #v[.bi .sorted #v[.v 7]]])]
abbrev dN:Ss:=
 #v[.set 1 (.lst .nil),.loop (.nm 2) (.rng #v[.v 0]) #v[.loop (.nm 3) (.rng2 #v[.v 2,.v 0]) #v[.set 1 (.op .add (.v 1) (.comp (.tup #v[.v 2,.v 3,.v 1]) (.nm 1) (.rng2 #v[.v 3,.v 0]) .nil [td,td,gV 2,gV 3]))]],.ret (.v 1)]
abbrev cG:Ss:=
 #v[.asg [1,2] (.own "_law_sizes" 1 #v[.v 0]),.set 3 (.own "_law_rule_of" 4 #v[.v 0,.v 1,.own "_law_backs" 2 #v[.v 0,.v 2],.tup .nil]),.set 5 (.comp (.v 1) (.nm 1) (.rng #v[.v 2]) #v[.cmp .eq (.ix (.ix (.ix (.v 2) (.c (.int 1))) (.v 1)) (.c (.int 1))) (.v 1)] [td,td,gV 3]),.ite (.or (.cmp .eq (.v 5) (.lst .nil)) (.cmp .eq (.v 2) (.c (.int 1)))) #v[.ret (.v 3)] .nil,.set 6 (.ix (.v 5) (.own "_law_pick" 2 #v[.v 0,.bi .len #v[.v 5]])),.set 7 .dnew,.loop (.nm 4) (.rng #v[.own "_law_pick" 2 #v[.v 0,.c (.int 9)]]) #v[.set 8 (.own "_law_free_three" 3 #v[.v 0,.v 1,.v 2]),.ite (.and (.cmp .ne (.ix (.ix (.ix (.v 8) (.c (.int 1))) (.c (.int 1))) (.c (.int 0))) (.v 6)) (.cmp .notin (.v 6) (.ix (.ix (.v 8) (.c (.int 2))) (.c (.int 1))))) #v[.put (.v 7) (.own "_law_figure" 2 #v[.v 3,.v 8]) (.c (.bl true))] .nil],.ret (.tup #v[.ix (.v 3) (.c (.int 0)),.ix (.v 3) (.c (.int 1)),.bi .tuple #v[.bi .sorted #v[.v 7]]])]
abbrev bQ:Ss:=
 #v[.set 1 (.op .add (.c (.int 1)) (.own "_law_pick" 2 #v[.v 0,.c (.int 3)])),.set 2 (.comp (.tup #v[.tup #v[.v 1,.tup .nil],.tup #v[.v 1,.tup #v[.c (.int 0)]],.tup #v[.v 1,.tup #v[.c (.int 0),.c (.int 0)]]]) (.nm 1) (.rng #v[.v 1]) #v[.cmp .eq (.own "_law_pick" 2 #v[.v 2,.c (.int 2)]) (.c (.int 0))] [td,td,gV 0]),.ret (.own "_law_rule_of" 4 #v[.v 0,.v 1,.tup #v[.c (.int 0)],.v 2])]
abbrev bf:Ss:=
 #v[.set 1 (.own "_law_pick" 2 #v[.v 0,.c (.int 3)]),.ite (.cmp .eq (.v 1) (.c (.int 0))) #v[.ret (.own "_law_rule_of" 4 #v[.v 0,.c (.int 1),.tup #v[.c (.int 0),.c (.int 1)],.comp (.tup #v[.tup #v[.c (.int 0),.tup .nil],.tup #v[.c (.int 0),.tup #v[.v 1]],.tup #v[.c (.int 0),.tup #v[.v 1,.v 1]]]) (.nm 1) (.rng #v[.c (.int 2)]) .nil [td,td]])] .nil,.ite (.cmp .eq (.v 1) (.c (.int 1))) #v[.set 2 (.own "_law_rule_of" 4 #v[.v 0,.c (.int 2),.tup #v[.c (.int 0),.c (.int 1)],.tup .nil]),.set 3 .dnew,.loop (.nm 4) (.seq (.own "_law_rising" 1 #v[.c (.int 2)])) #v[.loop (.tp [5,6,7]) (.seq (.lst #v[.tup #v[.c (.int 1),.c (.int 1),.c (.int 0)],.tup #v[.c (.int 1),.c (.int 1),.c (.int 1)],.tup #v[.c (.int 1),.c (.int 0),.c (.int 1)],.tup #v[.c (.int 0),.c (.int 1),.c (.int 1)]])) #v[.set 8 (.tup #v[.tup #v[.ix (.v 4) (.c (.int 0)),.tup .nil],.tup #v[.ix (.v 4) (.c (.int 1)),.tup #v[.v 5]]]),.put (.v 3) (.own "_law_figure" 2 #v[.v 2,.op .add (.v 8) (.tup #v[.tup #v[.ix (.v 4) (.c (.int 2)),.tup #v[.v 6,.v 7]]])]) (.c (.bl true))]],.ret (.tup #v[.ix (.v 2) (.c (.int 0)),.ix (.v 2) (.c (.int 1)),.bi .tuple #v[.bi .sorted #v[.v 3]]])] .nil,.set 9 (.op .add (.c (.int 2)) (.own "_law_pick" 2 #v[.v 0,.c (.int 2)])),.set 3 (.comp (.tup #v[.tup #v[.c (.int 0),.tup .nil],.tup #v[.v 1,.tup #v[.c (.int 0)]],.tup #v[.op .sub (.v 2) (.c (.int 1)),.tup #v[.c (.int 0),.c (.int 0)]]]) (.nm 1) (.rng #v[.v 9]) .nil [td,td,gV 9]),.ret (.own "_law_rule_of" 4 #v[.v 0,.v 9,.tup #v[.c (.int 0)],.sl (.v 3) .no (.yes (.op .add (.c (.int 1)) (.own "_law_pick" 2 #v[.v 0,.v 9])))])]
abbrev Is (defs:Ja (JG×Df))(f:JG)(np nn:Jg)(b:Ss):Prop:=∃df:Df,defs.lookup f=gV df/\df.ps.length=np/\df.N.length=nn/\df.body=b
def aw {defs:Ja (JG×Df)}{fuel d:Jg}{f:JG}{np nn:Jg}{b:Ss}{ws:Ja W}{S:aa}{Q:QW}(h:Is defs f np nn b)(hl:ws.length=np)(ok:fY b=true)
  (hb:∀Q':QO,(∀w S',Q (w,S')->Q' (.rt w,S'))->wZ (ar defs fuel d) fuel b (ws.map gV++Ke (nn - np) td) S Q'):wO (aF (ar defs fuel (d+1)) f np ws S) Q:=by
 obtain⟨df,h1,h2,h3,h4⟩:=h;subst h4;refine DU h1 hl (hl.trans h2.symm) ok λQ' hR=>?_
 have:=hb Q' hR;unfold fm;rw[h3,hl];exact this
abbrev eF:Ss:=
 #v[.ret (.bi .tuple #v[.comp (.ix (.c (.str "abcdef")) (.v 1)) (.nm 1) (.rng #v[.v 1]) .nil [td,td]])]
structure Gen (defs:Ja (JG×Df)):Prop where
 pick:Is defs ("_law_pick" : JG) 2 4 cL
 names:Is defs ("_law_names" : JG) 2 2 eF
 between:Is defs ("_law_between" : JG) 4 4 dq
 part:Is defs ("_law_part" : JG) 3 6 fA
 turns:Is defs ("_law_turns" : JG) 0 0 ga
 figure:Is defs ("_law_figure" : JG) 2 2 dL
 backs:Is defs ("_law_backs" : JG) 2 3 eC
 rule_of:Is defs ("_law_rule_of" : JG) 4 6 dt
 free_three:Is defs ("_law_free_three" : JG) 3 5 ci
 sizes:Is defs ("_law_sizes" : JG) 1 2 eE
 laying_kind:Is defs ("_law_laying_kind" : JG) 1 2 b7
 breaks:Is defs ("_law_breaks" : JG) 5 10 dM
 numbered:Is defs ("_law_numbered" : JG) 3 12 bo
 laying_rule:Is defs ("_law_laying_rule" : JG) 1 15 b8
 rising:Is defs ("_law_rising" : JG) 1 4 dN
 free_rule:Is defs ("_law_free_rule" : JG) 1 9 cG
 one_way_rule:Is defs ("_law_one_way_rule" : JG) 1 3 bQ
structure FlA (S:aa)(r q:Jg)(ns:Ja Jk)(i c x n:Jk):Prop where
 at_r:S[r]?=gV (.lst [.ref q,.int i,.int c,.int x,.int n])
 at_q:S[q]?=gV (.lst (ns.map W.int))
 lt:q < r
 i0:0<=i
 c0:0<=c
 x0:0<=x
 x1:x < 2147483647
def FlA.ne {S:aa}{r q:Jg}{ns:Ja Jk}{i c x n:Jk}(h:FlA S r q ns i c x n):q≠r:=J1 h.lt
abbrev Fl (S:aa)(r:Jg):Prop:=∃(q:Jg) (ns:Ja Jk) (i c x n:Jk),FlA S r q ns i c x n
def FlA.put {S:aa}{r q:Jg}{ns:Ja Jk}{i c x n i' c' x' n':Jk}(h:FlA S r q ns i c x n)(h1:0<=i')(h2:0<=c')(h3:0<=x')(h4:x' < 2147483647):FlA (S.set r (.lst [.ref q,.int i',.int c',.int x',.int n'])) r q ns i' c' x' n':=
 #[bg h.at_r,by rw[aY (Ne.symm h.ne)]; exact h.at_q,h.lt,h1,h2,h3,h4]
def Fl.keep {S S':aa}{r:Jg}(h:Fl S r)(h1:S'[r]?=S[r]?)(k:Kp r S S'):Fl S' r:=
 let ⟨q,ns,i,c,x,n,f⟩:=h; #[q,ns,i,c,x,n,by rw[h1]; exact f.at_r,k.get _ _ f.ne f.at_q,f.lt,f.i0,f.c0,f.x0,f.x1]
def Fl.lt {S:aa}{r:Jg}(h:Fl S r):r < S.length:=let ⟨_,_,_,_,_,_,f⟩:=h; bK f.at_r
structure Ka (S S':aa):Prop where
 get:∀(j:Jg) (o:O),S[j]?=gV o->S'[j]?=gV o
 len:S.length<=S'.length
def Ka.refl {S:aa}:Ka S S:=#[λ_ _ h=>h,Jo _]
def Ka.trans {S S' S'':aa}(a:Ka S S')(b:Ka S' S''):Ka S S'':=#[λj o h=>b.get j o (a.get j o h),JY a.len b.len]
def Ka.push {S:aa}{o:O}:Ka S (S++[o]):=#[λj u h=>aq h,by simp]
def Ka.late {t:Jg}{S0 S:aa}{o:O}(a:Ka S0 S)(h:S0.length<=t):Ka S0 (S.set t o):=
 #[λj u e=>by have:=bK e; rw[aY ∅]; exact a.get j u e,by simpa using a.len]
def Ka.kp {S S':aa}(a:Ka S S')(r:Jg):Kp r S S':=#[λj o _ h=>a.get j o h,a.len]
def Fl.ka {S S':aa}{r:Jg}(h:Fl S r)(k:Ka S S'):Fl S' r:=h.keep (by obtain⟨q,ns,i,c,x,n,f⟩:=h; rw[k.get _ _ f.at_r,f.at_r]) (k.kp r)
def Fl.own {S:aa}{r t:Jg}{o:O}(h:Fl S r)(ht:r < t):Fl (S.set t o) r:=by
 obtain⟨q,ns,i,c,x,n,f⟩:=h;have:=f.lt;exact#[q,ns,i,c,x,n,by rw[aY ∅]; exact f.at_r,by rw[aY ∅]; exact f.at_q,f.lt,f.i0,f.c0,f.x0,f.x1]
def dv {S:aa}{r:Jg}{xs:Ja W}{i:Jg}{w:W}{Q:QW}(h:S[r]?=gV (.lst xs))(hw:xs[i]?=gV w)(q:Q (w,S)):wO (jP (.ref r) (.int (i:Jk)) S) Q:=ab (xK h (Jp i) (by rw[JC]; exact hw)) q
def mI {S:aa}{r:Jg}{xs:Ja W}{i:Jg}{w:W}{Q:aa->Prop}(h:S[r]?=gV (.lst xs))(hi:Sd (i+1) xs.length=true)(q:Q (S.set r (.lst (xs.set i w)))):wO (iE (.ref r) (.int (i:Jk)) w S) Q:=ab (B9 h (Jp i) (by rw[JC]; exact MX hi)) (by rw[JC]; exact q)
section
variable{defs:Ja (JG×Df)}{fuel d:Jg}{S:aa}{r:Jg}{Q:QW}
def aU (hd:Is defs ("_law_pick" : JG) 2 4 cL){m:Jk}(hf:Fl S r)(h0:0 < m)(h1:m < 1073741824)(k:∀v S',0<=v->v < m->Fl S' r->Kp r S S'->Q (.int v,S')) :
  wO (aF (ar defs fuel (d+1)) "_law_pick" 2 [.ref r,.int m] S) Q:=by
 obtain⟨q,ns,i,c,x,n,f⟩:=hf;refine aw hd rfl rfl λQ' hR=>?_
 replace k:∀v S',0<=v->v < m->Fl S' r->Kp r S S'->Q' (.rt (.int v),S'):=λv S' a b c e=>hR _ _ (k v S' a b c e)
 clear hR;show wZ _ _ cL [gV (.ref r),gV (.int m),td,td] S Q';have cz:∀(S1:aa) (w2:Ji W) (i1 c1 x1 n1:Jk),FlA S1 r q ns i1 c1 x1 n1->Kp r S S1->wZ (ar defs fuel d) fuel (match cL with|.cons _ ss=>ss|.nil=>.nil) [gV (.ref r),gV (.int m),w2,td] S1 Q':=by
  intro S1 w2 i1 c1 x1 n1 f1 k1;dsimp only[cL];refine st ?_;dsimp only[wS,wT,wE,wV,wG];refine dv (i:=2) f1.at_r rfl ?_;dsimp only[DT,wO,wB];refine aj (Q0:=Q') (λhg Q2 hn hr=>?_) (λhg Q2 hn hr=>?_)
  ·clear hn;refine st ?_;dsimp only[wS,wE,wV,wG];refine dv (i:=2) f1.at_r rfl (ab (kQ h0) ?_);refine st ?_;dsimp only[wS,wE,wV,wG,Jr];refine dv (i:=2) f1.at_r rfl (ab (nT h0 h1) (mI (i:=2) f1.at_r rfl ?_));refine st ?_;dsimp only[wS,wE,wV,wG,Jr];exact hr _ _ (k _ _ (LR _ ∅) (Ll _ h0) #[q,ns,i1,c1 / m,x1,n1,f1.put f1.i0 (Qk f1.c0 ∅) f1.x0 f1.x1] (k1.trans .set))
  ·refine aR (hn _ _ ?_);clear hn hr;have f2:FlA (S1.set r (.lst [.ref q,.int i1,.int c1,.int x1,.int (n1+1)])) r q ns i1 c1 x1 (n1+1):=f1.put f1.i0 f1.c0 f1.x0 f1.x1;refine st ?_;dsimp only[wS,wE,wV,wG];refine dv (i:=4) f1.at_r rfl ?_;dsimp only[cO,wO];refine mI (i:=4) f1.at_r rfl ?_;refine st ?_;dsimp only[wS,wE,wV,wG,Jr];refine dv (i:=3) f2.at_r rfl (ab (sS #v[] #v[]) ?_)
   dsimp only[cO,wO];refine dv (i:=4) f2.at_r rfl ?_;dsimp only[cO,wO];refine(mI (i:=3) f2.at_r rfl ?_);have f3:FlA ((S1.set r (.lst [.ref q,.int i1,.int c1,.int x1,.int (n1+1)])).set r (.lst [.ref q,.int i1,.int c1,.int ((x1*48271+12820163+(n1+1)) % 2147483647),.int (n1+1)])) r q ns i1 c1 ((x1*48271+12820163+(n1+1)) % 2147483647) (n1+1):=f2.put f1.i0 f1.c0 (LR _ #v[]) (Ll _ #v[])
   dsimp only[Jr];generalize(x1*48271+12820163+(n1+1)) % 2147483647=y at f3 ⊢;have b1:y / 65521+7919 < 2 ^ 64:=by
    have:=f3.x1;have:=Int.ediv_le_self 65521 f3.x0;omega
   have b2 : -(2 ^ 64) < y / 65521+7919:=by
    have:=Qk f3.x0 (show(0:Jk)<=65521 by decide)
    omega
   refine st ?_;dsimp only[wS,wE,wV,wG,Jr];refine dv (i:=3) f3.at_r rfl (ab (kQ #v[]) ?_)
   dsimp only[cO,wO];refine dv (i:=3) f3.at_r rfl ?_;dsimp only[cO,wO];refine ab (sS b2 b1) ?_;refine ab (kQ h0) ?_;exact k _ _ (LR _ ∅) (Ll _ h0) #[q,ns,_,_,_,_,f3] (k1.trans (Kp.set.trans .set))
 dsimp only[cL]at cz ⊢;refine st ?_;dsimp only[wS,wT,wE,wV,wG,wA];refine dv (i:=2) f.at_r rfl ?_;dsimp only[lT,wO,wB];have skip:∀Q2:QO,(∀Z' S',wZ (ar defs fuel d) fuel _ Z' S' Q'->Q2 (.nx Z',S'))->Q2 (.nx [gV (.ref r),gV (.int m),td,td],S):=λQ2 hn=>hn _ _ (cz S td i c x n f .refl)
 refine#[λ_=>?_,λ_ Q2 hn hr=>#[λz=>(by cases z),λ_=>(aR (skip Q2 hn)).out]]
 refine dv (i:=1) f.at_r rfl (dv (i:=0) f.at_r rfl (ab (Cb f.at_q) ?_));dsimp only[DS,wO,wB];refine aj (Q0:=Q') (λhl Q2 hn _=>?_) (λhg Q2 hn hr=>aR (skip Q2 hn))
 clear skip;have hl':i.toNat < ns.length:=by
  have:=J8 hl;rw[Jb]at this;have:=f.i0;omega
 have hcell:(ns.map W.int)[i.toNat]?=gV (.int ns[i.toNat]):=by simp[hl']
 generalize ns[i.toNat]=cell at hcell;have f1:FlA (S.set r (.lst [.ref q,.int (i+1),.int c,.int x,.int n])) r q ns (i+1) c x n:=f.put (by have:=f.i0; omega) f.c0 f.x0 f.x1
 refine st ?_;dsimp only[wS,wE,wV,wG];refine dv (i:=0) f.at_r rfl (dv (i:=1) f.at_r rfl (ab (xK f.at_q f.i0 hcell) ?_));refine st ?_;dsimp only[wS,wE,wV,wG,Jr];refine dv (i:=1) f.at_r rfl ?_;dsimp only[cO,wO];refine mI (i:=1) f.at_r rfl ?_;refine st ?_;dsimp only[wS,wT,wE,wV,wG,DR,HR,wO,wB];refine aj (Q0:=Q') (λhg Q3 hn3 _=>?_) (λhg Q3 hn3 _=>?_)
 ·refine st ?_;dsimp only[wS,wE,wV,wG];refine mI (i:=2) f1.at_r rfl (aR (hn3 _ _ (aR (hn _ _ ?_))));exact cz _ _ (i+1) cell x n (f1.put f1.i0 (by have:=J8 hg; omega) f.x0 f.x1) (Kp.set.trans .set)
 ·refine st ?_;dsimp only[wS,wE,wV,wG];refine dv (i:=3) f1.at_r rfl (ab (sS #v[] #v[]) (ab (kQ #v[]) ?_))
  dsimp only[cO,wO];refine mI (i:=3) f1.at_r rfl (aR (hn3 _ _ (aR (hn _ _ ?_))));exact cz _ _ (i+1) c _ n (f1.put f1.i0 f.c0 (LR _ #v[]) (Ll _ #v[])) (Kp.set.trans .set)
end
abbrev dr:Jg->Ss->Ss
 | 0,ss=>ss
 | n+1,.cons _ ss=>dr n ss
 | _,.nil=>.nil
def aV {α:Type}{a:α}{Q:α->Prop}:wO (gV a) Q=Q a:=rfl
def aG {M:JG->FF}{fuel:Jg}{Z:Fm}{S:aa}{Q:QO}{s:Sm}{ss:Ss}(h:∀K:Fm->aa->Prop,(∀Z' S',wZ M fuel ss Z' S' Q->K Z' S')->wS M fuel s Z S K Q):wZ M fuel (.cons s ss) Z S Q:=st (h _ λ_ _ h=>h)
def Ge {M:JG->FF}{fuel:Jg}{Z:Fm}{S:aa}{i:Jg}{e:E}{K:Fm->aa->Prop}{Q:QO}(h:wE M e Z S λp=>K (Z.set i (gV p.1)) p.2):wS M fuel (.set i e) Z S K Q:=h
def gb {n:Jg}(h:Sd n 1000=true):n<=sizeLine:=JY (MX h) (by rw[Kq]; decide)
def lU {n:Jg}(h:n<=1000):n<=sizeLine:=JY h (by rw[Kq]; decide)
def kS {S:aa}{r:Jg}{xs:Ja W}{i:Jk}{w:W}{Q:QW}(h:S[r]?=gV (.lst xs))(h0:0<=i)(hw:xs[i.toNat]?=gV w)(q:Q (w,S)):wO (jP (.ref r) (.int i) S) Q:=ab (xK h h0 hw) q
def ae {S:aa}{xs:Ja W}{i:Jk}{w:W}{Q:QW}(h0:0<=i)(hw:xs[i.toNat]?=gV w)(q:Q (w,S)):wO (jP (.tup xs) (.int i) S) Q:=ab (F5 h0 hw) q
def kU {S:aa}{r:Jg}{xs:Ja W}{y:W}{Q:QW}(h:S[r]?=gV (.lst xs))(hl:xs.length < 1000)(q:Q (.non,S.set r (.lst (xs++[y])))):wO (Me.append.fn (.ref r) [y] S) Q:=ab (sT h (JW hl (gb rfl))) q
def pz {S:aa}{r:Jg}{xs:Ja W}{Q:QW}(h:S[r]?=gV (.lst xs))(q:Q (.int xs.length,S)):wO (Bi.len.fn [.ref r] S) Q:=ab (Cb h) q
def aD {S:aa}{xs:Ja W}{Q:QW}(q:Q (.int xs.length,S)):wO (Bi.len.fn [.tup xs] S) Q:=q
def eT {S:aa}{r:Jg}{xs:Ja W}{Q:QW}(h:S[r]?=gV (.lst xs))(q:Q (.tup xs,S)):wO (Bi.tuple.fn [.ref r] S) Q:=ab (F7 h) q
section
variable{M:JG->FF}{fuel:Jg}{Z:Fm}{S S1:aa}{K:Fm->aa->Prop}
def xN {t:E}{a:Ss}{Q:QO}(ht:∀Q:QB,Q (false,S1)->wT M t Z S Q)(h:K Z S1):wS M fuel (.ite t a .nil) Z S K Q:=by
 dsimp only[wS];exact ht _ λQ' h1 h2=>#[λz=>(by cases z),λ_=>(aR (h1 _ _ h)).out]
def Gf {t:E}{a b:Ss}{Q:QO}(ht:∀Q:QB,Q (true,S1)->wT M t Z S Q)(h:∀Q':QO,(∀Z' S',K Z' S'->Q' (.nx Z',S'))->(∀w S',Q (.rt w,S')->Q' (.rt w,S'))->wZ M fuel a Z S1 Q'):wS M fuel (.ite t a b) Z S K Q:=by
 dsimp only[wS];exact ht _ λQ' h1 h2=>#[λ_=>(h Q' h1 λw S' q=>h2 (.rt w) S' (λ_ z=>nomatch z) q).out,λz=>(by cases z)]
end
abbrev Gg (y:JG):Prop:=∀c∈y.cps.toList,97<=c/\c<=122
abbrev Name (y:JG):Prop:=1<=y.cps.toList.length/\y.cps.toList.length<=8/\Gg y
def nY {α:Type}{f:α->W}{xs:Ja α}{i:Jg}(h:i < xs.length):∃x∈xs,(xs.map f)[i]?=gV (f x):=#[xs[i],Kg _,by rw[Jl,Ju h]; rfl]
def jo {α:Type}[Mo α]:∀(l m:Ja α),l.Nodup->(∀x∈l,x∈m)->l.length<=m.length
 | [],_,_,_=>Lq _
 | x::l,m,hn,hs=>by
  rw[K6]at hn;have hx:x∈m:=hs x (.head _);have h1:=jo l (m.erase x) hn.2 λy hy=>(List.mem_erase_of_ne (λ(e:y=x)=>hn.1 (by rw[<- e]; exact hy))).mpr (hs y (.tail _ hy))
  rw[List.length_erase_of_mem hx]at h1;have:=N7 hx;rw[J2]; omega
abbrev Be (k:Jg):JG:=#[[97+k].toArray]
def uP {k:Jg}(h:k < 26):Name (Be k):=#[Jo 1,(by decide:1<=8),λc hc=>by
 cases Jv.mp (show c∈[97+k]from hc)
 omega]
abbrev qU:Ja JG:=["marks","ways","bar","some","each","not","and","or","is"]
def d8 {xs:Ja W}{k:Jg}:jN xs td (gV (k:Jk))=xs.take k:=by
 unfold jN;rw[HT.kb,HT.rS,QJ,Py]
 by_cases h:k<=xs.length
 ·rw[Ql h]
 ·rw[P5 ∅,MU (Jo _),MU ∅]
def xO {xs:Ja W}{k:Jg}:jN xs (gV (k:Jk)) td=xs.drop k:=by
 unfold jN;rw[HT.kb,HT.rS]
 by_cases h:k<=xs.length
 ·rw[Ql h,MU (by rw[L9]; exact Jo _)]
 ·rw[P5 ∅,N8 (Jo _),N8 ∅]; exact List.take_nil
section
variable{defs:Ja (JG×Df)}{fuel d:Jg}{S:aa}{r:Jg}{Q:QW}
def xP:∀m,m<=6->(qU++(Jw m).map Be).Nodup:=λm hm=>by
 rcases(show m=0\/m=1\/m=2\/m=3\/m=4\/m=5\/m=6 by omega)with rfl|rfl|rfl|rfl|rfl|rfl|rfl <;> decide
def Bf:∀k:Fin 6,("abcdef" : JG).cps.toList[k.val]?=gV (97+k.val):=by decide
def Bg (hfu:20 < fuel)(G:Gen defs){m:Jg}(hf:Fl S r)(h1:m<=6)(k:∀(ys:Ja JG) S',ys.length=m->(∀y∈ys,Name y)->(qU++ys).Nodup->Fl S' r->Kp r S S'->Q (.tup (ys.map W.str),S')) :
  wO (aF (ar defs fuel (d+4)) "_law_names" 2 [.ref r,.int m] S) Q:=by
 refine aw G.names rfl rfl λQ' hR=>?_
 show wZ _ _ eF [gV (.ref r),gV (.int m)] S Q';dsimp only[eF];refine st ?_;dsimp only[wS,wE,wA];refine eB (m:Jk) (λi ys Z2 S2=>(∃a1,Z2=[td,a1])/\ys=((Jw i).map Be).map W.str/\S2=S) rfl rfl rfl ∅ #[rfl,#[td,rfl],rfl,rfl] ?_ ?_
 ·rintro i ys Z2 S2 hi ⟨⟨a1,rfl⟩,rfl,rfl⟩;dsimp only[ig,wC,wE,wV,wG,Jr];refine#[λ_=>ab (F6 (c:=97+i) #v[] (Jp i) ?_) #[#[_,rfl],?_,rfl],λz=>by cases z]
  ·rw[JC]; exact Bf #[i,∅]
  ·rw[KQ,JI,JI]; rfl
 ·rintro ys Z2 S2 ⟨_,rfl,rfl⟩;rw[JC];refine#[lU (by rw[Jb,Jb,JS]; omega),eT ah (hR _ _ (k ((Jw m).map Be) _ (by rw[Jb,JS]) (λy hy=>?_) (xP m h1) (hf.ka .push) .push))]
  obtain⟨i,hi,rfl⟩:=Jy.mp hy;exact uP (by have:=Jt.mp hi; omega)
end
noncomputable abbrev Pt:=Jk×Ja Jk
noncomputable abbrev Wd:=Ja Pt
abbrev ay (p:Pt):W:=.tup [.int p.1,.tup (p.2.map W.int)]
abbrev au (u:Wd):W:=.tup (u.map ay)
abbrev g5 (p:Pt):T:=.tup [.int p.1,.tup (p.2.map T.int)]
abbrev cy (u:Wd):T:=.tup (u.map g5)
def sW:∀xs:Ja Jk,T.ws (xs.map T.int)=xs.map W.int
 | []=>rfl
 | x::xs=>by simp[T.ws,T.w,sW xs]
def Gh (p:Pt):(g5 p).w=ay p:=by simp[g5,ay,T.w,T.ws,sW]
def xQ:∀u:Wd,T.ws (u.map g5)=u.map ay
 | []=>rfl
 | p::u=>by simp[T.ws,Gh,xQ u]
def xR (u:Wd):(cy u).w=au u:=by simp[cy,au,T.w,xQ]
def xS (u:Wd):W.t (au u)=gV (cy u):=by rw[<- xR]; exact T.w_t _
def xT:∀us:Ja Wd,T.ws (us.map cy)=us.map au
 | []=>rfl
 | u::us=>by simp[T.ws,xR,xT us]
def Ch (us:Ja Wd):W.ts (us.map au)=gV (us.map cy):=by rw[<- xT]; exact T.ws_ts _
def kW:∀xs:Ja Jk,T.depths (xs.map T.int)=0
 | []=>rfl
 | x::xs=>by simp[T.depths,T.depth,kW xs]
def xU (p:Pt):(g5 p).depth=2:=by simp[g5,T.depth,T.depths,kW]
def mJ:∀u:Wd,T.depths (u.map g5)<=2
 | []=>by simp[T.depths]
 | p::u=>by
  have:=mJ u;simp only[KD,T.depths,xU]; omega
def pA (u:Wd):(cy u).depth<=3:=by
 have:=mJ u;simp only[cy,T.depth]; omega
def jp:∀us:Ja Wd,T.depths (us.map cy)<=3
 | []=>by simp[T.depths]
 | u::us=>by
  have:=jp us;have:=pA u;simp only[KD,T.depths]; omega
def jq (u:Wd):gK (au u)=gV (cy u):=by
 unfold gK;rw[xS];show(if (cy u).isTup=true/\(cy u).depth<=bm then _ else _)=_
 rw[JK #[rfl,by have:=pA u; unfold bm; omega]]
mutual
noncomputable def pB:T->T->JL
 | .int _,.int _=>true
 | .str _,.str _=>true
 | .tup xs,.tup ys=>iN xs ys
 | _,_=>false
noncomputable def iN:Ja T->Ja T->JL
 | [],_=>true
 | _,[]=>true
 | x::xs,y::ys=>pB x y&&iN xs ys
end
mutual
theorem qV:∀x y:T,pB x y=true->(gL x y).isSome=true
 | .int _,.int _,_=>rfl
 | .str _,.str _,_=>rfl
 | .tup xs,.tup ys,h=>by
  dsimp only[pB]at h;dsimp only[gL];exact sX xs ys h
 | .int _,.str _,h|.int _,.tup _,h|.str _,.int _,h|.str _,.tup _,h|.tup _,.int _,h|.tup _,.str _,h=>by cases h
theorem sX:∀xs ys:Ja T,iN xs ys=true->(db xs ys).isSome=true
 | [],[],_=>rfl
 | [],_::_,_=>rfl
 | _::_,[],_=>rfl
 | x::xs,y::ys,h=>by
  dsimp only[iN]at h; simp only[Jj]at h
  dsimp only[db];split
  ·exact sX xs ys h.2
  ·exact qV x y h.1
end
def pE:∀xs ys:Ja Jk,iN (xs.map T.int) (ys.map T.int)=true
 | [],_=>rfl
 | _::_,[]=>rfl
 | x::xs,y::ys=>by dsimp only[R6,iN,pB]; simp[pE xs ys]
def xV (p q:Pt):pB (g5 p) (g5 q)=true:=by dsimp only[g5,pB,iN]; simp[pE]
def sY:∀u v:Wd,iN (u.map g5) (v.map g5)=true
 | [],_=>rfl
 | _::_,[]=>rfl
 | p::u,q::v=>by dsimp only[R6,iN]; simp[xV,sY u v]
def DV (u v:Wd):pB (cy u) (cy v)=true:=by dsimp only[cy,pB]; exact sY _ _
def gE (us:Ja Wd):fR (us.map cy)=true:=by
 unfold fR;rw[JB];intro x hx;obtain⟨u,_,rfl⟩:=Jy.mp hx;rw[JB];intro y hy;obtain⟨v,_,rfl⟩:=Jy.mp hy;exact qV _ _ (DV u v)
def DW (us:Ja Wd)(h:∀u∈us,u≠[]):(Ak (us.map cy)).isSome=true:=by
 unfold Ak;split
 ·rfl
 ·split
  ·rfl
  ·split
   ·rfl
   ·split
    ·rfl
    ·split
     ·rfl
     ·rename_i h5;exfalso;apply h5;rw[JB];intro x hx;obtain⟨u,hu,rfl⟩:=Jy.mp hx;cases u with
      | nil=>exact absurd rfl (h [] hu)
      | cons p u=>rfl
abbrev bH (bs:Ja Jk)(u:Wd)(i j:Jg):Jk:=if j < i then((u.getD i (0,[])).2).getD j 0 else bs.getD (((u.getD j (0,[])).2).getD i 0).toNat 0
abbrev al (bs:Ja Jk)(u:Wd)(ps:Ja Jg):Wd:=(Jw ps.length).map λk=>((u.getD (ps.getD k 0) (0,[])).1,(ps.take k).map λj=>bH bs u (ps.getD k 0) j)
abbrev am:Ja (Ja Jg):=[[0,1,2],[0,2,1],[1,0,2],[1,2,0],[2,0,1],[2,1,0]]
abbrev cj (bs:Ja Jk)(u:Wd):Wd:=(am.map (al bs u)).getD (hJ ((am.map (al bs u)).map cy)) []
abbrev aE (n:JG)(b:Jk):W:=.tup [.str n,.int b]
structure GoodW (a n:Jg)(u:Wd):Prop where
 mark:∀(k:Jg) (p:Pt),u[k]?=gV p->0<=p.1/\p.1 < a
 len:∀(k:Jg) (p:Pt),u[k]?=gV p->p.2.length=k
 way:∀(k:Jg) (p:Pt),u[k]?=gV p->∀w∈p.2,0<=w/\w < n
abbrev GoodB (bs:Ja Jk):Prop:=bs=[0]\/bs=[0,1]\/bs=[1,0]\/bs=[0,1,2]\/bs=[1,0,2]\/bs=[0,2,1]
def GoodB.rng {bs:Ja Jk}(h:GoodB bs):∀k:Jg,k < bs.length->∃b:Jk,bs[k]?=gV b/\0<=b/\b < bs.length:=by
 rcases h with rfl|rfl|rfl|rfl|rfl|rfl <;> intro k hk
 ·match k,hk with
  | 0,_=>exact#[0,rfl,#v[],#v[]]
 ·match k,hk with
  | 0,_=>exact#[0,rfl,#v[],#v[]]
  | 1,_=>exact#[1,rfl,#v[],#v[]]
 ·match k,hk with
  | 0,_=>exact#[1,rfl,#v[],#v[]]
  | 1,_=>exact#[0,rfl,#v[],#v[]]
 ·match k,hk with
  | 0,_=>exact#[0,rfl,#v[],#v[]]
  | 1,_=>exact#[1,rfl,#v[],#v[]]
  | 2,_=>exact#[2,rfl,#v[],#v[]]
 ·match k,hk with
  | 0,_=>exact#[1,rfl,#v[],#v[]]
  | 1,_=>exact#[0,rfl,#v[],#v[]]
  | 2,_=>exact#[2,rfl,#v[],#v[]]
 ·match k,hk with
  | 0,_=>exact#[0,rfl,#v[],#v[]]
  | 1,_=>exact#[2,rfl,#v[],#v[]]
  | 2,_=>exact#[1,rfl,#v[],#v[]]
def getD_some {α:Type}{xs:Ja α}{i:Jg}{x d:α}(h:xs[i]?=gV x):xs.getD i d=x:=by simp[h]
def ak {α:Type}{xs:Ja α}{i:Jg}{d:α}(h:i < xs.length):xs[i]?=gV (xs.getD i d):=by simp[h]
def jr {ns:Ja JG}{bs:Ja Jk}{k:Jg}{n:JG}{b:Jk}(h1:ns[k]?=gV n)(h2:bs[k]?=gV b):(JA aE ns bs)[k]?=gV (aE n b):=by
 rw[List.getElem?_zipWith,h1,h2]
abbrev az (ps:Ja Jg):Ja W:=ps.map λ(p:Jg)=>W.int (p:Jk)
def nZ {ps:Ja Jg}{k p:Jg}(h:ps[k]?=gV p):(az ps)[k]?=gV (.int p):=by simp[az,h]
def aO (bs:Ja Jk)(u:Wd)(ps:Ja Jg):(al bs u ps).length=ps.length:=by unfold al; rw[Jb,JS]
def c8 {u:Wd}{i:Jg}(hi:i < u.length):(u.map ay)[((i:Jg):Jk).toNat]?=gV (ay (u.getD i (0,[]))):=by
 rw[JC,Jl,ak hi]; rfl
section
variable{defs:Ja (JG×Df)}{fuel d:Jg}{S:aa}{r:Jg}{Q:QW}
def xW {M:JG->FF}{m0 b0:W}{ns:Ja JG}{bs:Ja Jk}{a:Jg}{u:Wd}{i j:Jg}{Q:QO}(hb:GoodB bs)(hl:ns.length=bs.length)(hu:GoodW a bs.length u)(hi:i < u.length)(hj:j < u.length)(hij:i≠j)(k:Q (.rt (.int (bH bs u i j)),S)) :
  wZ M fuel dq [gV (.tup [m0,.tup (JA aE ns bs),b0]),gV (au u),gV (.int i),gV (.int j)] S Q:=by
 have hpi:=ak (d:=(0,[])) hi;have hpj:=ak (d:=(0,[])) hj;unfold bH at k;dsimp only[dq];nofun
 dsimp only[wS,wT,wE,wV,wG,DS,wO,wB,au];refine aj (Q0:=Q) (λh Q2 _ hr=>?_) (λh Q2 hn _=>?_)
 ·have hji:j < i:=by have:=J8 h; omega
  rw[JK hji]at k;have hw:j < (u.getD i (0,[])).2.length:=by rw[hu.len i _ hpi]; exact hji
  refine st ?_;dsimp only[wS,wE,wV,wG];refine ae (Jp i) (c8 hi) (ae #v[] rfl (ae (Jp j) ?_ (hr _ _ k)))
  rw[JC,Jl,ak (d:=0) hw]; rfl
 ·have hji:¬ j < i:=by have:=ML h; omega
  rw[JU hji]at k;refine aR (hn _ _ (hK _ _ ?_));clear hn hK;have hw:i < (u.getD j (0,[])).2.length:=by rw[hu.len j _ hpj]; omega
  have hg:=ak (d:=0) hw;obtain⟨g1,g2⟩:=hu.way j _ hpj _ (Jq hg);obtain⟨b,hb1,hb2,hb3⟩:=hb.rng ((u.getD j (0,[])).2.getD i 0).toNat ∅
  have hn:((u.getD j (0,[])).2.getD i 0).toNat < ns.length:=∅
  rw[getD_some hb1]at k;refine st ?_;dsimp only[wS,wE,wV,wG];refine ae #v[] rfl (ae (Jp j) (c8 hj) (ae #v[] rfl (ae (Jp i) ?_ (ae g1 (jr (Ju hn) hb1) (ae #v[] rfl k)))))
  rw[JC,Jl,hg]; rfl
def uQ (G:Gen defs){m0 b0:W}{ns:Ja JG}{bs:Ja Jk}{a:Jg}{u:Wd}{i j:Jg}(hb:GoodB bs)(hl:ns.length=bs.length)(hu:GoodW a bs.length u)(hi:i < u.length)(hj:j < u.length)(hij:i≠j)(k:Q (.int (bH bs u i j),S)) :
  wO (aF (ar defs fuel (d+1)) "_law_between" 4 [.tup [m0,.tup (JA aE ns bs),b0],au u,.int i,.int j] S) Q:=
 aw G.between rfl rfl λQ' hR=>xW hb hl hu hi hj hij (hR _ _ k)
def xX (G:Gen defs){m0 b0:W}{ns:Ja JG}{bs:Ja Jk}{a:Jg}{u:Wd}{ps:Ja Jg}(hb:GoodB bs)(hl:ns.length=bs.length)(hu:GoodW a bs.length u)(hps:∀p∈ps,p < u.length)(hnd:ps.Nodup)(hsz:ps.length < 1000)(k:∀S',Ka S S'->Q (au (al bs u ps),S')) :
  wO (aF (ar defs fuel (d+2)) "_law_part" 3 [.tup [m0,.tup (JA aE ns bs),b0],au u,.tup (az ps)] S) Q:=by
 refine aw G.part rfl rfl λQ' hR=>?_
 replace k:∀S',Ka S S'->Q' (.rt (au (al bs u ps)),S'):=λS' a=>hR _ _ (k S' a)
 clear hR;show wZ _ _ fA [gV (.tup [m0,.tup (JA aE ns bs),b0]),gV (au u),gV (.tup (az ps)),td,td,td] S Q';generalize hR0:W.tup [m0,.tup (JA aE ns bs),b0]=R;dsimp only[fA];refine st ?_;dsimp only[wS,wE,wA,Jr];nofun
 have nl:(az ps).length=ps.length:=Jb ..;refine bC (ps.length:Jk) (λk Z S'=>∃a4 a5,Z=[gV R,gV (au u),gV (.tup (az ps)),gV (.ref S.length),a4,a5]/\S'[S.length]?=gV (.lst (((al bs u ps).take k).map ay))/\Ka S S') rfl rfl ∅ ?_ ?_ ?_
 ·dsimp only[wE,wA,wV,wG];refine aD ?_;rw[nl];exact#[rfl,td,td,rfl,ah,.push]
 ·rintro i Z S1 hi ⟨a4,a5,rfl,e1,k1⟩ Q2 hn _;clear hK;have hi':i < ps.length:=∅
  have hp:ps[i]?=gV ps[i]:=Ju hi';have hpu:ps[i] < u.length:=hps _ (Kg hi');refine st ?_;dsimp only[wS,wE,wV,wG,Jr];refine ae (Jp i) (by rw[JC]; exact nZ hp) ?_
  refine st ?_;left;refine#[cK e1,ae (Jp _) (c8 hpu) (ae #v[] rfl ?_)]
  refine sU (az (ps.take i)) (λj ys Z2 S2=>(∃a1,Z2=[td,a1,gV (.int ps[i]),gV R,gV (au u)])/\ys=((ps.take i).take j).map (λq=>W.int (bH bs u ps[i] q))/\Ka S1 S2) rfl rfl rfl ?_ ?_ ?_
  ·dsimp only[wE,wP,wV,wG,wN];refine ab (a:=(.tup (az (ps.take i)),S1)) ?_ #[rfl,#[td,rfl],rfl,.refl];simp only[lP,d8];unfold az;rw[Mh]
  ·rintro j w ys Z2 S2 hw ⟨⟨a1,rfl⟩,rfl,k2⟩;have hjl:j < (ps.take i).length:=by
    have:=(Jz.mp hw).1;unfold az at this
    rwa [Jb]at this
   have hq:(ps.take i)[j]?=gV (ps.take i)[j]:=Ju hjl;cases(nZ hq).symm.trans hw;have hj:j < i:=by rw[JQ]at hjl; omega
   have eq:(ps.take i)[j]=ps[j]'∅:=MV
   generalize(ps.take i)[j]=q at hq eq ⊢;refine ab (show eQ (.nm 1) (.int (q:Jk)) [td,a1,gV (.int ps[i]),gV R,gV (au u)] S2=gV ([td,gV (.int (q:Jk)),gV (.int ps[i]),gV R,gV (au u)],S2)from rfl) ?_
   dsimp only[ig,wC,wE,wA,wV,wG];subst hR0;refine#[λ_=>uQ (d:=d) G hb hl hu hpu (by rw[eq]; exact hps _ (Kg _)) ?_ #[#[_,rfl],?_,k2],λz=>by cases z]
   ·rw[eq];intro h;have:=(Lj hnd).mp h;omega
   ·rw[JV,hq];simp
  ·rintro ys Z2 S2 ⟨_,rfl,k2⟩;rw[show(az (ps.take i)).length=(ps.take i).length from Jb ..,J5]
   refine#[lU (by rw[Jb,JQ]; omega),eT ah ?_]
   have e2:=aq (u:=O.lst ((ps.take i).map λq=>W.int (bH bs u ps[i] q))) (k2.get _ _ e1)
   refine kU e2 (by rw[Jb,JQ]; omega) (aR (hn _ _ #[_,_,rfl,?_,((k1.trans k2).trans .push).late (Jo _)]))
   rw[bg e2];have ep:(al bs u ps)[i]?=gV ((u.getD ps[i] (0,[])).1,(ps.take i).map λq=>bH bs u ps[i] q):=by
    unfold al;rw[Jl,LA hi',J4,getD_some hp]
   rw[JV,ep];simp[ay,PK]
 ·rintro Z S1 ⟨a4,a5,rfl,e1,k1⟩;rw[JC,<- aO bs u ps,J5]at e1;refine hK _ _ (st ?_);left;exact eT e1 (k _ k1)
def jY (G:Gen defs)(k:Q (.ref S.length,S++[.lst (am.map λt=>W.tup (az t))])):wO (aF (ar defs fuel (d+1)) "_law_turns" 0 [] S) Q:=by
 refine aw G.turns rfl rfl λQ' hR=>?_
 dsimp only[ga];refine st ?_;dsimp only[wS,wE,wA];exact hR _ _ k
def dh (bt:Jg->Jg->JL):∀n:Jg,argBest bt n<=n
 | 0=>Jo _
 | n+1=>by have:=dh bt n; simp only[argBest]; split <;> omega
def iO (G:Gen defs){m0 b0:W}{ns:Ja JG}{bs:Ja Jk}{a:Jg}{u:Wd}(hb:GoodB bs)(hl:ns.length=bs.length)(hu:GoodW a bs.length u)(h3:u.length=3)(k:∀S',Ka S S'->Q (au (cj bs u),S')) :
  wO (aF (ar defs fuel (d+3)) "_law_figure" 2 [.tup [m0,.tup (JA aE ns bs),b0],au u] S) Q:=by
 refine aw G.figure rfl rfl λQ' hR=>?_
 replace k:∀S',Ka S S'->Q' (.rt (au (cj bs u)),S'):=λS' a=>hR _ _ (k S' a)
 clear hR;show wZ _ _ dL [gV (.tup [m0,.tup (JA aE ns bs),b0]),gV (au u)] S Q';generalize hR0:W.tup [m0,.tup (JA aE ns bs),b0]=R;dsimp only[dL];refine st ?_;dsimp only[wS,wE,wA];refine sV S.length (am.map λt=>W.tup (az t)) (λi ys Z2 S2=>(∃a1,Z2=[td,a1,gV R,gV (au u)])/\ys=((am.take i).map λt=>au (al bs u t))/\Ka (S++[.lst (am.map λt=>W.tup (az t))]) S2) rfl rfl rfl ?_ ?_ ?_ ?_
 ·dsimp only[wE,wA];exact jY (d:=d+1) G #[rfl,#[td,rfl],rfl,.refl]
 ·rintro i ys Z2 S2 ⟨_,_,k2⟩;exact k2.get _ _ ah
 ·rintro i w ys Z2 S2 hw ⟨⟨a1,rfl⟩,rfl,k2⟩;rw[Jl,Jf]at hw;obtain⟨t,ht,rfl⟩:=hw;have ht3:(∀p∈t,p < 3)/\t.Nodup/\t.length < 1000:=by
   have:∀t∈am,(∀p∈t,p < 3)/\t.Nodup/\t.length < 1000:=by decide
   exact this t (Jq ht)
  refine ab (show eQ (.nm 1) (.tup (az t)) [td,a1,gV R,gV (au u)] S2=gV ([td,gV (.tup (az t)),gV R,gV (au u)],S2)from rfl) ?_
  dsimp only[ig,wC,wE,wA,wV,wG];subst hR0;refine#[λ_=>xX (d:=d) G hb hl hu (λp hp=>by rw[h3]; exact ht3.1 p hp) ht3.2.1 ht3.2.2 λS3 k3=>#[#[_,rfl],?_,k2.trans k3],λz=>by cases z]
  rw[JV,ht];simp
 ·rintro ys Z2 S2 ⟨_,rfl,k2⟩;have e:((am.take (am.map λt=>W.tup (az t)).length).map λt=>au (al bs u t))=(am.map (al bs u)).map au:=by
   rw[Jb,J5,KU]; rfl
  rw[e];refine#[gb rfl,ab (a:=(au (cj bs u),S2++[.lst ((am.map (al bs u)).map au)])) ?_ (k _ ((Ka.push.trans k2).trans .push))];simp only[Bi.fn,An,aK ah,Ch];rw[JK #[by have:=jp (am.map (al bs u)); unfold eA; omega,gE _]]
  unfold cj;have hlt:hJ ((am.map (al bs u)).map cy) < (am.map (al bs u)).length:=Pd (dh _ _) (by decide:5 < 6)
  rw[Jl,ak (d:=[]) hlt];rfl
end
abbrev ac (xs:Ja Jk):Ja W:=xs.map W.int
abbrev gd (us:Ja Wd):Ja Wd:=eO (uy (us.map cy)) [] us
def xY {α β:Type}{lt:Jg->Jg->JL}{d:α}{d':β}{f:α->β}{us:Ja α}:eO lt d' (us.map f)=(eO lt d us).map f:=by
 unfold eO;rw[Jb];split
 ·rfl
 ·rw[KU];refine Kk λi hi=>?_
  have hl:i < us.length:=nI ∅ i hi
  simp[hl]
def qW {S:aa}{x:W}{us:Ja Wd}(h:dD S x=gV (us.map au))(h64:us.length < 64)(hne:∀u∈us,u≠[]):iF [x] S=gV (.ref S.length,S++[.lst ((gd us).map au)]):=by
 have ok:nH (us.map cy)=true:=by
  unfold nH;simp only[Jj,K7,JP,Jb];exact#[#[h64,by have:=jp us; unfold eA; omega],.inr #[DW us hne,gE us]]
 simp only[iF,h,Ch];rw[JK ok,xY (d:=[])];rfl
abbrev b9 (ms ns:Ja JG)(bs:Ja Jk)(us:Ja Wd):W:=.tup [.tup (ms.map W.str),.tup (JA aE ns bs),.tup (us.map au)]
structure GoodN (ms ns:Ja JG):Prop where
 name:∀y∈ms++ns,Name y
 nd:(qU++(ms++ns)).Nodup
def GoodW.nil {a n:Jg}:GoodW a n []:=#[λk p h=>(by simp at h),λk p h=>(by simp at h),λk p h=>(by simp at h)]
def GoodW.snoc {a n:Jg}{u:Wd}{m:Jk}{ws:Ja Jk}(h:GoodW a n u)(h1:0<=m/\m < a)(h2:ws.length=u.length)(h3:∀w∈ws,0<=w/\w < (n:Jk)):GoodW a n (u++[(m,ws)]):=by
 have key:∀(k:Jg) (p:Pt),(u++[(m,ws)])[k]?=gV p->u[k]?=gV p\/(k=u.length/\p=(m,ws)):=λk p e=>by
  rcases Pz k u.length with hk|hk
  ·rw[JZ hk]at e; exact .inl e
  ·rw[J9 hk]at e;have:k - u.length=0:=by
    have:=(Jz.mp e).1;simp at this; omega
   rw[this]at e;cases e;exact .inr #[∅,rfl]
 refine#[λk p e=>?_,λk p e=>?_,λk p e=>?_] <;> rcases key k p e with e|⟨rfl,rfl⟩
 ·exact h.mark k p e
 ·exact h1
 ·exact h.len k p e
 ·exact h2
 ·exact h.way k p e
 ·exact h3
def GoodB.inv {bs:Ja Jk}(h:GoodB bs):∀k:Jg,k < bs.length->bs.getD (bs.getD k 0).toNat 0=k:=by
 rcases h with rfl|rfl|rfl|rfl|rfl|rfl <;> decide
def GoodB.at {bs:Ja Jk}(h:GoodB bs){x:Jk}(h0:0<=x)(h1:x < bs.length):bs[x.toNat]?=gV (bs.getD x.toNat 0)/\0<=bs.getD x.toNat 0/\bs.getD x.toNat 0 < bs.length:=by
 obtain⟨b,h2,h3⟩:=h.rng x.toNat ∅
 rw[getD_some h2];exact#[h2,h3]
def qX {S:aa}{x:W}{us:Ja Wd}{Q:QW}(h:dD S x=gV (us.map au))(h64:us.length < 64)(hne:∀u∈us,u≠[])(q:Q (.ref S.length,S++[.lst ((gd us).map au)])):wO (Bi.sorted.fn [x] S) Q:=by
 refine ab ?_ q;exact qW h h64 hne
abbrev xZ:Ja (Jg×Jg):=[(1,1),(2,1),(3,1),(1,2),(1,2),(2,2),(2,2),(3,2),(1,3),(1,3),(2,3)]
def ya:∀p∈xZ,1<=p.1/\p.1<=3/\1<=p.2/\p.2<=3/\p.1*p.2<=6:=by decide
abbrev kX:Jg->Ja (Ja Jk)
 | 1=>[[0]]
 | 2=>[[0,1],[1,0]]
 | _=>[[0,1,2],[1,0,2],[0,2,1]]
def yb:∀n:Jg,1<=n->n<=3->(∀b∈kX n,GoodB b/\b.length=n)/\0 < (kX n).length/\(kX n).length<=3
 | 1,_,_=>#[λb h=>by cases Jv.mp h; exact#[.inl rfl,rfl],#v[],#v[]]
 | 2,_,_=>#[λb h=>by
   rcases JR.mp h with rfl|h
   ·exact#[.inr (.inl rfl),rfl]
   ·cases Jv.mp h; exact#[.inr (.inr (.inl rfl)),rfl],#v[],#v[]]
 | 3,_,_=>#[λb h=>by
   rcases JR.mp h with rfl|h
   ·exact#[.inr (.inr (.inr (.inl rfl))),rfl]
   ·rcases JR.mp h with rfl|h
    ·exact#[.inr (.inr (.inr (.inr (.inl rfl)))),rfl]
    ·cases Jv.mp h; exact#[.inr (.inr (.inr (.inr (.inr rfl)))),rfl],#v[],#v[]]
 | 0,h,_=>absurd h #v[]
 | n+4,_,h=>absurd h ∅
section
variable{defs:Ja (JG×Df)}{fuel d:Jg}{S:aa}{r:Jg}{Q:QW}
def Bh (G:Gen defs)(hf:Fl S r)(k:∀(a n:Jg) S',1<=a->a<=3->1<=n->n<=3->a*n<=6->Fl S' r->Kp r S S'->Q (.tup [.int a,.int n],S')) :
  wO (aF (ar defs fuel (d+2)) "_law_sizes" 1 [.ref r] S) Q:=by
 refine aw G.sizes rfl rfl λQ' hR=>?_
 show wZ _ _ eE [gV (.ref r),td] S Q';dsimp only[eE];refine st ?_;dsimp only[wS,wE,wA,Jr];refine st ?_;left;refine aU (d:=d) G.pick (hf.ka .push) #v[] #v[] λv S1 v0 v1 f1 k1=>?_
 have e:=k1.get _ _ (Ma hf.lt) ah;obtain⟨p,hp,ep⟩:=nY (f:=λp:Jg×Jg=>W.tup [.int p.1,.int p.2]) (xs:=xZ) (i:=v.toNat) (by show v.toNat < 11; omega)
 obtain⟨a1,a3,n1,n3,an⟩:=ya p hp;exact kS e v0 ep (hR _ _ (k _ _ _ a1 a3 n1 n3 an f1 (Kp.push.trans k1)))
def Bj (G:Gen defs){n:Jg}(hf:Fl S r)(h1:1<=n)(h3:n<=3)(k:∀(bs:Ja Jk) S',GoodB bs->bs.length=n->Fl S' r->Kp r S S'->Q (.tup (ac bs),S')) :
  wO (aF (ar defs fuel (d+2)) "_law_backs" 2 [.ref r,.int n] S) Q:=by
 refine aw G.backs rfl rfl λQ' hR=>?_
 replace k:∀(bs:Ja Jk) S',GoodB bs->bs.length=n->Fl S' r->Kp r S S'->Q' (.rt (.tup (ac bs)),S'):=λz S' a b c e=>hR _ _ (k z S' a b c e)
 clear hR;show wZ _ _ eC [gV (.ref r),gV (.int n),td] S Q';dsimp only[eC];nofun
 left;dsimp only[gZ,aV];obtain⟨hg,g0,g3⟩:=yb n h1 h3;have fin:∀(t:Jg) (S1:aa),S.length<=t->S1[t]?=gV (.lst ((kX n).map λb=>.tup (ac b)))->Ka S S1->K [gV (.ref r),gV (.int n),gV (.ref t)] S1:=by
  intro t S1 ht et ka;refine hK _ _ (st ?_);left;refine pz et ?_;rw[Jb];refine aU (d:=d) G.pick (hf.ka ka) ∅ ∅ λv S2 v0 v1 f2 k2=>?_
  have e2:=k2.get _ _ (by have:=hf.lt; omega) et
  obtain⟨b,hb,eb⟩:=nY (f:=λb:Ja Jk=>W.tup (ac b)) (xs:=kX n) (i:=v.toNat) ∅
  exact kS e2 v0 eb (k b S2 (hg b hb).1 (hg b hb).2 f2 ((ka.kp r).trans k2))
 clear hK g0 g3 hg;rcases(show n=1\/n=2\/n=3 by omega)with rfl|rfl|rfl
 ·exact dv (i:=0) ah rfl (fin _ _ (Jo _) (aq (aq (aq ah))) (Ka.push.trans (Ka.push.trans (Ka.push.trans .push))))
 ·exact dv (i:=1) ah rfl (fin _ _ (by simp) (aq (aq ah)) (Ka.push.trans (Ka.push.trans (Ka.push.trans .push))))
 ·exact dv (i:=2) ah rfl (fin _ _ (by simp only[Je]; omega) (aq ah) (Ka.push.trans (Ka.push.trans (Ka.push.trans .push))))
def gF (hfu:20 < fuel)(G:Gen defs){a:Jg}{bs:Ja Jk}{x:W}{us:Ja Wd}(hf:Fl S r)(ha:a<=3)(hb:bs.length<=3)(hx:∀S',Kp r S S'->dD S' x=gV (us.map au))(h64:us.length < 64)(hne:∀u∈us,u≠[])
  (k:∀(ms ns:Ja JG) S',ms.length=a->ns.length=bs.length->GoodN ms ns->Fl S' r->Kp r S S'->Q (b9 ms ns bs (gd us),S')) :
  wO (aF (ar defs fuel (d+5)) "_law_rule_of" 4 [.ref r,.int a,.tup (ac bs),x] S) Q:=by
 refine aw G.rule_of rfl rfl λQ' hR=>?_
 replace k:∀(ms ns:Ja JG) S',ms.length=a->ns.length=bs.length->GoodN ms ns->Fl S' r->Kp r S S'->Q' (.rt (b9 ms ns bs (gd us)),S'):=λz y S' a b c e f=>hR _ _ (k z y S' a b c e f)
 clear hR;show wZ _ _ dt [gV (.ref r),gV (.int a),gV (.tup (ac bs)),gV x,td,td] S Q';have hbl:(ac bs).length=bs.length:=Jb ..;dsimp only[dt];nofun
 left;refine aD ?_;rw[hbl];dsimp only[cO,aV];refine Bg (d:=d) (m:=a+bs.length) hfu G hf ∅ λys S1 q2 q3 q4 f1 k1=>hK _ _ ?_
 clear hK K;have hzl:(JA aE (ys.drop a) bs).length=bs.length:=by
  rw[KJ,L9]; omega
 nofun
 dsimp only[wS,wE,wA,Jr];refine eB (bs.length:Jk) (λk zs Z2 S2=>(∃a1,Z2=[td,a1,gV (.tup (ac bs)),gV (.int a),gV (.tup (ys.map W.str))])/\zs=((JA aE (ys.drop a) bs).take k)/\S2=S1) rfl rfl rfl ∅ ?_ ?_ ?_
 ·dsimp only[wE,wA,wV,wG];refine aD ?_;rw[hbl];exact#[rfl,#[td,rfl],rfl,rfl]
 ·rintro i zs Z2 S2 hi ⟨⟨a1,rfl⟩,rfl,rfl⟩;clear hK;have hi':i < bs.length:=∅
  have h1:a+i < ys.length:=∅
  dsimp only[ig,wC,wE,wA,wV,wG,Jr,cO,aV];refine#[λ_=>ae ∅ (w:=.str ys[a+i]) ?_ (ae ∅ (w:=.int bs[i]) ?_ #[#[_,rfl],?_,rfl]),λz=>by cases z]
  ·rw[show((a:Jk)+(i:Jk)).toNat=a+i by omega,Jl,Ju h1]; rfl
  ·unfold ac;rw[JC,Jl,Ju hi']; rfl
  ·have ez:(JA aE (ys.drop a) bs)[i]?=gV (aE ys[a+i] bs[i]):=jr (by rw[List.getElem?_drop]; exact Ju h1) (Ju hi')
   rw[JV,ez];rfl
 ·rintro zs Z2 S2 ⟨_,rfl,rfl⟩;rw[JC,<- hzl,J5];refine#[lU ∅,eT ah (hK _ _ ?_)]
  clear hK K;refine st ?_;dsimp only[wS,wE,wA,wP,wV,wG,wN];have hs:lP (.tup (ys.map W.str)) td (gV (a:Jk)) (S2++[O.lst (JA aE (ys.drop a) bs)])=gV (.tup ((ys.take a).map W.str),S2++[O.lst (JA aE (ys.drop a) bs)]):=by
   simp only[lP,d8];rw[Mh]
  refine ab hs (qX (hx _ (k1.trans .push)) h64 hne (eT ah ?_));refine k (ys.take a) (ys.drop a) _ ?_ ?_ #[?_,?_] ((f1.ka .push).ka .push) (k1.trans (Kp.push.trans .push))
  ·rw[JQ]; omega
  ·rw[L9]; omega
  ·rw[Mk]; exact q3
  ·rw[Mk]; exact q4
def fB (hfu:20 < fuel)(G:Gen defs){a:Jg}{bs:Ja Jk}(hf:Fl S r)(ha:a<=3)(hb:bs.length<=3)
  (k:∀(ms ns:Ja JG) S',ms.length=a->ns.length=bs.length->GoodN ms ns->Fl S' r->Kp r S S'->Q (b9 ms ns bs [],S')) :
  wO (aF (ar defs fuel (d+5)) "_law_rule_of" 4 [.ref r,.int a,.tup (ac bs),.tup []] S) Q:=
 gF hfu G hf ha hb (us:=[]) (λ_ _=>rfl) #v[] (λ_ h=>nomatch h) k
def draws {M:JG->FF}{Z:Fm}{elt e:E}{cap:Ja (Ji Jg)}{n i:Jg}{R:Fm}(oe:dH elt=true)(oi:dH e=true)(h1:i<=1000)(hc:fj cap Z=td::td::R)(hf:Fl S r)(he:∀Q:QW,Q (.int i,S)->wE M e Z S Q)
  (hp:∀(a:Ji W) (S1:aa) (Q:QW),Fl S1 r->(∀v S',0<=v->v < (n:Jk)->Fl S' r->Kp r S1 S'->Q (.int v,S'))->wE M elt (td::a::R) S1 Q)
  (k:∀(vs:Ja Jk) S',vs.length=i->(∀w∈vs,0<=w/\w < (n:Jk))->Fl S' r->Kp r S S'->Q (.ref S'.length,S'++[.lst (ac vs)])) :
  Wp (aA M (.comp elt (.nm 1) (.rng #v[e]) .nil cap) Z S) Q:=by
 refine eB (i:Jk) (λj ys Z2 S3=>(∃a1,Z2=td::a1::R)/\(∃vs:Ja Jk,ys=ac vs/\vs.length=j/\∀w∈vs,0<=w/\w < (n:Jk))/\Fl S3 r/\Kp r S S3) oi oe rfl ∅ (he _ #[rfl,#[td,hc],#[[],rfl,rfl,λ_ h=>nomatch h],hf,.refl]) ?_ ?_
 ·rintro j ys Z2 S3 hj ⟨⟨a1,rfl⟩,⟨vs,rfl,hvl,hv⟩,f3,k3⟩;refine#[λ_=>hp _ _ _ f3 λv S4 v0 v1 f4 k4=>#[#[_,rfl],#[vs++[v],(JI (l₁:=vs) (l₂:=[v])).symm,by rw[Je,hvl]; rfl,λw hw=>?_],f4,k3.trans k4],λz=>by cases z]
  rcases JN.mp hw with h|h
  ·exact hv w h
  ·rw[Jv.mp h]; exact#[v0,v1]
 ·rintro ys Z2 S3 ⟨_,⟨vs,rfl,hvl,hv⟩,f3,k3⟩;rw[JC]at hvl;exact#[lU (by rw[show(ac vs).length=vs.length from Jb ..]; omega),k vs S3 hvl hv f3 k3]
def n8 (G:Gen defs){a n:Jg}(hf:Fl S r)(ha:0 < a)(ha3:a<=3)(hn:0 < n)(hn3:n<=3)(k:∀(u:Wd) S',u.length=3->GoodW a n u->Fl S' r->Kp r S S'->Q (au u,S')) :
  wO (aF (ar defs fuel (d+2)) "_law_free_three" 3 [.ref r,.int a,.int n] S) Q:=by
 refine aw G.free_three rfl rfl λQ' hR=>?_
 replace k:∀(u:Wd) S',u.length=3->GoodW a n u->Fl S' r->Kp r S S'->Q' (.rt (au u),S'):=λz S' a b c e=>hR _ _ (k z S' a b c e)
 clear hR;show wZ _ _ ci [gV (.ref r),gV (.int a),gV (.int n),td,td] S Q';dsimp only[ci];have hrt:=hf.lt;refine st ?_;dsimp only[wS,wE,wA,Jr];nofun
 refine bC 3 (λk Z S'=>∃a4 u,Z=[gV (.ref r),gV (.int a),gV (.int n),gV (.ref S.length),a4]/\S'[S.length]?=gV (.lst (u.map ay))/\u.length=k/\GoodW a n u/\Fl S' r/\Kp r S S') rfl rfl #v[] #[rfl,td,[],rfl,ah,rfl,.nil,hf.ka .push,.push] ?_ ?_
 ·rintro i Z S1 hi ⟨a4,u,rfl,e1,hul,hu,f1,k1⟩ Q2 hn' _;clear hK;refine st ?_;left;refine#[cK e1,aU (d:=d) G.pick f1 ∅ ∅ λv S2 v0 v1 f2 k2=>?_]
  have e2:=k2.get _ _ ∅ e1
  refine draws (n:=n) (i:=i) (R:=[gV (.ref r),gV (.int n)]) rfl rfl ∅ rfl f2 (λQ q=>q) (λa S1 Q f q=>aU (d:=d) G.pick f ∅ ∅ q) λvs S3 hvl hv f3 k3=>?_
  have e3:=aq (u:=O.lst (ac vs)) (k3.get _ _ ∅ e2)
  refine eT ah (kU e3 (by rw[Jb]; omega) (aR (hn' _ _ #[_,u++[(v,vs)],rfl,?_,by rw[Je,hul]; rfl,hu.snoc #[v0,v1] (hvl.trans hul.symm) hv,(f3.ka .push).own hrt,(k1.trans (k2.trans (k3.trans .push))).late (Jo _)])))
  rw[bg e3,JI]; rfl
 ·rintro Z S1 ⟨a4,u,rfl,e1,hul,hu,f1,k1⟩;refine hK _ _ (st ?_);left;exact eT e1 (k u _ hul hu f1 k1)
end
abbrev cM (n:Jg):Ja Jk:=(Jw n).map λ(k:Jg)=>(k:Jk)
abbrev pG (a n:Jg):Ja Wd:=(cM a).flatMap λm0=>(cM a).flatMap λm1=>(cM a).flatMap λm2=>(cM n).flatMap λw1=>(cM n).flatMap λw2=>(cM n).map λw3=>[(m0,[]),(m1,[w1]),(m2,[w2,w3])]
abbrev aN (a:Jg)(bs:Ja Jk):Ja Wd:=((pG a bs.length).map (cj bs)).eraseDups
def aL {n:Jg}{x:Jk}(h0:0<=x)(h1:x < n):x∈cM n:=Jy.mpr #[x.toNat,Jt.mpr ∅,∅]
def uR {a n:Jg}{u:Wd}(h:GoodW a n u)(h3:u.length=3):u∈pG a n:=by
 match u,h3 with
 | [(m0,w0),(m1,w1),(m2,w2)],_=>
  have l0:=h.len 0 _ rfl;have l1:=h.len 1 _ rfl;have l2:=h.len 2 _ rfl;simp only at l0 l1 l2
  match w0,l0 with
  | [],_=>
   match w1,l1 with
   | [x],_=>
    match w2,l2 with
    | [y,z],_=>
     have a0:=h.mark 0 _ rfl;have a1:=h.mark 1 _ rfl;have a2:=h.mark 2 _ rfl;have b1:=h.way 1 _ rfl x (by simp)
     have b2:=h.way 2 _ rfl y (by simp)
     have b3:=h.way 2 _ rfl z (by simp)
     unfold pG;simp only[Kb,Jy];exact#[m0,aL a0.1 a0.2,m1,aL a1.1 a1.2,m2,aL a2.1 a2.2,x,aL b1.1 b1.2,y,aL b2.1 b2.2,z,aL b3.1 b3.2,rfl]
def Bk {a:Jg}{bs:Ja Jk}{u:Wd}(h:GoodW a bs.length u)(h3:u.length=3):cj bs u∈aN a bs:=by
 unfold aN;rw[MM];exact Jy.mpr #[u,uR h h3,rfl]
structure SizeOk (a:Jg)(bs:Ja Jk):Prop where
 pos:0 < a
 good:GoodB bs
 most:a*bs.length<=6
 a3:a<=3
def SizeOk.n3 {a:Jg}{bs:Ja Jk}(h:SizeOk a bs):0 < bs.length/\bs.length<=3:=by
 rcases h.good with rfl|rfl|rfl|rfl|rfl|rfl <;> decide
def HU:(aN 1 [0]).length < 64/\(aN 2 [0]).length < 64/\(aN 3 [0]).length < 64:=by decide +kernel
def G0:(aN 1 [0,1]).length < 64/\(aN 2 [0,1]).length < 64/\(aN 1 [1,0]).length < 64/\(aN 2 [1,0]).length < 64:=by decide +kernel
def HV:(aN 1 [0,1,2]).length < 64/\(aN 1 [1,0,2]).length < 64/\(aN 1 [0,2,1]).length < 64:=by decide +kernel
def HW:(aN 3 [0,1]).length < 64:=by decide +kernel
def HX:(aN 3 [1,0]).length < 64:=by decide +kernel
def HY:(aN 2 [0,1,2]).length < 64:=by decide +kernel
def HZ:(aN 2 [1,0,2]).length < 64:=by decide +kernel
def Ic:(aN 2 [0,2,1]).length < 64:=by decide +kernel
def og {a:Jg}{bs:Ja Jk}(h:SizeOk a bs):(aN a bs).length < 64:=by
 obtain⟨h0,hb,hm,h3⟩:=h;have ha:a=1\/a=2\/a=3:=∅
 rcases hb with rfl|rfl|rfl|rfl|rfl|rfl <;> rcases ha with rfl|rfl|rfl
 ·exact HU.1
 ·exact HU.2.1
 ·exact HU.2.2
 ·exact G0.1
 ·exact G0.2.1
 ·exact HW
 ·exact G0.2.2.1
 ·exact G0.2.2.2
 ·exact HX
 ·exact HV.1
 ·exact HY
 ·simp at hm
 ·exact HV.2.1
 ·exact HZ
 ·simp at hm
 ·exact HV.2.2
 ·exact Ic
 ·simp at hm
def iP (bs:Ja Jk)(u:Wd):∃t∈am,cj bs u=al bs u t:=by
 have h7:(am.map (al bs u)).length=6:=by rw[Jb]; rfl
 have h8:((am.map (al bs u)).map cy).length=6:=by rw[Jb,h7]
 have hlt:hJ ((am.map (al bs u)).map cy) < (am.map (al bs u)).length:=by
  unfold hJ;have h6:=dh (uy ((am.map (al bs u)).map cy)) (((am.map (al bs u)).map cy).length - 1);rw[h7]; omega
 unfold cj;rw[getD_some (Ju hlt)];obtain⟨t,ht,e⟩:=Jy.mp (Kg hlt);exact#[t,ht,e.symm]
def Bl (bs:Ja Jk)(u:Wd):cj bs u≠[]:=by
 obtain⟨t,ht,e⟩:=iP bs u;rw[e];have:∀t∈am,t≠[]:=by decide
 have h:=this t ht;intro z;have hl:(al bs u t).length=t.length:=by simp[al]
 rw[z]at hl;exact h (MO.mp hl.symm)
def pH:∀ {xs ys:Ja Jk},xs.map T.int=ys.map T.int->xs=ys
 | [],[],_=>rfl
 | [],_::_,h=>by cases h
 | _::_,[],h=>by cases h
 | x::xs,y::ys,h=>by
  rw[KD,KD]at h;injection h with h1 h2
  injection h1 with h1
  rw[h1,pH h2]
def Bm {p q:Pt}(h:g5 p=g5 q):p=q:=by
 unfold g5 at h;injection h with h
 injection h with h1 h2
 injection h1 with h1
 injection h2 with h2 _
 injection h2 with h2
 exact Rs h1 (pH h2)
def dO {u v:Wd}(h:cy u=cy v):u=v:=by
 unfold cy at h;injection h with h
 have inj:∀ {u v:Wd},u.map g5=v.map g5->u=v:=by
  intro u
  induction u with
  | nil=>intro v h; cases v with
   | nil=>rfl
   | cons _ _=>cases h
  | cons p u ih=>intro v h; cases v with
   | nil=>cases h
   | cons q v=>
    rw[KD,KD]at h;injection h with h1 h2
    rw[Bm h1,ih h2]
 exact inj h
def gG {U:Ja (T×W)}{k:T}{v:W}:(d3 U k v).map (·.1)=if k∈U.map (·.1)then U.map (·.1)else U.map (·.1)++[k]:=by
 have hany:(U.any λp=>decide (p.1=k))=decide (k∈U.map (·.1)):=by
  induction U with
  | nil=>rfl
  | cons p U ih=>
   rw[LZ,ih,KD]
   by_cases e:p.1=k
   ·subst e; simp
   ·rw[JX e,NG];have:(k∈p.1::U.map (·.1))=(k∈U.map (·.1)):=by simp[Ne.symm e]
    simp only[this]
 unfold d3;rw[hany]
 by_cases h:k∈U.map (·.1)
 ·rw[JK h,JK (Kf h),KU];refine Kk λp _=>?_
  show(if p.1=k then(p.1,v)else p).1=p.1
  split <;> rfl
 ·rw[JU h,JU (by simpa using h),JI]
  rfl
structure FigD (L:Ja Wd)(U:Ja (T×W))(fs:Ja Wd):Prop where
 keys:U.map (·.1)=fs.map cy
 nd:fs.Nodup
 mem:∀f∈fs,f∈L
def FigD.nil {L:Ja Wd}:FigD L [] []:=#[rfl,OA,λ_ h=>nomatch h]
def FigD.len {L:Ja Wd}{U:Ja (T×W)}{fs:Ja Wd}(h:FigD L U fs):U.length=fs.length/\fs.length<=L.length:=by
 have:=congrArg Rr h.keys;rw[Jb,Jb]at this;exact#[this,jo fs L h.nd h.mem]
def FigD.put {L:Ja Wd}{U:Ja (T×W)}{fs:Ja Wd}{f:Wd}{v:W}(h:FigD L U fs)(hf:f∈L):∃fs',FigD L (d3 U (cy f) v) fs':=by
 by_cases hm:f∈fs
 ·refine#[fs,?_,h.nd,h.mem];rw[gG,JK (by rw[h.keys]; exact Jy.mpr #[f,hm,rfl]),h.keys]
 ·refine#[fs++[f],?_,?_,λg hg=>?_]
  ·rw[gG,JU,h.keys,JI]
   ·rfl
   ·rw[h.keys];intro z;obtain⟨g,hg,e⟩:=Jy.mp z;exact hm (dO e ▸ hg)
  ·rw[Mm];refine#[h.nd,by simp,λa ha b hb e=>?_]
   rw[Jv.mp hb]at e;exact hm (e ▸ ha)
  ·rcases JN.mp hg with h'|h'
   ·exact h.mem g h'
   ·rw[Jv.mp h']; exact hf
def FigD.items {S:aa}{t:Jg}{L:Ja Wd}{U:Ja (T×W)}{fs:Ja Wd}(h:FigD L U fs)(e:S[t]?=gV (.dic U)):dD S (.ref t)=gV (fs.map au):=by
 simp only[dD,nV e,bP e,J4];congr 1;have:(U.map (·.1)).map T.w=(fs.map cy).map T.w:=by rw[h.keys]
 rw[KU,KU]at this
 calc U.map (λp=>p.1.w)=U.map (T.w∘λx=>x.1):=rfl
  _=fs.map (T.w∘cy):=this
  _=fs.map au:=by
   refine Kk λf _=>?_
   exact xR f
def kY {a:Jg}{bs:Ja Jk}{f:Wd}(h:f∈aN a bs):f≠[]:=by
 unfold aN at h;rw[MM]at h;obtain⟨u,_,rfl⟩:=Jy.mp h;exact Bl bs u
def yc {S:aa}{t:Jg}{U:Ja (T×W)}{u:Wd}{v:W}(h:S[t]?=gV (.dic U))(hl:U.length < sizeLine):iE (.ref t) (au u) v S=gV (S.set t (.dic (d3 U (cy u) v))):=by
 have hk:=jq u;unfold au at hk ⊢;simp only[iE,nB,h,hk];rw[JK hl]
structure RuleAt (a:Jg)(bs:Ja Jk)(ms ns:Ja JG)(gs:Ja Wd):Prop where
 size:SizeOk a bs
 ml:ms.length=a
 nl:ns.length=bs.length
 nm:GoodN ms ns
 nd:gs.Nodup
 mem:∀g∈gs,g∈aN a bs
abbrev DX (w:W):Prop:=∃a bs ms ns gs,w=b9 ms ns bs (gd gs)/\RuleAt a bs ms ns gs
section
variable{M:JG->FF}{fuel:Jg}{Z:Fm}{S:aa}{K:Fm->aa->Prop}{Q:QO}
def pI {i0:Jg}{e:E}{b:Ss}(oe:dH e=true)(ok:fY b=true)(he:wE M e Z S λp=>∃(j:Jk) (I:Jg->Fm->aa->Prop),p.1=.int j/\(-(2 ^ 62)<=j/\j < 2 ^ 62)/\I 0 Z p.2/\
  (∀(i:Jg) (Z:Fm) (S:aa),(i:Jk) < j->I i Z S->uO M fuel b (Z.set i0 (gV (.int i))) S (I (i+1)) Q)/\∀Z S,I j.toNat Z S->K Z S):Wp (fM M fuel (.loop (.nm i0) (.rng #v[e]) b) Z S) (pv K Q):=by
 obtain⟨w,S1,e1,j,I,rfl,hj,h0,hs,hend⟩:=bW oe he;have hl:(dc 0 j.toNat).length=j.toNat:=by simp[dc]
 refine fZ (mi:=.its (dc 0 j.toNat)) (S1:=S1) (xs:=dc 0 j.toNat) I ok ?_ (λ_ _ _ _=>rfl) rfl h0 (λi w Z S hw hI=>?_) λZ S hI=>hend Z S (hl ▸ hI)
 ·simp only[jQ,cX,dG,iG,qN,e1];rw[JK hj]
 ·rw[d4]at hw;split at hw
  ·rename_i hk;cases hw;rw[Nc];exact hs i Z S ∅ hI
  ·cases hw
def c9 {tg:Tg}{e:E}{b:Ss}(oe:dH e=true)(ok:fY b=true)(he:wE M e Z S λp=>∃(t:Jg) (xs:Ja W) (I:Jg->Fm->aa->Prop),p.1=.ref t/\I 0 Z p.2/\(∀i Z S,I i Z S->S[t]?=gV (.lst xs))/\
  (∀(i:Jg) (w:W) (Z:Fm) (S:aa),xs[i]?=gV w->I i Z S->wO (eQ tg w Z S) λq=>uO M fuel b q.1 q.2 (I (i+1)) Q)/\∀Z S,I xs.length Z S->K Z S):Wp (fM M fuel (.loop tg (.seq e) b) Z S) (pv K Q):=by
 obtain⟨w,S1,e1,t,xs,I,rfl,h0,hat,hs,hend⟩:=bW oe he;exact fZ (mi:=.live t) (S1:=S1) I ok (by simp only[jQ,eP,e1,aK (hat _ _ _ h0)]) (λi Z S h=>by simp only[MI.at,aK (hat _ _ _ h)]) (by simp only[MI.len,aK (hat _ _ _ h0),J4]) h0 hs hend
end
abbrev eU (t:Jk×Jk×Jk):W:=.tup [.int t.1,.int t.2.1,.int t.2.2]
abbrev Gi (a:Jg)(t:Jk×Jk×Jk):Prop:=(0<=t.1/\t.1 < a)/\(0<=t.2.1/\t.2.1 < a)/\(0<=t.2.2/\t.2.2 < a)
abbrev Ris (a:Jg)(t:Jk×Jk×Jk):Prop:=0<=t.1/\t.1<=t.2.1/\t.2.1<=t.2.2/\t.2.2 < a
def Ris.ok {a:Jg}{t:Jk×Jk×Jk}(h:Ris a t):Gi a t:=by
 obtain⟨h1,h2,h3,h4⟩:=h;exact#[#[∅,∅],#[∅,∅],#[∅,∅]]
abbrev vA (k:Jk):Wd:=[(k,[]),(k,[0]),(k,[0,0])]
abbrev RuleG (P:Jg->Ja Jk->Ja Wd->Prop)(w:W):Prop:=∃a bs ms ns gs,w=b9 ms ns bs (gd gs)/\RuleAt a bs ms ns gs/\P a bs gs
def RuleG.rule {P:Jg->Ja Jk->Ja Wd->Prop}{w:W}(h:RuleG P w):DX w:=let ⟨a,bs,ms,ns,gs,h1,h2,_⟩:=h; #[a,bs,ms,ns,gs,h1,h2]
def RuleG.imp {P P':Jg->Ja Jk->Ja Wd->Prop}{w:W}(h:RuleG P w)(k:∀a bs gs,P a bs gs->P' a bs gs):RuleG P' w:=let ⟨a,bs,ms,ns,gs,h1,h2,h3⟩:=h; #[a,bs,ms,ns,gs,h1,h2,k _ _ _ h3]
abbrev Bn (_:Jg)(bs:Ja Jk)(gs:Ja Wd):Prop:=bs=[0]/\∀g∈gs,∃k,g=vA k
abbrev pJ (a:Jg)(bs:Ja Jk)(gs:Ja Wd):Prop:=gs=[]\/∃f:Jk,(0<=f/\f < bs.length)/\bs.getD f.toNat 0=f/\∀g∈gs,∃(p0:Pt) (m1 w1:Jk) (p2:Pt),GoodW a bs.length [p0,(m1,[w1]),p2]/\g=cj bs [p0,(m1,[w1]),p2]/\w1≠f/\f∉p2.2
def FigD.has {L:Ja Wd}{U:Ja (T×W)}{fs:Ja Wd}(h:FigD L U fs){g:Wd}:g∈fs↔cy g∈U.map (·.1):=by
 rw[h.keys];exact#[λhg=>Jy.mpr #[g,hg,rfl],λhg=>by
  obtain⟨g',h1,h2⟩:=Jy.mp hg;exact dO h2 ▸ h1]
def FigD.putX {L:Ja Wd}{U:Ja (T×W)}{fs:Ja Wd}{f:Wd}{v:W}(h:FigD L U fs)(hf:f∈L):∃fs',FigD L (d3 U (cy f) v) fs'/\∀g,g∈fs'↔g∈fs\/g=f:=by
 obtain⟨fs',h'⟩:=h.put (v:=v) hf;refine#[fs',h',λg=>?_]
 rw[h'.has,h.has,gG]
 by_cases hk:cy f∈U.map (·.1)
 ·rw[JK hk];exact#[.inl,λh=>h.elim id λe=>e ▸ hk]
 ·rw[JU hk,JN,Jv];exact#[λh=>h.imp id dO,λh=>h.imp id λe=>by rw[e]]
def yd {S:aa}{Q:QW}{q:Jg}{a:Jg}{bs:Ja Jk}{ms ns:Ja JG}{fs0:Ja Wd}{U:Ja (T×W)}{fs:Ja Wd}{P:Jg->Ja Jk->Ja Wd->Prop}(h3:S[q]?=gV (.dic U))(h4:FigD (aN a bs) U fs)(hs:SizeOk a bs)(hml:ms.length=a)(hnl:ns.length=bs.length)(hnm:GoodN ms ns)(hP:P a bs fs)(k:∀w S',RuleG P w->Ka S S'->Q (w,S')) :
  wO (jP (b9 ms ns bs fs0) (.int 0) S) λp=>wO (jP (b9 ms ns bs fs0) (.int 1) p.2) λq'=>wO (Bi.sorted.fn [.ref q] q'.2) λs=>wO (Bi.tuple.fn [s.1] s.2) λz=>Q (.tup [p.1,q'.1,z.1],z.2):=by
 refine ae #v[] rfl (ae #v[] rfl ?_)
 have hl:=h4.len;exact qX (h4.items h3) (by have:=og hs; omega) (λf hf=>kY (h4.mem f hf)) (eT ah (k _ _ #[a,bs,ms,ns,fs,rfl,#[hs,hml,hnl,hnm,h4.nd,h4.mem],hP] .push))
def qY {S:aa}{q:Jg}{a:Jg}{bs:Ja Jk}{u:Wd}{U:Ja (T×W)}{fs:Ja Wd}{Q:aa->Prop}(h3:S[q]?=gV (.dic U))(h4:FigD (aN a bs) U fs)(hs:SizeOk a bs)(hu:GoodW a bs.length u)(hu3:u.length=3)
  (k:∀o fs',(∃U,(S.set q o)[q]?=gV (.dic U)/\FigD (aN a bs) U fs')->(∀g,g∈fs'↔g∈fs\/g=cj bs u)->Q (S.set q o)):wO (iE (.ref q) (au (cj bs u)) (.bl true) S) Q:=by
 have hl:=h4.len;have:=og hs;obtain⟨fs',h5,h6⟩:=h4.putX (v:=.bl true) (Bk hu hu3);exact ab (yc h3 (by rw[Kq]; omega)) (k _ fs' #[_,bg h3,h5] h6)
def Ig:∀k∈cM 1,vA k∈aN 1 [0]:=by decide +kernel
def Ih:∀k∈cM 2,vA k∈aN 2 [0]:=by decide +kernel
def Ii:∀k∈cM 3,vA k∈aN 3 [0]:=by decide +kernel
def Bo {a:Jg}{k:Jk}(h0:1<=a)(h3:a<=3)(hk:0<=k)(hk2:k < a):vA k∈aN a [0]:=by
 have ha:a=1\/a=2\/a=3:=∅
 rcases ha with rfl|rfl|rfl
 ·exact Ig k (aL hk hk2)
 ·exact Ih k (aL hk hk2)
 ·exact Ii k (aL hk hk2)
def Bp {a b:Jk}(h:vA a=vA b):a=b:=by
 unfold vA at h;injection h with h1 h2
 injection h1
def iQ:GoodB [0]:=.inl rfl
def sZ {S:aa}{i j:Jg}{xs:Ja W}(h1:S[i]?=gV (.lst xs))(h2:S[j]?=gV (.lst [])):aP .eq (.ref i) (.ref j) S=gV (.bl xs.isEmpty,S):=by
 show(gU S (19+1) (.ref i) (.ref j)).map _=_;simp only[gU,b6 h1,b6 h2];cases xs with
 | nil=>rfl
 | cons x xs=>rfl
def Bq {S:aa}{f:Jk}{ws:Ja Jk}:aP .notin (.int f) (.tup (ac ws)) S=gV (.bl (!decide (f∈ws)),S):=by
 have hf:(bB (.int f)&&(ac ws).all bB)=true:=by
  simp only[bB,LI,JB];intro x hx;obtain⟨z,_,rfl⟩:=Jy.mp hx;rfl
 have ha:((ac ws).any λz=>jz z (.int f))=decide (f∈ws):=by
  unfold ac;rw[Rk,KR,Lm,JP];exact#[λ#[x,h1,h2]=>by
   have:x=f:=by simpa [jz]using h2
   exact this ▸ h1,λh=>#[f,h,by simp[jz]]]
 show dC .notin (.int f) (.tup (ac ws)) S=_;simp only[dC,ud,Ae,eN,hf,LV,J4,ha]
section
variable{M:JG->FF}{fuel:Jg}{Z:Fm}{S:aa}{K:Fm->aa->Prop}{Q:QO}
def dw {i0:Jg}{a b:E}{bd:Ss}(i j:Jk)(I:Jg->Fm->aa->Prop)(oa:dH a=true)(ob:dH b=true)(ok:fY bd=true)(hj : -(2 ^ 62)<=i/\i < 2 ^ 62/\-(2 ^ 62)<=j/\j < 2 ^ 62)(he:wE M a Z S λp=>p.1=.int i/\wE M b Z p.2 λq=>q.1=.int j/\I 0 Z q.2)
  (hstep:∀(k:Jg) (Z:Fm) (S:aa),(k:Jk) < j - i->I k Z S->uO M fuel bd (Z.set i0 (gV (.int (i+k)))) S (I (k+1)) Q) (hend:∀Z S,I (j - i).toNat Z S->K Z S):Wp (fM M fuel (.loop (.nm i0) (.rng2 #v[a,b]) bd) Z S) (pv K Q):=by
 obtain⟨w,S1,e1,rfl,h1⟩:=bW oa he;obtain⟨w,S2,e2,rfl,h0⟩:=bW ob h1;have hl:(dc i (j - i).toNat).length=(j - i).toNat:=by simp[dc]
 refine fZ (mi:=.its (dc i (j - i).toNat)) (S1:=S2) (xs:=dc i (j - i).toNat) I ok ?_ (λ_ _ _ _=>rfl) rfl h0 (λk w Z S hw hI=>?_) λZ S hI=>hend Z S (hl ▸ hI)
 ·simp only[jQ,cX,dG,iG,iRng2,e1,e2];rw[JK hj]
 ·rw[d4]at hw;split at hw
  ·rename_i hk;cases hw;exact hstep k Z S ∅ hI
  ·cases hw
def ye {elt a b:E}{i0:Jg}{cs:Es}{cap:Ja (Ji Jg)}{Q:QW}(i j:Jk)(I:Jg->Ja W->Fm->aa->Prop)(oa:dH a=true)(ob:dH b=true)(oe:dH elt=true)(oc:nX cs=true)(hj : -(2 ^ 62)<=i/\i < 2 ^ 62/\-(2 ^ 62)<=j/\j < 2 ^ 62)(he:wE M a Z S λp=>p.1=.int i/\wE M b Z p.2 λq=>q.1=.int j/\I 0 [] (fj cap Z) q.2)
  (hstep:∀(k:Jg) (ys:Ja W) (Z:Fm) (S:aa),(k:Jk) < j - i->I k ys Z S->ig M elt cs (Z.set i0 (gV (.int (i+k)))) S (λy=>I (k+1) (ys++[y])) (I (k+1) ys))
  (hend:∀ys Z S,I (j - i).toNat ys Z S->ys.length<=sizeLine/\Q (.ref S.length,S++[.lst ys])):Wp (aA M (.comp elt (.nm i0) (.rng2 #v[a,b]) cs cap) Z S) Q:=by
 obtain⟨w,S1,e1,rfl,h1⟩:=bW oa he;obtain⟨w,S2,e2,rfl,h0⟩:=bW ob h1;have hl:(dc i (j - i).toNat).length=(j - i).toNat:=by simp[dc]
 refine kR (mi:=.its (dc i (j - i).toNat)) (S1:=S2) (xs:=dc i (j - i).toNat) I oe oc ?_ (λ_ _ _ _ _=>rfl) rfl h0 (λk w ys Z S hw hI=>?_) λys Z S hI=>hend ys Z S (hl ▸ hI)
 ·simp only[jQ,cX,dG,iG,iRng2,e1,e2];rw[JK hj]
 ·rw[d4]at hw;split at hw
  ·rename_i hk;cases hw;exact hstep k ys Z S ∅ hI
  ·cases hw
end
section
variable{defs:Ja (JG×Df)}{fuel d:Jg}{S:aa}{r:Jg}{Q:QW}
def pK (G:Gen defs){a:Jg}(ha:a<=3)(k:∀(q:Jg) (ts:Ja (Jk×Jk×Jk)) (S':aa),S'[q]?=gV (.lst (ts.map eU))->(∀t,t∈ts↔Ris a t)->S.length<=q->Ka S S'->Q (.ref q,S')) :
  wO (aF (ar defs fuel (d+1)) "_law_rising" 1 [.int a] S) Q:=by
 refine aw G.rising rfl rfl λQ' hR=>?_
 replace k:∀(q:Jg) (ts:Ja (Jk×Jk×Jk)) (S':aa),S'[q]?=gV (.lst (ts.map eU))->(∀t,t∈ts↔Ris a t)->S.length<=q->Ka S S'->Q' (.rt (.ref q),S'):=λq ts S' a b c e=>hR _ _ (k q ts S' a b c e)
 clear hR;show wZ _ _ dN [gV (.int a),td,td,td] S Q';dsimp only[dN];refine st ?_;dsimp only[wS,wE,wA,Jr];nofun
 refine bC (a:Jk) (λi Z S'=>∃(q:Jg) (ts:Ja (Jk×Jk×Jk)) (a2 a3:Ji W),Z=[gV (.int a),gV (.ref q),a2,a3]/\S'[q]?=gV (.lst (ts.map eU))/\(∀t,t∈ts↔Ris a t/\t.1 < i)/\S.length<=q/\ts.length<=9*i/\Ka S S') rfl rfl ∅ #[rfl,_,[],_,_,rfl,ah,λt=>#[λh=>(nomatch h),λh=>by have:=h.1.1; have:=h.2; omega],Jo _,Lq _,.push] ?_ ?_
 ·rintro i Z S1 hi ⟨q,ts,a2,a3,rfl,e1,ht,hq,hl,k1⟩ Q2 hn _;clear hK k;nofun
  refine dw (i:Jk) (a:Jk) (λj Z S'=>∃(q:Jg) (ts:Ja (Jk×Jk×Jk)) (a3:Ji W),Z=[gV (.int a),gV (.ref q),gV (.int i),a3]/\S'[q]?=gV (.lst (ts.map eU))/\(∀t,t∈ts↔Ris a t/\(t.1 < i\/(t.1=i/\t.2.1 < (i:Jk)+j)))/\S.length<=q/\ts.length<=9*i+3*j/\Ka S S') rfl rfl rfl ∅ #[rfl,rfl,q,ts,a3,rfl,e1,λt=>(ht t).trans #[λh=>#[h.1,.inl h.2],λh=>#[h.1,h.2.elim id λg=>by have:=h.1.2.1; omega]],hq,∅,k1] ?_ ?_
  ·rintro j Z S2 hj ⟨q,ts,a3,rfl,e2,ht,hq,hl,k2⟩ Q3 hn3 _;clear hK hn;refine st ?_;dsimp only[wS,wE,wV,wG,Jr];refine ye ((i:Jk)+j) (a:Jk) (λm ys Z2 S3=>(∃a1,Z2=[td,a1,gV (.int i),gV (.int ((i:Jk)+j))])/\(∃us:Ja (Jk×Jk×Jk),ys=us.map eU/\us.length=m/\∀t,t∈us↔t.1=i/\t.2.1=(i:Jk)+j/\(i:Jk)+j<=t.2.2/\t.2.2 < (i:Jk)+j+m)/\S3=S2) rfl rfl rfl rfl ∅ #[rfl,rfl,#[td,rfl],#[[],rfl,rfl,λ_=>#[λh=>(nomatch h),λh=>∅]],rfl] ?_ ?_
   ·rintro m ys Z2 S3 hm ⟨⟨a1,rfl⟩,⟨us,rfl,hul,hu⟩,rfl⟩;refine#[λ_=>#[#[_,rfl],#[us++[((i:Jk),(i:Jk)+j,(i:Jk)+j+m)],by rw[JI]; rfl,by rw[Je,hul]; rfl,λt=>?_],rfl],λz=>by cases z]
    obtain⟨t1,t2,t3⟩:=t;rw[JN,Jv,hu];simp only[MG];omega
   ·rintro ys Z2 S3 ⟨_,⟨us,rfl,hul,hu⟩,rfl⟩;refine#[lU (by rw[Jb]; omega),ab (nU (aq e2) ah ?_) (aR (hn3 _ _ #[_,ts++us,_,rfl,?_,λt=>?_,?_,?_,k2.trans (Ka.push.trans .push)]))]
    ·refine lU ?_;rw[Je,Jb,Jb];omega
    ·rw[JI]; exact ah
    ·rw[JN,ht,hu];unfold Ris;omega
    ·have:=k2.len;simp only[Je]; omega
    ·rw[Je]; omega
  ·rintro Z S2 ⟨q,ts,a3,rfl,e2,ht,hq,hl,k2⟩;exact hK _ _ (aR (hn _ _ #[q,ts,_,_,rfl,e2,λt=>by rw[ht]; unfold Ris; omega,hq,∅,k2]))
 ·rintro Z S1 ⟨q,ts,a2,a3,rfl,e1,ht,hq,hl,k1⟩;refine hK _ _ (st ?_);exact k q ts S1 e1 (λt=>by rw[ht]; unfold Ris; omega) hq k1
def uS (hfu:20 < fuel)(G:Gen defs)(hf:Fl S r)(k:∀w S',RuleG Bn w->Fl S' r->Kp r S S'->Q (w,S')):wO (aF (ar defs fuel (d+6)) "_law_one_way_rule" 1 [.ref r] S) Q:=by
 refine aw G.one_way_rule rfl rfl λQ' hR=>?_
 replace k:∀w S',RuleG Bn w->Fl S' r->Kp r S S'->Q' (.rt w,S'):=λz S' a b c=>hR _ _ (k z S' a b c)
 clear hR;show wZ _ _ bQ [gV (.ref r),td,td] S Q';dsimp only[bQ];nofun
 left;refine aU (d:=d+4) G.pick hf #v[] #v[] λv S1 v0 v3 f1 k1=>?_
 dsimp only[cO,aV];obtain⟨a,ea⟩ : ∃a:Jg,1+v=a:=#[(1+v).toNat,∅]
 rw[ea];refine hK _ _ ?_;clear hK K;nofun
 dsimp only[wS,wE,Jr];refine eB (a:Jk) (λk zs Z2 S2=>(∃a1,Z2=[td,a1,gV (.ref r)])/\(∃ks:Ja Jk,zs=(ks.map vA).map au/\ks.Pairwise (·≠·)/\ks.length<=k/\∀x∈ks,0<=x/\x < k)/\Fl S2 r/\Kp r S1 S2) rfl rfl rfl ∅ #[rfl,#[td,rfl],#[[],rfl,.nil,Jo _,λ_ h=>(nomatch h)],f1,.refl] ?_ ?_
 ·rintro i zs Z2 S2 hi ⟨⟨a1,rfl⟩,⟨ks,rfl,hkp,hkl,hks⟩,f2,k2⟩;clear hK k;dsimp only[ig,wC,wT,wE,wA,wV,wG,Jr];refine aU (d:=d+4) G.pick f2 #v[] #v[] λv S3 _ _ f3 k3=>?_
  dsimp only[lT,aV,wB];refine#[λ_=>#[#[_,rfl],#[ks++[(i:Jk)],by simp[vA,au,ay],?_,by rw[Je]; exact NQ hkl,λx hx=>?_],f3,k2.trans k3],λ_=>#[#[_,rfl],#[ks,rfl,hkp,∅,λx hx=>#[(hks x hx).1,by have:=(hks x hx).2; omega]],f3,k2.trans k3]]
  ·rw[List.pairwise_append];refine#[hkp,by simp,λx hx y hy e=>?_]
   have:=(hks x hx).2;rw[Jv.mp hy]at e;omega
  ·rcases JN.mp hx with h|h
   ·exact#[(hks x h).1,by have:=(hks x h).2; omega]
   ·rw[Jv.mp h]; omega
 ·rintro zs Z2 S2 ⟨_,⟨ks,rfl,hkp,hkl,hks⟩,f2,k2⟩;rw[JC]at hkl hks;refine#[lU (by rw[Jb,Jb]; omega),hK _ _ (st ?_)]
  clear hK K;left;have hlt:=f2.lt;refine gF (d:=d) (a:=a) (bs:=[0]) (us:=ks.map vA) hfu G (f2.ka .push) ∅ #v[] (λS' kk=>?_) (by rw[Jb]; omega) (λu hu=>by obtain⟨x,_,rfl⟩:=Jy.mp hu; exact P6 _ _) λms ns S3 hml hnl hnm f3 k3=>?_
  ·simp only[dD,aK (kk.get _ _ ∅ ah)]
  refine k _ _ #[a,[0],ms,ns,ks.map vA,rfl,#[#[∅,iQ,by simp; omega,∅],hml,hnl,hnm,?_,λg hg=>?_],rfl,λg hg=>let ⟨x,_,e⟩:=Jy.mp hg; #[x,e.symm]] f3 (k1.trans (k2.trans (Kp.push.trans k3)))
  ·unfold RO;rw[Mn];exact hkp.imp λh e=>h (Bp e)
  ·obtain⟨x,hx,rfl⟩:=Jy.mp hg;exact Bo ∅ ∅ (hks x hx).1 (hks x hx).2
def pL (hfu:20 < fuel)(G:Gen defs)(hf:Fl S r)(k:∀w S',RuleG pJ w->Fl S' r->Kp r S S'->Q (w,S')):wO (aF (ar defs fuel (d+6)) "_law_free_rule" 1 [.ref r] S) Q:=by
 refine aw G.free_rule rfl rfl λQ' hR=>?_
 replace k:∀w S',RuleG pJ w->Fl S' r->Kp r S S'->Q' (.rt w,S'):=λz S' a b c=>hR _ _ (k z S' a b c)
 clear hR;show wZ _ _ cG [gV (.ref r),td,td,td,td,td,td,td,td] S Q';dsimp only[cG];nofun
 left;refine Bh (d:=d+3) G hf λa n S1 a1 a3 n1 n3 an f1 k1=>?_
 dsimp only[wU];refine ab (show c7 [1,2] [.int a,.int n] [gV (.ref r),td,td,td,td,td,td,td,td]=gV [gV (.ref r),gV (.int a),gV (.int n),td,td,td,td,td,td]from rfl) (hK _ _ ?_)
 clear hK K;nofun
 left;refine Bj (d:=d+3) G f1 n1 n3 λbs S2 hb hbl f2 k2=>?_
 have hsz:SizeOk a bs:=#[∅,hb,by rw[hbl]; exact an,a3]
 refine fB (d:=d) hfu G f2 a3 ∅ λms ns S3 hml hnl hnm f3 k3=>hK _ _ ?_
 clear hK K;have hrt:=f3.lt;replace k3:Kp r S S3:=k1.trans (k2.trans k3);clear k1 k2 f1 f2;nofun
 dsimp only[wS,wE,Jr];refine eB (n:Jk) (λi zs Z2 S2=>(∃a1,Z2=[td,a1,gV (b9 ms ns bs [])])/\(∃ks:Ja Jk,zs=ac ks/\ks.length<=i/\∀x∈ks,(0<=x/\x < bs.length)/\bs.getD x.toNat 0=x)/\S2=S3) rfl rfl rfl ∅ #[rfl,#[td,rfl],#[[],rfl,Jo _,λ_ h=>(nomatch h)],rfl] ?_ ?_
 ·rintro i zs Z2 S2 hi ⟨⟨a1,rfl⟩,⟨ks,rfl,hkl,hkx⟩,rfl⟩;clear hK k;have hi':i < bs.length:=∅
  dsimp only[ig,wC,wT,wE,wA,wV,wG,Jr];refine ae #v[] rfl (ae (Jp i) (by rw[JC]; exact jr (Ju ∅) (Ju hi')) (ae #v[] rfl ?_))
  dsimp only[lT,aV,wB];refine#[λhbi=>#[#[_,rfl],#[ks++[(i:Jk)],by unfold ac; rw[JI]; rfl,by rw[Je]; exact NQ hkl,λx hx=>?_],rfl],λ_=>#[#[_,rfl],#[ks,rfl,∅,hkx],rfl]]
  rcases JN.mp hx with hx|hx
  ·exact hkx x hx
  ·rw[Jv.mp hx];refine#[#[∅,∅],?_]
   rw[JC,JD,Ju hi']
   simpa using hbi
 ·rintro zs Z2 S2 ⟨_,⟨ks,rfl,hkl,hkx⟩,rfl⟩;rw[JC]at hkl;have il:(ac ks).length=ks.length:=Jb ..;refine#[lU ∅,hK _ _ ?_]
  clear hK K;nofun
  dsimp only[wS,wT,wE,wA,wV,wG,Jr];refine ab (sZ (aq ah) ah) ?_;dsimp only[wB];have f4:=(f3.ka (Ka.push (o:=O.lst (ac ks)))).ka (Ka.push (o:=O.lst []));have k4:=k3.trans ((Kp.push (o:=O.lst (ac ks))).trans (Kp.push (o:=O.lst [])));have e4:=aq (u:=O.lst []) (ah (S:=S2) (o:=O.lst (ac ks)));have hl4:S2.length < (S2++[O.lst (ac ks)]++[O.lst []]).length:=by simp
  generalize hS4:S2++[O.lst (ac ks)]++[O.lst []]=S4 at f4 k4 e4 hl4;clear hS4;have ret:∀Q2:QO,(∀w S',Q' (.rt w,S')->Q2 (.rt w,S'))->wZ (ar defs fuel (d+5)) fuel #v[.ret (.v 3)] [gV (.ref r),gV (.int a),gV (.int n),gV (b9 ms ns bs []),td,gV (.ref S2.length),td,td,td] S4 Q2:=λQ2 hr=>st (hr _ _ (k _ _ #[a,bs,ms,ns,[],rfl,#[hsz,hml,hnl,hnm,.nil,λ_ h=>(nomatch h)],.inl rfl] f4 k4))
  refine#[λ_=>aj (Q0:=Q') (λ_ Q2 _ hr=>ret Q2 hr) (λz=>by cases z),λhne=>?_]
  dsimp only[lT,aV,wB];refine aj (Q0:=Q') (λ_ Q2 _ hr=>ret Q2 hr) (λ_ Q2 hn _=>aR (hn _ _ (hK _ _ ?_)))
  clear hK ret hn;have hk0:0 < ks.length:=by
   cases ks with
   | nil=>cases hne
   | cons x ks=>exact Nat.succ_pos _
  nofun
  left;refine pz e4 ?_;rw[il];refine aU (d:=d+4) G.pick f4 ∅ ∅ λv S5 v0 v1 f5 k5=>?_
  have e5:=k5.get _ _ ∅ e4
  obtain⟨x,hxm,ex⟩:=nY (f:=W.int) (xs:=ks) (i:=v.toNat) ∅
  refine kS e5 v0 ex (hK _ _ ?_);clear hK K;replace k5:Kp r S S5:=k4.trans k5;have hrt5:=f5.lt;refine st ?_;dsimp only[wS,wE,Jr];nofun
  refine pI rfl rfl ?_;dsimp only[wE,wA,wV,wG];refine aU (d:=d+4) G.pick (f5.ka .push) #v[] #v[] λv S6 v0 v9 f6 k6=>?_
  refine#[v,λ_ Z S'=>(∃a4 a8,Z=[gV (.ref r),gV (.int a),gV (.int n),gV (b9 ms ns bs []),a4,gV (.ref S2.length),gV (.int x),gV (.ref S5.length),a8])/\(∃U fs,S'[S5.length]?=gV (.dic U)/\FigD (aN a bs) U fs/\∀g∈fs,∃(p0:Pt) (m1 w1:Jk) (p2:Pt),GoodW a bs.length [p0,(m1,[w1]),p2]/\g=cj bs [p0,(m1,[w1]),p2]/\w1≠x/\x∉p2.2)/\Fl S' r/\Kp r S S',rfl,∅,#[#[td,td,rfl],#[[],[],k6.get _ _ ∅ ah,.nil,λ_ h=>(nomatch h)],f6,(k5.trans .push).trans k6],?_,?_]
  ·rintro i Z S7 hi ⟨⟨a4,a8,rfl⟩,⟨U,fs,e7,hd,hfs⟩,f7,k7⟩ Q2 hn _;clear hK k;refine st ?_;left;refine n8 (d:=d+3) G f7 ∅ a3 ∅ n3 λu S8 hu3 hu f8 k8=>?_
   have hu:GoodW a bs.length u:=hbl.symm ▸ hu;have e8:=k8.get _ _ ∅ e7
   obtain⟨p0,p1,p2,rfl⟩ : ∃p0 p1 p2,u=[p0,p1,p2]:=by
    match u,hu3 with
    | [p0,p1,p2],_=>exact#[p0,p1,p2,rfl]
   have l1:=hu.len 1 p1 rfl;obtain⟨m1,ws1⟩:=p1;obtain⟨w1,rfl⟩ : ∃w1,ws1=[w1]:=by
    match ws1,l1 with
    | [w1],_=>exact#[w1,rfl]
   have hb2:=Bq (S:=S8) (f:=x) (ws:=p2.2);have kk:=k7.trans k8;nofun
   dsimp only[wS,wT,wE,wA,wV,wG];refine ae #v[] rfl (ae #v[] rfl (ae #v[] rfl ?_))
   dsimp only[uN,aV,wB];have skip:K [gV (.ref r),gV (.int a),gV (.int n),gV (b9 ms ns bs []),gV (.int i),gV (.ref S2.length),gV (.int x),gV (.ref S5.length),gV (au [p0,(m1,[w1]),p2])] S8:=hK _ _ (aR (hn _ _ #[#[_,_,rfl],#[U,fs,e8,hd,hfs],f8,kk]));refine#[λhw1=>?_,λ_=>aj (Q0:=Q2) (λz=>by cases z) λ_ Q3 hn3 _=>aR (hn3 _ _ skip)]
   refine ae #v[] rfl (ae #v[] rfl (ab hb2 ?_))
   dsimp only[wB];refine aj (Q0:=Q2) (λhxp Q3 hn3 _=>?_) λ_ Q3 hn3 _=>aR (hn3 _ _ skip)
   clear skip;refine st ?_;left;refine iO (d:=d+2) G hb hnl hu hu3 λS9 k9=>?_
   refine qY (k9.get _ _ e8) hd hsz hu hu3 λo fs' #[U',ho1,ho2] ho3=>aR (hn3 _ _ (hK _ _ (aR (hn _ _ #[#[_,_,rfl],#[U',fs',ho1,ho2,λg hg=>?_],(f8.ka k9).own hrt5,(kk.trans (k9.kp r)).late k5.len]))))
   rcases(ho3 g).mp hg with hg|rfl
   ·exact hfs g hg
   ·exact#[p0,m1,w1,p2,hu,rfl,by simpa using hw1,by simpa using hxp]
  ·rintro Z S7 ⟨⟨a4,a8,rfl⟩,⟨U,fs,e7,hd,hfs⟩,f7,k7⟩;refine hK _ _ (st ?_);left;exact yd (P:=pJ) (Q:=λp=>Q' (.rt p.1,p.2)) e7 hd hsz hml hnl hnm (.inr #[x,(hkx x hxm).1,(hkx x hxm).2,hfs]) λw S8 hw k8=>k w S8 hw (f7.ka k8) (k7.trans (k8.kp r))
end
abbrev aZ (u v:Jk):T:=.tup [.int u,.int v]
abbrev dy (u v:Jk):W:=.tup [.int u,.int v]
def iR {u v:Jk}:gK (dy u v)=gV (aZ u v):=rfl
def yf {U:Ja (T×W)}{k:T}{v:W}(h:aJ U k=gV v):(k,v)∈U:=by
 unfold aJ at h;rw[Jf]at h;obtain⟨p,h1,rfl⟩:=h;have:=Ol h1;rw[<- J8 this];exact List.mem_of_find?_eq_some h1
def Br {U:Ja (T×W)}{p:T×W}(h:p∈U):∃v,aJ U p.1=gV v:=by
 unfold aJ;cases e:U.find? λq=>decide (q.1=p.1)with
 | some q=>exact#[q.2,rfl]
 | none=>exact absurd (LL.mp e p h) (by simp)
noncomputable abbrev fL:=Jk×Jk×Ja Jk
inductive MustL (S:aa)(b:Jg):Ja (T×W)->Ja fL->Prop
 | nil:MustL S b [] []
 | cons {e:fL} {l:Jg} {U:Ja (T×W)} {L:Ja fL}:b<=l->S[l]?=gV (.lst (ac e.2.2))->MustL S b U L->MustL S b ((aZ e.1 e.2.1,.ref l)::U) (e::L)
def MustL.mono {S S':aa}{b:Jg}{U:Ja (T×W)}{L:Ja fL}(h:MustL S b U L)(k:∀(l:Jg) (ws:Ja Jk),b<=l->S[l]?=gV (.lst (ac ws))->S'[l]?=gV (.lst (ac ws))):MustL S' b U L:=by
 induction h with
 | nil=>exact .nil
 | cons h1 h2 _ ih=>exact .cons h1 (k _ _ h1 h2) ih
def MustL.ka {S S':aa}{b:Jg}{U:Ja (T×W)}{L:Ja fL}(h:MustL S b U L)(k:Ka S S'):MustL S' b U L:=h.mono λl ws _ e=>k.get _ _ e
def MustL.kp {S S':aa}{b r:Jg}{U:Ja (T×W)}{L:Ja fL}(h:MustL S b U L)(hr:r < b)(k:Kp r S S'):MustL S' b U L:=h.mono λl ws hl e=>k.get _ _ ∅ e
def MustL.set {S:aa}{b t:Jg}{U k:Ja (T×W)}{L:Ja fL}{o:O}(h:MustL S b U L)(ht:S[t]?=gV (.dic k)):MustL (S.set t o) b U L:=h.mono λl ws hl e=>by
 rw[aY (by rintro rfl; rw[ht]at e; cases e)]; exact e
def MustL.len {S:aa}{b:Jg}{U:Ja (T×W)}{L:Ja fL}(h:MustL S b U L):U.length=L.length:=by
 induction h with
 | nil=>rfl
 | cons _ _ _ ih=>rw[J2,J2,ih]
def yg {e:fL}{u v:Jk}:decide (aZ e.1 e.2.1=aZ u v)=decide (e.1=u/\e.2.1=v):=by
 unfold aZ;simp
abbrev zv (L:Ja fL)(u v:Jk):Ji (Ja Jk):=(L.find? λe=>decide (e.1=u/\e.2.1=v)).map (·.2.2)
def MustL.look {S:aa}{b:Jg}{U:Ja (T×W)}{L:Ja fL}(h:MustL S b U L)(u v:Jk):(aJ U (aZ u v)=td/\zv L u v=td)\/∃l ws,aJ U (aZ u v)=gV (.ref l)/\b<=l/\S[l]?=gV (.lst (ac ws))/\zv L u v=gV ws:=by
 induction h with
 | nil=>exact .inl #[rfl,rfl]
 | @cons e l U L h1 h2 _ ih=>
  unfold aJ zv at ih ⊢;rw[Lz,Lz];dsimp only;rw[yg]
  by_cases hd:e.1=u/\e.2.1=v
  ·rw[Kf hd];exact .inr #[l,e.2.2,rfl,h1,h2,rfl]
  ·rw[JX hd];exact ih
def MustL.at {S:aa}{b i:Jg}{U:Ja (T×W)}{L:Ja fL}{p:T×W}(h:MustL S b U L)(hp:U[i]?=gV p):∃e l,L[i]?=gV e/\p=(aZ e.1 e.2.1,W.ref l):=by
 induction h generalizing i with
 | nil=>cases hp
 | @cons e l U L _ _ _ ih=>
  cases i with
  | zero=>cases hp; exact#[e,l,rfl,rfl]
  | succ i=>exact ih hp
def MustL.snoc {S:aa}{b l:Jg}{U:Ja (T×W)}{L:Ja fL}{e:fL}(h:MustL S b U L)(h1:b<=l)(h2:S[l]?=gV (.lst (ac e.2.2))):MustL S b (U++[(aZ e.1 e.2.1,.ref l)]) (L++[e]):=by
 induction h with
 | nil=>exact .cons h1 h2 .nil
 | cons g1 g2 _ ih=>exact .cons g1 g2 ih
def MustL.fresh {S:aa}{b:Jg}{U:Ja (T×W)}{L:Ja fL}{u v:Jk}{w:W}(h:MustL S b U L)(hn:zv L u v=td):d3 U (aZ u v) w=U++[(aZ u v,w)]:=by
 unfold d3;rw[JU];rw[kz];rcases h.look u v with⟨e,_⟩|⟨l,ws,_,_,_,e⟩
 ·rw[e]; exact JF
 ·rw[hn]at e; cases e
abbrev pM (ws:Ja Jk):Es:=ws.foldr (λw es=>.cons (.c (.int w)) es) .nil
abbrev tf:Ja fL->Es
 | []=>.nil
 | e::L=>.cons (.tup #v[.c (.int e.1),.c (.int e.2.1)]) (.cons (.lst (pM e.2.2)) (tf L))
abbrev uT:Ja fL->Jg->Ja W
 | [],_=>[]
 | e::L,s=>dy e.1 e.2.1::.ref s::uT L (s+1)
abbrev uU (L:Ja fL):aa:=L.map λe=>O.lst (ac e.2.2)
abbrev yh (n:Jg)(e:fL):JL:=decide ((0<=e.1/\e.1 < n)/\(0<=e.2.1/\e.2.1 < n)/\e.2.2.length<=3)&&e.2.2.all λw=>decide (0<=w/\w < (n:Jk))
section
variable{M:JG->FF}{Z:Fm}
def qZ {S:aa}:∀ {ws:Ja Jk} {Q:Ja W×aa->Prop},Q (ac ws,S)->wA M (pM ws) Z S Q
 | [],Q,q=>by show wA M .nil Z S Q; exact q
 | w::ws,Q,q=>by show wA M (.cons (.c (.int w)) (pM ws)) Z S Q; dsimp only[wA,wE]; exact qZ q
def yi:∀ {L:Ja fL} {S:aa} {Q:Ja W×aa->Prop},Q (uT L S.length,S++uU L)->wA M (tf L) Z S Q
 | [],S,Q,q=>by
  show wA M .nil Z S Q;dsimp only[wA]
  rwa [show S++uU []=S from Ky S]at q
 | e::L,S,Q,q=>by
  show wA M (.cons (.tup #v[.c (.int e.1),.c (.int e.2.1)]) (.cons (.lst (pM e.2.2)) (tf L))) Z S Q;dsimp only[wA,wE];refine qZ (yi ?_);rw[Je,Lw];exact q
end
abbrev Bs (L:Ja fL):JL:=(Jw L.length).all λi=>(L[i]?).all λe=>(zv (L.take i) e.1 e.2.1).isNone
def mK {S:aa}{b:Jg}:∀(L L0:Ja fL) (s:Jg) (U:Ja (T×W)),MustL S b U L0->Bs (L0++L)=true->b<=s->(∀i e,L[i]?=gV e->S[s+i]?=gV (.lst (ac e.2.2)))->∃U',dE U (uT L s)=gV U'/\MustL S b U' (L0++L)
 | [],L0,s,U,hm,hs,hb,hS=>#[U,by simp[uT,dE],by rwa [Ky]]
 | e::L,L0,s,U,hm,hs,hb,hS=>by
  have hn:zv L0 e.1 e.2.1=td:=by
   have:=JB.mp hs L0.length (Jt.mpr (by rw[Je,J2]; omega))
   rw[J9 (Jo _),Mc]at this;rw[Qm]at this
   ·simpa using this
   ·rfl
  obtain⟨U',k1,k2⟩:=mK L (L0++[e]) (s+1) (d3 U (aZ e.1 e.2.1) (.ref s)) (by rw[hm.fresh hn]; exact hm.snoc hb (by have:=hS 0 e rfl; simpa using this)) (by rw[Lw]; exact hs) ∅ (λi x hx=>by have:=hS (i+1) x (by simpa using hx); rw[show s+1+i=s+(i+1) by omega]; exact this)
  refine#[U',?_,by rw[Lw]at k2; exact k2]
  simp only[uT,dE,iR]; exact k1
abbrev KB:Ja (Ja Jk):=[[1,0],[0,2,1],[0,1],[0,1,2]]
noncomputable abbrev Gj:=Ja Jk×Ja fL×Jk
abbrev KT:Ja Gj:=[([1,0],[(0,0,[0])],3),([0,2,1],[(1,1,[1])],2),([0,1],[(1,1,[1])],3),([0,1],[(1,1,[1]),(0,0,[1])],3),([0,1],[(1,1,[])],1),([0,2,1],[(0,0,[0]),(0,1,[1]),(1,0,[1]),(1,1,[1])],2),([1,0],[],3),([0,1,2],[(2,2,[2]),(1,2,[1]),(2,1,[1]),(1,1,[1,2])],2),([0,1,2],[(0,0,[0,1])],2)]
def yj:∀x∈KT,x.1∈KB/\1<=x.2.2/\x.2.2<=3/\x.2.2*x.1.length<=6/\x.2.1.length<=4/\x.2.1.all (yh x.1.length)=true/\Bs x.2.1=true:=by decide
abbrev KindOk (S:aa)(b:Jg)(w:W):Prop:=∃(bs:Ja Jk) (q:Jg) (U:Ja (T×W)) (L:Ja fL) (most:Jk),w=.tup [.tup (ac bs),.ref q,.int most]/\(bs,L,most)∈KT/\S[q]?=gV (.dic U)/\b<=q/\MustL S b U L
def KindOk.mono {S S':aa}{b:Jg}{w:W}(h:KindOk S b w)(k1:∀(l:Jg) (ws:Ja Jk),b<=l->S[l]?=gV (.lst (ac ws))->S'[l]?=gV (.lst (ac ws)))(k2:∀(l:Jg) (U:Ja (T×W)),b<=l->S[l]?=gV (.dic U)->S'[l]?=gV (.dic U)):KindOk S' b w:=
 let ⟨bs,q,U,L,most,h1,h2,h6,h7,h9⟩:=h
 #[bs,q,U,L,most,h1,h2,k2 _ _ h7 h6,h7,h9.mono k1]
def KindOk.ka {S S':aa}{b:Jg}{w:W}(h:KindOk S b w)(k:Ka S S'):KindOk S' b w:=h.mono (λl ws _ e=>k.get _ _ e) (λl ws _ e=>k.get _ _ e)
abbrev yk (bs:Ja Jk)(L:Ja fL)(most:Jk):E:=.tup #v[.tup (pM bs),.disp (tf L),.c (.int most)]
section
variable{M:JG->FF}{Z:Fm}{S:aa}
def oh (bs:Ja Jk)(L:Ja fL)(most:Jk){b:Jg}{Q:QW}(hb:b<=S.length)(h1:(bs,L,most)∈KT)(k:∀w S',KindOk S' b w->Ka S S'->Q (w,S')) :
  wE M (yk bs L most) Z S Q:=by
 unfold yk;dsimp only[wE,wA];refine qZ (yi ?_);have hsep:=(yj _ h1).2.2.2.2.2.2;obtain⟨U,k1,k2⟩:=mK (S:=S++[O.dic []]++uU L) (b:=b) L [] (S.length+1) [] .nil hsep ∅ (λi e he=>by
  rw[J9 (by simp),show S.length+1+i - (S++[O.dic []]).length=i by simp]
  simp[uU,he])
 have hat:(S++[O.dic []]++uU L)[S.length]?=gV (.dic []):=by
  rw[JZ (by simp)]; exact ah
 refine#[hat,ab (show dE [] (uT L (S++[O.dic []]).length)=gV U by rw[Je]; exact k1) (k _ _ #[bs,S.length,U,L,most,rfl,h1,bg hat,hb,k2.set hat] #[λj o h=>?_,by simp])]
 ·have:j < S.length:=bK h;show((S++[O.dic []]++uU L).set S.length (O.dic U))[j]?=gV o;rw[aY ∅,JZ (by simp; omega)]
  exact aq h
structure Menu (S0 S:aa)(r t m:Jg):Prop where
 at_t:∃xs:Ja W,S[t]?=gV (.lst xs)/\xs.length=m/\∀x∈xs,KindOk S S0.length x
 pos:0 < m
 lU:m<=9
 fl:Fl S r
 kp:Kp r S0 S
 lt:S0.length<=t
 rlt:r < S0.length
def pN {S0 S S':aa}{r t m:Jg}{w:W}(h:Menu S0 S r t m)(hw:KindOk S' S0.length w)(k:Ka S S')(hm:m < 9):∃xs,S'[t]?=gV (.lst xs)/\xs.length < sizeLine/\Menu S0 (S'.set t (.lst (xs++[w]))) r t (m+1):=by
 obtain⟨⟨xs,h1,h2,h3⟩,hp,hf,fl,kp,lt,rlt⟩:=h;have e:S'[t]?=gV (.lst xs):=k.get _ _ h1;have stay:∀x,KindOk S' S0.length x->KindOk (S'.set t (.lst (xs++[w]))) S0.length x:=λx hx=>hx.mono (λl ws hl el=>by
  by_cases hlt:t=l
  ·exfalso;subst hlt;rw[e]at el;injection el with el
   injection el with el
   match xs,h2,h3 with
   | [],h2,_=>simp at h2; omega
   | x::xs,_,h3=>
    obtain⟨bs,q,U,L,most,hx,_⟩:=h3 x (by simp)
    subst hx
    match ws with
    | []=>simp[ac]at el
    | w::ws=>simp[ac]at el
  ·rw[aY hlt]; exact el) (λl U hl el=>by
  rw[aY (by rintro rfl; rw[e]at el; cases el)]; exact el)
 refine#[xs,e,(by rw[Kq]; omega),#[xs++[w],bg e,by simp; omega,λx hx=>?_],∅,∅,(fl.ka k).own ∅,(kp.trans (k.kp r)).late lt,lt,rlt]
 rcases JN.mp hx with hx|hx
 ·exact stay x ((h3 x hx).ka k)
 ·rw[Jv.mp hx]; exact stay w hw
def pO (bs:Ja Jk)(L:Ja fL)(most:Jk){fuel:Jg}{S0:aa}{r t m:Jg}{x0:Ji W}{K:Fm->aa->Prop}{Q:QO}(h:Menu S0 S r t m)(hm:m < 9)(h1:(bs,L,most)∈KT)(k:∀S',Menu S0 S' r t (m+1)->K [x0,gV (.ref t)] S') :
  wS M fuel (.ex (.me .append (.v 1) #v[yk bs L most])) [x0,gV (.ref t)] S K Q:=by
 left;obtain⟨xs,e1,e2,e3⟩:=h.at_t;refine#[cK e1,oh bs L most (JY h.lt (MQ (bK e1))) h1 λw S' k1 k2=>?_]
 obtain⟨xs',f1,f2,f3⟩:=pN h k1 k2 hm;exact ab (sT f1 f2) (k _ f3)
def lV {defs:Ja (JG×Df)}{fuel d:Jg}{r:Jg}{Q:QW}(G:Gen defs)(hf:Fl S r)(k:∀w S',KindOk S' S.length w->Fl S' r->Kp r S S'->Q (w,S')):wO (aF (ar defs fuel (d+2)) "_law_laying_kind" 1 [.ref r] S) Q:=by
 refine aw G.laying_kind rfl rfl λQ' hR=>?_
 replace k:∀w S',KindOk S' S.length w->Fl S' r->Kp r S S'->Q' (.rt w,S'):=λz S' a b c=>hR _ _ (k z S' a b c)
 clear hR;show wZ _ _ b7 [gV (.ref r),td] S Q';have hrt:=hf.lt;unfold b7;nofun
 refine Ge ?_;change wA _ _ _ _ _; change wE _ _ _ _ _
 refine oh [1,0] [(0,0,[0])] 3 (b:=S.length) (Jo _) #v[] λw1 S1 k1 a1=>?_
 change wE _ _ _ _ _;refine oh [0,2,1] [(1,1,[1])] 2 (b:=S.length) a1.len #v[] λw2 S2 k2 a2=>?_
 have a12:=a1.trans a2;change wE _ _ _ _ _;refine oh [0,1] [(1,1,[1])] 3 (b:=S.length) a12.len #v[] λw3 S3 k3 a3=>?_
 have a13:=a12.trans a3;dsimp only[wA];refine hK _ _ ?_;clear hK K;have m3:Menu S (S3++[O.lst [w1,w2,w3]]) r S3.length 3:=by
  refine#[#[[w1,w2,w3],ah,rfl,λx hx=>?_],#v[],#v[],(hf.ka a13).ka .push,(a13.trans .push).kp r,a13.len,hrt]
  rcases JR.mp hx with rfl|hx
  ·exact(k1.ka (a2.trans a3)).ka .push
  ·rcases JR.mp hx with rfl|hx
   ·exact(k2.ka a3).ka .push
   ·rw[Jv.mp hx];exact k3.ka .push
 dsimp only[Jr];clear k1 k2 k3 a1 a2 a3 a12 a13;generalize S3.length=t at m3;generalize S3++[O.lst [w1,w2,w3]]=S3' at m3;refine aG λK hK=>pO [0,1] [(1,1,[1]),(0,0,[1])] 3 m3 #v[] #v[] λS4 m4=>hK _ _ ?_
 refine aG λK hK=>pO [0,1] [(1,1,[])] 1 m4 #v[] #v[] λS5 m5=>hK _ _ ?_
 refine aG λK hK=>pO [0,2,1] [(0,0,[0]),(0,1,[1]),(1,0,[1]),(1,1,[1])] 2 m5 #v[] #v[] λS6 m6=>hK _ _ ?_
 nofun
 left;obtain⟨xs,e1,e2,e3⟩:=m6.at_t;obtain⟨xs',f1,f2,m7⟩:=pN (S':=S6++[O.dic []]) (w:=.tup [.tup (ac [1,0]),.ref S6.length,.int 3]) m6 #[[1,0],S6.length,[],[],3,rfl,#v[],ah,m6.kp.len,.nil] .push #v[]
 refine#[cK e1,ab (sT f1 f2) (hK _ _ ?_)];refine aG λK hK=>pO [0,1,2] [(2,2,[2]),(1,2,[1]),(2,1,[1]),(1,1,[1,2])] 2 m7 #v[] #v[] λS8 m8=>hK _ _ ?_
 refine aG λK hK=>pO [0,1,2] [(0,0,[0,1])] 2 m8 #v[] #v[] λS9 m9=>hK _ _ ?_
 refine st ?_;left;refine aU (d:=d) G.pick m9.fl #v[] #v[] λv S10 v0 v9 f10 k10=>?_
 obtain⟨xs,g1,g2,g3⟩:=m9.at_t;have hlt:=m9.lt;have hv:v.toNat < xs.length:=∅
 exact kS (k10.get _ _ ∅ g1) v0 (Ju hv) (k _ _ ((g3 _ (Kg hv)).mono (λl ws hl e=>k10.get _ _ ∅ e) (λl ws hl e=>k10.get _ _ ∅ e)) f10 (m9.kp.trans k10))
end
abbrev gf (bs:Ja Jk):Ja (Ja Jk):=if bs=[0,1,2]then[[0,1,2],[0,2,1],[1,0,2],[1,2,0],[2,0,1],[2,1,0]]else if bs.length=2 then[[0,1],[1,0]]else[[0,1,2],[0,2,1],[2,0,1],[2,1,0]]
abbrev cQ (bs nm:Ja Jk):Jg->Ja Jk
 | 0=>Ke bs.length 0
 | k+1=>(cQ bs nm k).set (nm.getD k 0).toNat (nm.getD (bs.getD k 0).toNat 0)
def gH (bs nm:Ja Jk):∀k,(cQ bs nm k).length=bs.length
 | 0=>by simp[cQ]
 | k+1=>by simp[cQ,gH bs nm k]
def tj:∀bs∈KB,∀nm∈gf bs,nm.length=bs.length/\(∀x∈nm,0<=x/\x < (bs.length:Jk))/\(∀x∈bs,0<=x/\x < (bs.length:Jk))/\GoodB (cQ bs nm bs.length):=by
 unfold GoodB;decide +kernel
def ym:∀bs∈KB,(bs.length=2\/bs.length=3)/\0 < (gf bs).length/\(gf bs).length < 10:=by decide
abbrev ib (nm:Ja Jk)(e:fL):fL:=(nm.getD e.1.toNat 0,nm.getD e.2.1.toNat 0,e.2.2.map λw=>nm.getD w.toNat 0)
def Bt:∀x∈KT,∀e∈x.2.1,zv x.2.1 e.1 e.2.1=gV e.2.2:=by decide
def DY:∀x∈KT,∀nm∈gf x.1,Bs (x.2.1.map (ib nm))=true:=by decide +kernel
def DZ {L:Ja fL}{i:Jg}{e:fL}(h:Bs L=true)(he:L[i]?=gV e):zv (L.take i) e.1 e.2.1=td:=by
 have:=JB.mp h i (Jt.mpr (Jz.mp he).1);rw[he]at this
 simpa using this
def D0 {n:Jg}{e:fL}(h:yh n e=true):(0<=e.1/\e.1 < n)/\(0<=e.2.1/\e.2.1 < n)/\e.2.2.length<=3/\∀w∈e.2.2,0<=w/\w < (n:Jk):=by
 unfold yh at h;rw[Jj,JB]at h;obtain⟨h1,h2,h3⟩:=J8 h.1;exact#[h1,h2,h3,λw hw=>J8 (h.2 w hw)]
section
variable{M:JG->FF}{fuel:Jg}{Z:Fm}{S:aa}{K:Fm->aa->Prop}{Q:QO}
def Bu {tg:Tg}{e:E}{b:Ss}(r:Jg)(U:Ja (T×W))(I:Jg->Fm->aa->Prop)(oe:dH e=true)(ok:fY b=true)(he:wE M e Z S λp=>p.1=.ref r/\p.2[r]?=gV (.dic U)/\I 0 Z (p.2.set r (.frd U)))
  (hstep:∀(i:Jg) (p:T×W) (Z:Fm) (S:aa),U[i]?=gV p->I i Z S->wO (eQ tg p.1.w Z S) λq=>uO M fuel b q.1 q.2 (I (i+1)) Q) (hend:∀Z S,I U.length Z S->K Z S):Wp (fM M fuel (.loop tg (.seq e) b) Z S) (pv K Q):=by
 obtain⟨w,S1,e1,rfl,e2,h0⟩:=bW oe he;refine fZ (mi:=.its (U.map λp=>p.1.w)) (S1:=S1.set r (.frd U)) (xs:=U.map λp=>p.1.w) I ok (by simp only[jQ,eP,e1,nV e2,bP e2]) (λ_ _ _ _=>rfl) rfl h0 (λi w Z S hw hI=>?_) λZ S hI=>hend Z S (by rwa [Jb]at hI)
 rw[Jl,Jf]at hw;obtain⟨p,hp,rfl⟩:=hw;exact hstep i p Z S hp hI
end
section
variable{defs:Ja (JG×Df)}{fuel d:Jg}{S:aa}{r:Jg}{Q:QW}
def Ci {i n:Jg}{x:W}(h:S[i]?=gV (.lst [x]))(hn:n<=1000)(q:Q (.ref S.length,S++[.lst (Ke n x)])):wO (iu .mul (.ref i) (.int (n:Jk)) S) Q:=by
 refine ab ?_ q;have:n<=sizeLine:=lU hn;simp only[iu,zZ,b6 h];rw[JK #[∅,∅,by simpa using this]]
 unfold lO;simp[this]
def mL {q:Jg}{U:Ja (T×W)}{u v:Jk}{w:W}(h:jO S q=gV U)(hg:aJ U (aZ u v)=gV w):jP (.ref q) (.tup [.int u,.int v]) S=gV (w,S):=by
 have hk:gK (.tup [.int u,.int v])=gV (aZ u v):=iR;simp only[jP,h,hk,hg,J4]
def yn {q:Jg}{U:Ja (T×W)}{u v:Jk}{w:W}(h:S[q]?=gV (.dic U))(hl:U.length < sizeLine):iE (.ref q) (.tup [.int u,.int v]) w S=gV (S.set q (.dic (d3 U (aZ u v) w))):=by
 have hk:gK (.tup [.int u,.int v])=gV (aZ u v):=iR;simp only[iE,nB,h,hk];rw[JK hl]
def js {xs:Ja Jk}{x:Jk}(h0:0<=x)(h1:x.toNat < xs.length):(ac xs)[x.toNat]?=gV (.int (xs.getD x.toNat 0)):=by
 unfold ac;rw[Jl,ak (d:=0) h1]; rfl
def pP {xs:Ja Jk}{i:Jg}(h:i < xs.length):xs.getD i 0∈xs:=Jq (ak (d:=0) h)
def lW (G:Gen defs){Q:QO}{bs:Ja Jk}{x0 x2:Ji W}(hb:bs∈KB)
  (hk:∀(m s:Jg) (S':aa),Ka S S'->S'[s]?=gV (.lst ((gf bs).map λnm=>W.tup (ac nm)))->S.length<=s->wZ (ar defs fuel (d+1)) fuel (dr 5 bo) [x0,gV (.tup (ac bs)),x2,gV (.int bs.length),gV (.ref m),gV (.ref s),td,td,td,td,td,td] S' Q) :
  wZ (ar defs fuel (d+1)) fuel bo [x0,gV (.tup (ac bs)),x2,td,td,td,td,td,td,td,td,td] S Q:=by
 generalize hd5:dr 5 bo=cz at hk;unfold bo at hd5 ⊢;dsimp only[dr]at hd5;rw[hd5];clear hd5;nofun
 left;refine aD ?_;rw[show(ac bs).length=bs.length from Jb ..]
 refine hK _ _ ?_;clear hK K;nofun
 left;have hm:(((S++[O.lst [.tup [.int 0]]])++[O.lst [.tup [.int 0,.int 1],.tup [.int 1,.int 0]]])++[O.lst [.ref S.length,.ref (S++[O.lst [.tup [.int 0]]]).length]])[((S++[O.lst [.tup [.int 0]]])++[O.lst [.tup [.int 0,.int 1],.tup [.int 1,.int 0]]]).length]?=gV (.lst [.ref S.length,.ref (S++[O.lst [.tup [.int 0]]]).length]):=ah;refine hK _ _ ?_;clear hK K;generalize hS1:S++[O.lst [.tup [.int 0]]]=S1 at hm ⊢;generalize hS2:S1++[O.lst [.tup [.int 0,.int 1],.tup [.int 1,.int 0]]]=S2 at hm ⊢;generalize hS3:S2++[O.lst [.ref S.length,.ref S1.length]]=S3 at hm ⊢;have l1:S1.length=S.length+1:=by rw[<- hS1]; simp
 have l2:S2.length=S1.length+1:=by rw[<- hS2]; simp
 have l3:S3.length=S2.length+1:=by rw[<- hS3]; simp
 have kS2:Ka S S2:=by rw[<- hS2,<- hS1]; exact Ka.push.trans .push
 nofun
 left;refine#[cK hm,kU (aq hm) (by decide:2 < 1000) (hK _ _ ?_)]
 clear hK K;generalize hS5:(S3++[O.lst [.tup [.int 0,.int 1,.int 2],.tup [.int 0,.int 2,.int 1],.tup [.int 2,.int 0,.int 1],.tup [.int 2,.int 1,.int 0]]]).set S2.length (.lst ([.ref S.length,.ref S1.length]++[.ref S3.length]))=S5;have k5:Ka S S5:=by
  rw[<- hS5,<- hS3];exact Ka.late (kS2.trans (Ka.push.trans .push)) ∅
 have m5:S5[S2.length]?=gV (.lst [.ref S.length,.ref S1.length,.ref S3.length]):=by
  rw[<- hS5]; exact bg (aq hm)
 have p5:S5[S1.length]?=gV (.lst [.tup [.int 0,.int 1],.tup [.int 1,.int 0]]):=by
  rw[<- hS5,aY ∅,<- hS3,<- hS2]
  exact aq (aq ah)
 have t5:S5[S3.length]?=gV (.lst [.tup [.int 0,.int 1,.int 2],.tup [.int 0,.int 2,.int 1],.tup [.int 2,.int 0,.int 1],.tup [.int 2,.int 1,.int 0]]):=by
  rw[<- hS5,aY ∅]
  exact ah
 have h1:S.length<=S1.length:=∅
 have h3:S.length<=S3.length:=∅
 clear hS1 hS2 hS3 hS5 hm l1 l2 l3 kS2;nofun
 dsimp only[wS,wE,wA,wV,wG,Jr,gZ,aV];have hb':bs=[1,0]\/bs=[0,2,1]\/bs=[0,1]\/bs=[0,1,2]:=by simpa [KB]using hb
 rcases hb' with rfl|rfl|rfl|rfl
 ·refine dv (i:=1) m5 rfl (hK _ _ (aG λK hK=>xN (λQ q=>q) (hK _ _ (hk _ _ _ k5 p5 h1))))
 ·refine dv (i:=2) m5 rfl (hK _ _ (aG λK hK=>xN (λQ q=>q) (hK _ _ (hk _ _ _ k5 t5 h3))))
 ·refine dv (i:=1) m5 rfl (hK _ _ (aG λK hK=>xN (λQ q=>q) (hK _ _ (hk _ _ _ k5 p5 h1))))
 ·refine dv (i:=2) m5 rfl (hK _ _ (aG λK hK=>Gf (λQ q=>q) λQ2 hn _=>?_))
  refine st ?_;left;exact jY (d:=d) G (aR (hn _ _ (hK _ _ (hk _ _ _ (k5.trans .push) ah k5.len))))
def q8 (G:Gen defs){S0:aa}{bs:Ja Jk}{q:Jg}{U:Ja (T×W)}{L:Ja fL}{most:Jk}(hkt:(bs,L,most)∈KT)(hf:Fl S r)(hr:r < S0.length)(kp:Kp r S0 S)(hq:S[q]?=gV (.dic U))(hq0:S0.length<=q)(hm:MustL S S0.length U L)
  (k:∀(nm:Ja Jk) (q':Jg) (U':Ja (T×W)) S',nm∈gf bs->S'[q']?=gV (.dic U')->S0.length<=q'->MustL S' S0.length U' (L.map (ib nm))->Fl S' r->Kp r S0 S'->Q (.tup [.tup (ac (cQ bs nm bs.length)),.ref q'],S')) :
  wO (aF (ar defs fuel (d+2)) "_law_numbered" 3 [.ref r,.tup (ac bs),.ref q] S) Q:=by
 refine aw G.numbered rfl rfl λQ' hR=>?_
 replace k:∀(nm:Ja Jk) (q':Jg) (U':Ja (T×W)) S',nm∈gf bs->S'[q']?=gV (.dic U')->S0.length<=q'->MustL S' S0.length U' (L.map (ib nm))->Fl S' r->Kp r S0 S'->Q' (.rt (.tup [.tup (ac (cQ bs nm bs.length)),.ref q']),S'):=λa b c e f g h i j l=>hR _ _ (k a b c e f g h i j l)
 clear hR;obtain⟨hb,_,_,_,h4,hok,_⟩:=yj _ hkt;refine lW (d:=d) G hb ?_;intro m s S1 k1 e1 hs;dsimp only[dr,bo];have hrt:=hf.lt;obtain⟨hb1,hb2,hb3⟩:=ym bs hb;nofun
 left;refine pz e1 ?_;rw[Jb];refine aU (d:=d) G.pick (hf.ka k1) ∅ ∅ λv S2 v0 v1 f2 k2=>?_
 obtain⟨nm,hnmm,enm⟩:=nY (f:=λnm=>W.tup (ac nm)) (xs:=gf bs) (i:=v.toNat) ∅
 obtain⟨n1,n2,n3,n4⟩:=tj bs hb nm hnmm;refine kS (k2.get _ _ ∅ e1) v0 enm (hK _ _ ?_)
 clear hK K;nofun
 left;refine Ci ah ∅ (hK _ _ ?_)
 clear hK K;generalize hS4:S2++[O.lst [.int 0]]=S4;have k24:Ka S2 S4:=hS4 ▸ .push;have f4:Fl S4 r:=f2.ka k24;have kp4:Kp r S0 S4:=(kp.trans (k1.kp r)).trans (k2.trans (k24.kp r));have q4:S4[q]?=gV (.dic U):=k24.get _ _ (k2.get _ _ ∅ (k1.get _ _ hq))
 have m4:MustL S4 S0.length U L:=((hm.ka k1).kp hr k2).ka k24;have hm0:=hm;clear hS4 k24 hm hq f2 k2 k1 e1 enm hf;nofun
 refine bC (bs.length:Jk) (λk Z S'=>(∃x8,Z=[gV (.ref r),gV (.tup (ac bs)),gV (.ref q),gV (.int bs.length),gV (.ref m),gV (.ref s),gV (.tup (ac nm)),gV (.ref S4.length),x8,td,td,td])/\S'[S4.length]?=gV (.lst (ac (cQ bs nm k)))/\Ka S4 S') rfl rfl ∅ #[rfl,#[_,rfl],?_,.push] ?_ ?_
 ·rw[ah]; simp[cQ,ac]
 ·rintro i Z S5 hi ⟨⟨x8,rfl⟩,e5,k5⟩ Q2 hn _;clear hK k;have hi':i < bs.length:=∅
  have hi1:i < nm.length:=∅
  have c:=n3 _ (pP hi');have c2:=n2 _ (pP hi1);refine st ?_;left;refine ae (Jp i) (js (Jp i) hi') (ae c.1 (js c.1 (by rw[JC]; omega)) (ae (Jp i) (js (Jp i) hi1) ?_))
  rw[JC];refine ab (B9 e5 c2.1 (by rw[show(ac (cQ bs nm i)).length=_ from Jb ..,gH]; omega)) (aR (hn _ _ #[#[_,rfl],?_,k5.late (Jo _)]))
  rw[bg e5];unfold ac;rw[cQ,Rl]
 ·rintro Z S5 ⟨⟨x8,rfl⟩,e5,k5⟩;rw[JC]at e5;refine hK _ _ (st ?_);clear hK K;dsimp only[wS,wE,Jr];have f5:Fl S5 r:=f4.ka k5;have q5:S5[q]?=gV (.dic U):=k5.get _ _ q4;have m5:MustL S5 S0.length U L:=m4.ka k5;have hkl:=hm0.len;have kp5:Kp r S0 S5:=kp4.trans (k5.kp r);have hq5:=bK q5;have ht5:=bK e5;have hqt:q≠S4.length:=by rintro rfl; rw[e5]at q5; cases q5
  have hn9:(bs.length:Jk)<=3:=∅
  have hr5:=f5.lt;clear k5 m4 q4 f4;nofun
  refine Bu q U (λk Z S'=>(∃x10 x11,Z=[gV (.ref r),gV (.tup (ac bs)),gV (.ref q),gV (.int bs.length),gV (.ref m),gV (.ref s),gV (.tup (ac nm)),gV (.ref S4.length),x8,gV (.ref S5.length),x10,x11])/\S'[q]?=gV (.frd U)/\MustL S' S0.length U L/\S'[S4.length]?=gV (.lst (ac (cQ bs nm bs.length)))/\(∃U',S'[S5.length]?=gV (.dic U')/\MustL S' S0.length U' ((L.take k).map (ib nm)))/\Fl S' r/\Kp r S0 S') rfl rfl #[rfl,aq q5,#[td,td,rfl],bg (aq q5),(m5.ka .push).set (aq q5),?_,#[[],?_,.nil],(f5.ka .push).own ∅,(kp5.trans .push).late hq0] ?_ ?_
  ·rw[aY hqt]; exact aq e5
  ·rw[aY ∅]; exact ah
  ·rintro i p Z S6 hp ⟨⟨x10,x11,rfl⟩,q6,m6,t6,⟨U',o6,mm6⟩,f6,kp6⟩;clear hK k;have hil:=(Jz.mp hp).1;obtain⟨en,l,hen,rfl⟩:=m6.at hp;have hem:=Jq hen;have hs1:=Bt _ hkt en hem;have hs2:=DZ (DY _ hkt nm hnmm) (i:=i) (e:=ib nm en) (by rw[Jl]; dsimp only; rw[hen]; rfl)
   dsimp only at hs1 hs2;obtain⟨hu,hv',hl3,hw3⟩:=D0 (JB.mp hok en hem);dsimp only at hu hv' hl3 hw3;obtain⟨u,v',ws2⟩:=en;dsimp only at hs1 hu hv' hl3 hw3 ⊢;obtain⟨l2,hg,hl2,hws2⟩ : ∃l2,aJ U (aZ u v')=gV (.ref l2)/\S0.length<=l2/\S6[l2]?=gV (.lst (ac ws2)):=by
    rcases m6.look u v' with⟨_,e⟩|⟨l2,ws,g1,g2,g3,e⟩
    ·rw[hs1]at e; cases e
    ·rw[hs1]at e; cases e; exact#[l2,g1,g2,g3]
   have hl32:=hl3;have hw32:=hw3;have hul:u.toNat < nm.length:=∅
   have hvl:v'.toNat < nm.length:=∅
   refine ab (show eQ (.tp [10,11]) (aZ u v',W.ref l).1.w [gV (.ref r),gV (.tup (ac bs)),gV (.ref q),gV (.int bs.length),gV (.ref m),gV (.ref s),gV (.tup (ac nm)),gV (.ref S4.length),x8,gV (.ref S5.length),x10,x11] S6=gV ([gV (.ref r),gV (.tup (ac bs)),gV (.ref q),gV (.int bs.length),gV (.ref m),gV (.ref s),gV (.tup (ac nm)),gV (.ref S4.length),x8,gV (.ref S5.length),gV (.int u),gV (.int v')],S6)from rfl) λQ2 hn _=>?_
   refine st ?_;left;refine sV l2 (ac ws2) (λi zs Z2 S7=>(∃a1,Z2=[td,a1,gV (.tup (ac nm))])/\zs=ac ((ws2.take i).map λw=>nm.getD w.toNat 0)/\S7=S6) rfl rfl rfl ?_ ?_ ?_ ?_
   ·dsimp only[wE,wA,wV,wG];exact ab (mL (Bb q6) hg) #[rfl,#[_,rfl],rfl,rfl]
   ·rintro i zs Z2 S7 ⟨_,_,rfl⟩;exact hws2
   ·rintro i w zs Z2 S7 hw ⟨⟨a1,rfl⟩,rfl,rfl⟩;unfold ac at hw;rw[Jl,Jf]at hw;obtain⟨x,hx,rfl⟩:=hw;obtain⟨x0,x1⟩:=hw32 x (Jq hx);have hxl:x.toNat < nm.length:=∅
    refine ab (show eQ (.nm 1) (.int x) [td,a1,gV (.tup (ac nm))] S7=gV ([td,gV (.int x),gV (.tup (ac nm))],S7)from rfl) ?_
    dsimp only[ig,wC,wE,wA,wV,wG];refine#[λ_=>ae x0 (js x0 hxl) #[#[_,rfl],?_,rfl],λz=>by cases z]
    rw[JV,hx];simp[ac]
   ·rintro zs Z2 S7 ⟨_,rfl,rfl⟩;rw[show(ac ws2).length=ws2.length from Jb ..,J5]
    refine#[lU (by simp[ac]; omega),ae hu.1 (js hu.1 hul) (ae hv'.1 (js hv'.1 hvl) ?_)]
    refine ab (yn (aq o6) (by have:=mm6.len; rw[Jb,JQ]at this; have:=PX i L.length; dsimp only at h4; rw[Kq]; omega)) (aR (hn _ _ #[#[_,_,rfl],?_,(m6.ka .push).set (aq o6),?_,#[_,bg (aq o6),?_],(f6.ka .push).own ∅,(kp6.trans .push).late kp5.len]))
    ·rw[aY ∅]; exact aq q6
    ·rw[aY ∅]; exact aq t6
    ·rw[JV,hen,JI];rw[<- Mh]at hs2;refine(?_:MustL _ _ (d3 U' (aZ (ib nm (u,v',ws2)).1 (ib nm (u,v',ws2)).2.1) (.ref S7.length)) _);rw[mm6.fresh hs2];exact((mm6.ka .push).snoc (e:=ib nm (u,v',ws2)) kp6.len ah).set (aq o6)
  ·rintro Z S6 ⟨⟨x10,x11,rfl⟩,q6,m6,t6,⟨U',o6,mm6⟩,f6,kp6⟩;refine hK _ _ (st ?_);left;rw[hkl,J5]at mm6;exact eT t6 (k nm _ U' _ hnmm o6 kp5.len mm6 f6 kp6)
end
abbrev uV (x y z:Jk):Ja (T×W):=[(aZ 1 0,.int x),(aZ 2 0,.int y),(aZ 2 1,.int z)]
abbrev Bv (x y z a b c:Jk):Jg->Ja (T×W)
 | 0=>uV x y z
 | 1=>uV x y z++[(aZ 0 1,.int a)]
 | 2=>uV x y z++[(aZ 0 1,.int a),(aZ 0 2,.int b)]
 | _=>uV x y z++[(aZ 0 1,.int a),(aZ 0 2,.int b),(aZ 1 2,.int c)]
abbrev zw (x y z a b c:Jk):Jg->Jg->Jk
 | 0,1=>a
 | 0,2=>b
 | 1,0=>x
 | 1,2=>c
 | 2,0=>y
 | 2,1=>z
 | _,_=>0
def D1 {x y z a b c:Jk}:∀i j:Jg,i < 3->j < 3->i≠j->aJ (Bv x y z a b c 3) (aZ i j)=gV (.int (zw x y z a b c i j)):=by
 intro i j hi hj hij
 match i,j,hi,hj,hij with
 | 0,0,_,_,h=>exact absurd rfl h
 | 0,1,_,_,_=>rfl
 | 0,2,_,_,_=>rfl
 | 1,0,_,_,_=>rfl
 | 1,1,_,_,h=>exact absurd rfl h
 | 1,2,_,_,_=>rfl
 | 2,0,_,_,_=>rfl
 | 2,1,_,_,_=>rfl
 | 2,2,_,_,h=>exact absurd rfl h
abbrev D2 (p:Jk):Ji (Ja Jk)->JL
 | none=>false
 | some ws=>!(ws.any λw=>jz (.int w) (.int p))
abbrev D3 (L:Ja fL)(f:Jg->Jg->Jk)(t:Ja Jg):JL:=D2 (f (t.getD 0 0) (t.getD 2 0)) (zv L (f (t.getD 0 0) (t.getD 1 0)) (f (t.getD 1 0) (t.getD 2 0)))
abbrev pQ (bs:Ja Jk)(L:Ja fL)(x y z:Jk):JL:=am.any (D3 L (zw x y z (bs.getD x.toNat 0) (bs.getD y.toNat 0) (bs.getD z.toNat 0)))
def pR:∀t∈am,t.length=3/\t.getD 0 0 < 3/\t.getD 1 0 < 3/\t.getD 2 0 < 3/\t.getD 0 0≠t.getD 1 0/\t.getD 1 0≠t.getD 2 0/\t.getD 0 0≠t.getD 2 0:=by decide
def pS {t:Ja Jg}(h:t∈am):∃i j k:Jg,t=[i,j,k]/\i < 3/\j < 3/\k < 3/\i≠j/\j≠k/\i≠k:=by
 obtain⟨h1,h2⟩:=pR t h
 match t,h1,h2 with
 | [i,j,k],_,h2=>exact#[i,j,k,rfl,h2]
section
variable{defs:Ja (JG×Df)}{fuel d:Jg}{S:aa}{r:Jg}{Q:QW}
def yo {l:Jg}{f:Jk}{ws:Ja Jk}(h:S[l]?=gV (.lst (ac ws))):aP .notin (.int f) (.ref l) S=gV (.bl (!(ws.any λw=>jz (.int w) (.int f))),S):=by
 have hf:(bB (.int f)&&(ac ws).all bB)=true:=by
  simp only[bB,LI,JB];intro x hx;obtain⟨z,_,rfl⟩:=Jy.mp hx;rfl
 have ha:((ac ws).any λz=>jz z (.int f))=ws.any λw=>jz (.int w) (.int f):=by unfold ac; rw[Rk]; rfl
 simp only[aP,jW h,dC,ud,Ae,eN,aK h,hf,LV,J4,ha]
def D4 {q:Jg}{U:Ja (T×W)}(h:S[q]?=gV (.dic U)):tyOk "dict" S (.ref q)=true:=by simp[tyOk,bP h]
def Bw {q:Jg}{U:Ja (T×W)}(h:S[q]?=gV (.dic U))(k:Q (.ref S.length,S++[.lst (U.map λp=>p.1.w)])):wO (Bi.list.fn [.ref q] S) Q:=by
 refine ab ?_ k;have h1:wj S q=td:=by simp[wj,h]
 have h2:ko [.ref q] S=td:=by simp[ko,h1,gW,eN,nV h]
 simp only[Bi.fn,EB,h2,kC,bP h]
def yp (G:Gen defs){bs:Ja Jk}{q b0:Jg}{U:Ja (T×W)}{L:Ja fL}{x y z:Jk}(hb:GoodB bs)(hx:0<=x/\x < bs.length)(hy:0<=y/\y < bs.length)(hz:0<=z/\z < bs.length)(hq:S[q]?=gV (.dic U))(hm:MustL S b0 U L)
  (k:∀S',Ka S S'->Q (.bl (pQ bs L x y z),S')):wO (aF (ar defs fuel (d+2)) "_law_breaks" 5 [.tup (ac bs),.ref q,.int x,.int y,.int z] S) Q:=by
 refine aw G.breaks rfl rfl λQ' hR=>?_
 replace k:∀S',Ka S S'->Q' (.rt (.bl (pQ bs L x y z)),S'):=λa b=>hR _ _ (k a b)
 clear hR;show wZ _ _ dM [gV (.tup (ac bs)),gV (.ref q),gV (.int x),gV (.int y),gV (.int z),td,td,td,td,td] S Q';unfold pQ at k;have ha1:bs[x.toNat]?=gV (bs.getD x.toNat 0):=ak ∅
 have hb1:bs[y.toNat]?=gV (bs.getD y.toNat 0):=ak ∅
 have hc1:bs[z.toNat]?=gV (bs.getD z.toNat 0):=ak ∅
 generalize bs.getD x.toNat 0=a at ha1 k;generalize bs.getD y.toNat 0=b at hb1 k;generalize bs.getD z.toNat 0=c at hc1 k;have hqt:=bK hq;unfold dM;nofun
 left;refine#[ah,ab (show dE [] [.tup [.int 1,.int 0],.int x,.tup [.int 2,.int 0],.int y,.tup [.int 2,.int 1],.int z]=gV (uV x y z)from rfl) (hK _ _ ?_)]
 clear hK K;have e1:((S++[O.dic []]).set S.length (.dic (uV x y z)))[S.length]?=gV (.dic (uV x y z)):=bg ah;have k1:Ka S ((S++[O.dic []]).set S.length (.dic (uV x y z))):=Ka.push.late (Jo _);have l1:((S++[O.dic []]).set S.length (.dic (uV x y z))).length=S.length+1:=by simp
 generalize(S++[O.dic []]).set S.length (.dic (uV x y z))=S1 at e1 k1 l1 ⊢;nofun
 refine c9 rfl rfl ?_;dsimp only[wE,wA,wV,wG];refine Bw e1 #[S1.length,[dy 1 0,dy 2 0,dy 2 1],(λk Z S'=>(∃x6,Z=[gV (.tup (ac bs)),gV (.ref q),gV (.int x),gV (.int y),gV (.int z),gV (.ref S.length),x6,td,td,td])/\S'[S.length]?=gV (.dic (Bv x y z a b c k))/\S'[S1.length]?=gV (.lst [dy 1 0,dy 2 0,dy 2 1])/\Ka S S'),rfl,#[#[_,rfl],aq e1,ah,k1.trans .push],λi Z S' h=>h.2.2.1,?_,?_]
 ·have step:∀(u v f g:Jk) (kv kv':Ja (T×W)) (S':aa) (i:Jg),aJ kv (aZ u v)=gV (.int f)->0<=f->bs[f.toNat]?=gV g->kv.length < 10->d3 kv (aZ v u) (.int g)=kv'->Bv x y z a b c (i+1)=kv'->∀x6:Ji W,S'[S.length]?=gV (.dic kv)->S'[S1.length]?=gV (.lst [dy 1 0,dy 2 0,dy 2 1])->Ka S S'->
    wO (eQ (.nm 6) (dy u v) [gV (.tup (ac bs)),gV (.ref q),gV (.int x),gV (.int y),gV (.int z),gV (.ref S.length),x6,td,td,td] S') λp=>uO (ar defs fuel (d+1)) fuel #v[.put (.v 5) (.tup #v[.ix (.v 6) (.c (.int 1)),.ix (.v 6) (.c (.int 0))]) (.ix (.v 0) (.ix (.v 5) (.v 6)))] p.1 p.2 (λZ S'=>(∃x6,Z=[gV (.tup (ac bs)),gV (.ref q),gV (.int x),gV (.int y),gV (.int z),gV (.ref S.length),x6,td,td,td])/\S'[S.length]?=gV (.dic (Bv x y z a b c (i+1)))/\S'[S1.length]?=gV (.lst [dy 1 0,dy 2 0,dy 2 1])/\Ka S S') Q':=by
   clear hK k;intro u v f g kv kv' S' i h1 h2 h3 h4 h5 h6 x6 e e' k;refine ab (show eQ (.nm 6) (dy u v) [gV (.tup (ac bs)),gV (.ref q),gV (.int x),gV (.int y),gV (.int z),gV (.ref S.length),x6,td,td,td] S'=gV ([gV (.tup (ac bs)),gV (.ref q),gV (.int x),gV (.int y),gV (.int z),gV (.ref S.length),gV (dy u v),td,td,td],S')from rfl) λQ2 hn _=>?_
   refine st ?_;left;refine ab (mL (bP e) h1) (ae h2 (w:=.int g) (by unfold ac; rw[Jl,h3]; rfl) (ae #v[] rfl (ae #v[] rfl ?_)))
   refine ab (yn e (by rw[Kq]; omega)) (aR (hn _ _ #[#[_,rfl],?_,?_,k.late (Jo _)]))
   ·rw[bg e,h5,h6]
   ·rw[aY ∅]; exact e'
  rintro i w Z S2 hw ⟨⟨x6,rfl⟩,e2,l2,k2⟩
  match i,hw,e2 with
  | 0,hw,e2=>cases hw; exact step 1 0 x a _ _ S2 0 (by rfl) hx.1 ha1 (by simp[Bv,uV]) (by rfl) (by rfl) x6 e2 l2 k2
  | 1,hw,e2=>cases hw; exact step 2 0 y b _ _ S2 1 (by rfl) hy.1 hb1 (by simp[Bv,uV]) (by rfl) (by rfl) x6 e2 l2 k2
  | 2,hw,e2=>cases hw; exact step 2 1 z c _ _ S2 2 (by rfl) hz.1 hc1 (by simp[Bv,uV]) (by rfl) (by rfl) x6 e2 l2 k2
  | n+3,hw,_=>simp at hw
 ·rintro Z S2 ⟨⟨x6,rfl⟩,e2,l2,k2⟩;have hv:=D1 (x:=x) (y:=y) (z:=z) (a:=a) (b:=b) (c:=c);generalize hB:D3 L (zw x y z a b c)=B at k;have e2:S2[S.length]?=gV (.dic (Bv x y z a b c 3)):=e2;refine hK _ _ ?_;clear hK K;have hlt2:=bK e2;nofun
  refine c9 rfl rfl ?_;dsimp only[wE,wA,wV,wG];refine jY (d:=d) G #[S2.length,am.map (λt=>W.tup (az t)),(λk Z S'=>(∃x7 x8 x9,Z=[gV (.tup (ac bs)),gV (.ref q),gV (.int x),gV (.int y),gV (.int z),gV (.ref S.length),x6,x7,x8,x9])/\S'[S.length]?=gV (.dic (Bv x y z a b c 3))/\S'[S2.length]?=gV (.lst (am.map (λt=>W.tup (az t))))/\Ka S S'/\(am.take k).any B=false),rfl,#[#[_,_,_,rfl],aq e2,ah,k2.trans .push,rfl],λi Z S' h=>h.2.2.1,?_,?_]
  ·rintro i w Z S3 hw ⟨⟨x7,x8,x9,rfl⟩,e3,l3,k3,h3⟩;clear hK;rw[Jl,Jf]at hw;obtain⟨t,ht,rfl⟩:=hw;have htm:=Jq ht;have hBt:B t=D3 L (zw x y z a b c) t:=by rw[hB]
   obtain⟨i1,j1,h1,rfl,hi1,hj1,hh1,n1,n2,n3⟩:=pS (Jq ht);have g1:=hv i1 j1 hi1 hj1 n1;have g2:=hv j1 h1 hj1 hh1 n2;have g3:=hv i1 h1 hi1 hh1 n3;replace hBt:B [i1,j1,h1]=D2 (zw x y z a b c i1 h1) (zv L (zw x y z a b c i1 j1) (zw x y z a b c j1 h1)):=hBt;generalize zw x y z a b c i1 j1=p1 at g1 hBt;generalize zw x y z a b c j1 h1=p2 at g2 hBt;generalize zw x y z a b c i1 h1=p3 at g3 hBt;have q3:=k3.get _ _ hq;refine ab (show eQ (.tp [7,8,9]) (W.tup (az [i1,j1,h1])) [gV (.tup (ac bs)),gV (.ref q),gV (.int x),gV (.int y),gV (.int z),gV (.ref S.length),x6,x7,x8,x9] S3=gV ([gV (.tup (ac bs)),gV (.ref q),gV (.int x),gV (.int y),gV (.int z),gV (.ref S.length),x6,gV (.int i1),gV (.int j1),gV (.int h1)],S3)from rfl) λQ2 hn hr=>?_
   nofun
   dsimp only[wS,wT,wE,wA,wV,wG];refine ab (mL (bP e3) g3) #[D4 q3,ab (mL (bP e3) g1) (ab (mL (bP e3) g2) (ab (mL (bP e3) g3) ?_))];have hget:Me.get.fn (.ref q) [.tup [.int p1,.int p2],.ref S3.length] (S3++[O.lst [.int p3]])=gV ((aJ U (aZ p1 p2)).getD (.ref S3.length),S3++[O.lst [.int p3]]):=by
    have hk:gK (.tup [.int p1,.int p2])=gV (aZ p1 p2):=iR;simp only[Me.fn,sj,bP (aq q3),hk]
   refine ab hget ?_;have hres:∃(l:Jg) (ws:Ja Jk),(aJ U (aZ p1 p2)).getD (.ref S3.length)=.ref l/\(S3++[O.lst [.int p3]])[l]?=gV (.lst (ac ws))/\(!(ws.any λw=>jz (.int w) (.int p3)))=B [i1,j1,h1]:=by
    rcases(hm.ka k3).look p1 p2 with⟨hg,hl⟩|⟨l,ws,hg,_,hl,he⟩
    ·refine#[S3.length,[p3],by rw[hg]; rfl,ah,?_]
     rw[hBt,hl];simp[jz,D2]
    ·refine#[l,ws,by rw[hg]; rfl,aq hl,?_]
     rw[hBt,he]; rfl
   obtain⟨l,ws,hl1,hl2,hl3⟩:=hres;dsimp only;rw[hl1];refine ab (yo (f:=p3) hl2) ?_;dsimp only[wB];rw[hl3];refine aj (Q0:=Q2) (λhb Q3 _ hr3=>st (hr3 _ _ (hr _ _ ?_))) λhb Q3 hn3 _=>aR (hn3 _ _ (hK _ _ (aR (hn _ _ #[#[_,_,_,rfl],aq e3,aq l3,k3.trans .push,?_]))))
   ·have:=k _ (k3.trans (Ka.push (o:=O.lst [.int p3])))
    rwa [Lm.mpr #[_,htm,hb]]at this
   ·rw[JV,ht,List.any_append,h3,NG];show(B [i1,j1,h1]||false)=false
    rw[hb]; rfl
  ·rintro Z S3 ⟨⟨x7,x8,x9,rfl⟩,e3,l3,k3,h3⟩;rw[Jb,J5]at h3;have:=k _ k3;rw[h3]at this;exact hK _ _ (st this)
end
abbrev zx (k:Jk):Wd:=[(0,[]),(0,[k]),(0,[k,k])]
def Bx:∀g∈[zx 0,zx 1],g∈aN 1 [0,1]:=by decide +kernel
abbrev uW (a k:Jk):Wd:=[(0,[]),(k,[0]),(a - 1,[0,0])]
def yq:∀k∈cM 2,uW 2 k∈aN 2 [0]:=by decide +kernel
def yr:∀k∈cM 3,uW 3 k∈aN 3 [0]:=by decide +kernel
def By {a x y:Jk}(h:uW a x=uW a y):x=y:=by
 unfold uW at h;injection h with _ h
 injection h with h _
 injection h
def tm {a n:Jg}{m0 m1 m2 x y z:Jk}(h0:0<=m0/\m0 < a)(h1:0<=m1/\m1 < a)(h2:0<=m2/\m2 < a)(hx:0<=x/\x < n)(hy:0<=y/\y < n)(hz:0<=z/\z < n):GoodW a n [(m0,[]),(m1,[x]),(m2,[y,z])]:=by
 refine#[λk p h=>?_,λk p h=>?_,λk p h=>?_] <;> match k,h with
 | 0,h=>cases h; first|exact h0|rfl|(intro w hw; cases hw)
 | 1,h=>cases h; first|exact h1|rfl|(intro w hw; rw[Jv.mp hw]; exact hx)
 | 2,h=>cases h; first|exact h2|rfl|(intro w hw; rcases JR.mp hw with e|hw <;> first|exact e ▸ hy|(rw[Jv.mp hw]; exact hz))
 | n+3,h=>simp at h
def D5 {M:JG->FF}{Z:Fm}{S:aa}{i n:Jg}{Q:QW}(hv:∀Q:W->Prop,Q (.int n)->wV Z i Q)(hn:n<=3)(k:∀j:Jk,0<=j->j<=27->j=(n:Jk)*n*n->Q (.int j,S)):wE M (.op .mul (.op .mul (.v i) (.v i)) (.v i)) Z S Q:=by
 have b1 : -(2 ^ 64) < (n:Jk):=∅
 have b2:(n:Jk) < 2 ^ 64:=∅
 have hc:(n:Jk)*n*n<=27/\0<=(n:Jk)*n*n:=by rcases(show n=0\/n=1\/n=2\/n=3 by omega)with h|h|h|h <;> rw[h] <;> decide
 dsimp only[wE];have em:∀m:Jk,iu .mul (.int m) (.int n) S=gV (.int (m*n),S):=λm=>sS b1 b2
 generalize iu .mul=B at em ⊢;refine hv _ ?_;refine hv _ ?_;refine ab (em _) ?_;refine hv _ ?_;refine ab (em _) ?_;have:=k _ hc.2 hc.1 rfl;exact this
def yt {M:JG->FF}{fuel:Jg}{Z:Fm}{S:aa}{K:Fm->aa->Prop}{Q:QO}{i0 i n:Jg}{b:Ss}(hv:∀Q:W->Prop,Q (.int n)->wV Z i Q)(hn:n<=3)(ok:fY b=true)
  (h:∀j:Jk,0<=j->j<=27->j=(n:Jk)*n*n->∃I:Jg->Fm->aa->Prop,I 0 Z S/\(∀(i:Jg) (Z:Fm) (S:aa),(i:Jk) < j->I i Z S->uO M fuel b (Z.set i0 (gV (.int i))) S (I (i+1)) Q)/\∀Z S,I j.toNat Z S->K Z S) :
  Wp (fM M fuel (.loop (.nm i0) (.rng #v[.op .mul (.op .mul (.v i) (.v i)) (.v i)]) b) Z S) (pv K Q):=
 have hw:=D5 (M:=M) (S:=S) (Q:=λp=>∃(j:Jk) (I:Jg->Fm->aa->Prop),p.1=.int j/\(-(2 ^ 62)<=j/\j < 2 ^ 62)/\I 0 Z p.2/\(∀(i:Jg) (Z:Fm) (S:aa),(i:Jk) < j->I i Z S->uO M fuel b (Z.set i0 (gV (.int i))) S (I (i+1)) Q)/\∀Z S,I j.toNat Z S->K Z S) hv hn λj j0 j27 e=>let ⟨I,h0,h1,h2⟩:=h j j0 j27 e; #[j,I,rfl,∅,h0,h1,h2]
 pI rfl ok hw
abbrev w3 (t:Jk×Jk×Jk)(x y z:Jk):Wd:=[(t.1,[]),(t.2.1,[x]),(t.2.2,[y,z])]
abbrev ED (a:Jg)(bs:Ja Jk)(L:Ja fL)(x y z:Jk)(g:Wd):Prop:=pQ bs L x y z=true/\∃t,Ris a t/\g=cj bs (w3 t x y z)
abbrev yu (a:Jg)(bs:Ja Jk)(gs:Ja Wd):Prop:=∃bs0 L most nm,(bs0,L,most)∈KT/\nm∈gf bs0/\bs=cQ bs0 nm bs0.length/\(a:Jk)<=most/\∀g,g∈gs↔∃x y z:Jk,(0<=x/\x < bs.length)/\(0<=y/\y < bs.length)/\(0<=z/\z < bs.length)/\ED a bs (L.map (ib nm)) x y z g
abbrev yv (a:Jg)(bs:Ja Jk)(gs:Ja Wd):Prop:=Bn a bs gs\/pJ a bs gs\/yu a bs gs
def yw {n:Jg}{P:Jk->Jk->Jk->Prop}(hn:n=2\/n=3){j:Jk}(hj:j=(n:Jk)*n*n):(∃k:Jg,k < j.toNat/\P ((k:Jk) % n) ((k:Jk) / n % n) ((k:Jk) / n / n))↔∃x y z:Jk,(0<=x/\x < n)/\(0<=y/\y < n)/\(0<=z/\z < n)/\P x y z:=by
 constructor
 ·rintro⟨k,hk,h⟩;refine#[_,_,_,?_,?_,?_,h] <;> rcases hn with rfl|rfl <;> omega
 ·rintro⟨x,y,z,hx,hy,hz,h⟩;refine#[(x+n*y+n*n*z).toNat,?_,?_]
  ·rcases hn with rfl|rfl <;> omega
  ·have e:(((x+n*y+n*n*z).toNat:Jg):Jk)=x+n*y+n*n*z:=by rcases hn with rfl|rfl <;> omega
   rw[e];have e1:(x+n*y+n*n*z) % n=x:=by rcases hn with rfl|rfl <;> omega
   have e2:(x+n*y+n*n*z) / n % n=y:=by rcases hn with rfl|rfl <;> omega
   have e3:(x+n*y+n*n*z) / n / n=z:=by rcases hn with rfl|rfl <;> omega
   rw[e1,e2,e3]; exact h
section
variable{defs:Ja (JG×Df)}{fuel d:Jg}{S:aa}{r:Jg}{Q:QW}
def yy (hfu:20 < fuel)(G:Gen defs)(hf:Fl S r)(k:∀w S',RuleG yv w->Fl S' r->Kp r S S'->Q (w,S')):wO (aF (ar defs fuel (d+7)) "_law_laying_rule" 1 [.ref r] S) Q:=by
 refine aw G.laying_rule rfl rfl λQ' hR=>?_
 replace k:∀w S',RuleG yv w->Fl S' r->Kp r S S'->Q' (.rt w,S'):=λz S' a b c=>hR _ _ (k z S' a b c)
 clear hR;show wZ _ _ b8 [gV (.ref r),td,td,td,td,td,td,td,td,td,td,td,td,td,td] S Q';unfold b8;nofun
 left;refine aU (d:=d+5) G.pick hf #v[] #v[] λv S1 v0 v7 f1 k1=>hK _ _ ?_
 clear hK K;nofun
 dsimp only[wS,wT,wE,wV,wG,lT,aV,wB];refine aj (Q0:=Q') (λ_ Q2 _ hr=>?_) (λ_ Q2 hn _=>aR (hn _ _ (hK _ _ ?_)))
 ·refine st ?_;left;exact pL (d:=d) hfu G f1 λw S2 a b c=>hr _ _ (k w S2 (a.imp λ_ _ _ h=>.inr (.inl h)) b (k1.trans c))
 clear hK K hn;nofun
 dsimp only[wS,wT,wE,wV,wG,lT,aV,wB];refine aj (Q0:=Q') (λ_ Q2 _ hr=>?_) (λ_ Q2 hn _=>aR (hn _ _ (hK _ _ ?_)))
 ·refine st ?_;left;exact uS (d:=d) hfu G f1 λw S2 a b c=>hr _ _ (k w S2 (a.imp λ_ _ _ h=>.inl h) b (k1.trans c))
 clear hK K hn;have hr1:=f1.lt;nofun
 left;refine lV (d:=d+4) G f1 λw2 S2 hw2 f2 k2=>?_
 obtain⟨bs0,q0,U0,L0,most,rfl,hkt,hq0,hq0l,hm0⟩:=hw2;obtain⟨hbs0,m1,m3,m6,_⟩:=yj _ hkt;dsimp only at hbs0 m1 m3 m6;dsimp only[wU];refine ab (show c7 [2,3,4] [.tup (ac bs0),.ref q0,.int most] [gV (.ref r),gV (.int v),td,td,td,td,td,td,td,td,td,td,td,td,td]=gV [gV (.ref r),gV (.int v),gV (.tup (ac bs0)),gV (.ref q0),gV (.int most),td,td,td,td,td,td,td,td,td,td]from rfl) (hK _ _ ?_)
 clear hK K;nofun
 left;refine aU (d:=d+5) G.pick f2 ∅ ∅ λv3 S3 v30 v3m f3 k3=>?_
 dsimp only[cO,aV];obtain⟨a,ea⟩ : ∃a:Jg,1+v3=a:=#[(1+v3).toNat,∅]
 rw[ea];refine hK _ _ ?_;clear hK K;nofun
 left;refine q8 (d:=d+4) G (S0:=S1) hkt f3 hr1 (k2.trans k3) (k3.get _ _ ∅ hq0) hq0l (hm0.kp hr1 k3) λnm q U S4 hnmm hq hql hm f4 k4=>?_
 have hb:=(tj bs0 hbs0 nm hnmm).2.2.2;have hbl:=gH bs0 nm bs0.length;have hKG:∀gs,(∀g,g∈gs↔∃x y z:Jk,(0<=x/\x < (cQ bs0 nm bs0.length).length)/\(0<=y/\y < (cQ bs0 nm bs0.length).length)/\(0<=z/\z < (cQ bs0 nm bs0.length).length)/\ED a (cQ bs0 nm bs0.length) (L0.map (ib nm)) x y z g)->yu a (cQ bs0 nm bs0.length) gs:=λgs h=>#[bs0,L0,most,nm,hkt,hnmm,rfl,∅,h]
 generalize cQ bs0 nm bs0.length=bs at hb hbl hKG ⊢;generalize L0.map (ib nm)=L at hm hKG;dsimp only[wU];refine ab (show c7 [2,3] [.tup (ac bs),.ref q] [gV (.ref r),gV (.int v),gV (.tup (ac bs0)),gV (.ref q0),gV (.int most),gV (.int a),td,td,td,td,td,td,td,td,td]=gV [gV (.ref r),gV (.int v),gV (.tup (ac bs)),gV (.ref q),gV (.int most),gV (.int a),td,td,td,td,td,td,td,td,td]from rfl) (hK _ _ ?_)
 clear hK K;rw[<- hbl]at m6;have hn:bs.length=2\/bs.length=3:=by rw[hbl]; exact(ym bs0 hbs0).1
 have hsz:SizeOk a bs:=#[∅,hb,by
  have h1:(a:Jk)*bs.length<=most*bs.length:=Int.mul_le_mul_of_nonneg_right ∅ ∅
  exact_mod_cast Int.le_trans h1 m6,∅]
 clear m6 hm0 hq0 hq0l hbl hbs0 k2 k3 f2 f3;nofun
 left;refine fB (d:=d+1) hfu G f4 ∅ ∅ λms ns S5 hml hnl hnm f5 k5=>hK _ _ ?_
 clear hK K;have kk:Kp r S S5:=k1.trans (k4.trans k5);have hrt:=f5.lt;have hq5:S5[q]?=gV (.dic U):=k5.get _ _ ∅ hq
 have hm5:MustL S5 S1.length U L:=hm.kp hr1 k5;have hqn:q < S5.length:=bK hq5;clear k1 k4 k5 f4 hm hq hql f1;refine st ?_;dsimp only[wS,wE,Jr];nofun
 left;refine aD ?_;rw[show(ac bs).length=bs.length from Jb ..]
 refine hK _ _ ?_;clear hK K;nofun
 refine yt (n:=bs.length) (λQ q=>q) ∅ rfl λj j0 j27 hj=>?_
 refine#[(λi Z S'=>(∃x9 x10 x11 x12 x13 x14,Z=[gV (.ref r),gV (.int v),gV (.tup (ac bs)),gV (.ref q),gV (.int most),gV (.int a),gV (b9 ms ns bs []),gV (.ref S5.length),gV (.int bs.length),x9,x10,x11,x12,x13,x14])/\(∃U fs,S'[S5.length]?=gV (.dic U)/\FigD (aN a bs) U fs/\∀g,g∈fs↔∃k:Jg,k < i/\ED a bs L ((k:Jk) % bs.length) ((k:Jk) / bs.length % bs.length) ((k:Jk) / bs.length / bs.length) g)/\S'[q]?=gV (.dic U)/\MustL S' S1.length U L/\Fl S' r/\Kp r S S'),#[#[_,_,_,_,_,_,rfl],#[[],[],ah,.nil,λg=>#[λh=>(nomatch h),λ#[k,h,_]=>(nomatch h)]],aq hq5,hm5.ka .push,f5.ka .push,kk.trans .push],?_,?_]
 ·rintro i Z S6 hi ⟨⟨x9,x10,x11,x12,x13,x14,rfl⟩,⟨kvd,fs,e6,hd,hfs⟩,hq6,hm6,f6,k6⟩ Q2 hn2 _;clear hK k hKG;have hnp:(0:Jk) < bs.length:=∅
  have hnb:(bs.length:Jk) < 1073741824:=∅
  have y1:0<=(i:Jk) % bs.length/\(i:Jk) % bs.length < bs.length:=#[LR _ ∅,Ll _ hnp]
  have y2:0<=(i:Jk) / bs.length % bs.length/\(i:Jk) / bs.length % bs.length < bs.length:=#[LR _ ∅,Ll _ hnp]
  have y3:0<=(i:Jk) / bs.length / bs.length/\(i:Jk) / bs.length / bs.length < bs.length:=by
   rcases hn with h|h <;> rw[h]at hj ⊢ <;> omega
  nofun
  left;refine ab (kQ hnp) (ab (nT hnp hnb) (ab (kQ hnp) ?_));dsimp only[w2];refine hK _ _ ?_;clear hK K;nofun
  left;refine ab (nT hnp hnb) (ab (nT hnp hnb) (hK _ _ ?_));clear hK K;dsimp only;have nxt:∀fs':Ja Wd,(∀g,g∈fs'↔g∈fs\/ED a bs L ((i:Jk) % bs.length) ((i:Jk) / bs.length % bs.length) ((i:Jk) / bs.length / bs.length) g)->∀g,g∈fs'↔∃k:Jg,k < i+1/\ED a bs L ((k:Jk) % bs.length) ((k:Jk) / bs.length % bs.length) ((k:Jk) / bs.length / bs.length) g:=λfs' h g=>by
   rw[h,hfs];constructor
   ·rintro(⟨k,hk,h⟩|h)
    ·exact#[k,∅,h]
    ·exact#[i,∅,h]
   ·rintro⟨k,hk,h2⟩
    by_cases e:k=i
    ·rw[e]at h2; exact .inr h2
    ·exact .inl #[k,∅,h2]
  generalize(i:Jk) % bs.length=z1 at y1 nxt ⊢;generalize(i:Jk) / bs.length % bs.length=z2 at y2 nxt ⊢;generalize(i:Jk) / bs.length / bs.length=z3 at y3 nxt ⊢;clear hfs;nofun
  dsimp only[wS,wT,wA,wE,wV,wG];refine yp (d:=d+4) G hb y1 y2 y3 hq6 hm6 λS7 k7=>?_
  dsimp only[cU,aV];refine aj (Q0:=Q2) (λhbr Q3 hn3 _=>?_) (λhbr Q3 hn3 _=>aR (hn3 _ _ (hK _ _ (aR (hn2 _ _ #[#[_,_,_,_,_,_,rfl],#[kvd,fs,k7.get _ _ e6,hd,nxt fs λg=>#[.inl,λh=>h.elim id λh=>by rw[h.1]at hbr; cases hbr]],k7.get _ _ hq6,hm6.ka k7,f6.ka k7,k6.trans (k7.kp r)])))))
  refine aG λK3 hK3=>?_
  refine c9 rfl rfl ?_;dsimp only[wE,wA,wV,wG];have h56:S5.length < S6.length:=bK e6;have h67:=k7.len;refine pK (d:=d+5) G (a:=a) ∅ λt ts S8 e8 ht ht7 k8=>?_
  refine#[t,ts.map eU,(λj Z S'=>(∃x9 x13 x14,Z=[gV (.ref r),gV (.int v),gV (.tup (ac bs)),gV (.ref q),gV (.int most),gV (.int a),gV (b9 ms ns bs []),gV (.ref S5.length),gV (.int bs.length),x9,gV (.int z1),gV (.int z2),gV (.int z3),x13,x14])/\(∃U fs',S'[S5.length]?=gV (.dic U)/\FigD (aN a bs) U fs'/\∀g,g∈fs'↔g∈fs\/∃t∈ts.take j,g=cj bs (w3 t z1 z2 z3))/\S'[q]?=gV (.dic U)/\MustL S' S1.length U L/\S'[t]?=gV (.lst (ts.map eU))/\Fl S' r/\Kp r S S'),rfl,#[#[_,_,_,rfl],#[kvd,fs,k8.get _ _ (k7.get _ _ e6),hd,λg=>#[.inl,λh=>h.elim id λ#[t,h,_]=>by simp at h]],k8.get _ _ (k7.get _ _ hq6),(hm6.ka k7).ka k8,e8,(f6.ka k7).ka k8,k6.trans ((k7.trans k8).kp r)],λi Z S' h=>h.2.2.2.2.1,?_,?_]
  ·rintro j w Z S9 hw ⟨⟨x9,x13,x14,rfl⟩,⟨kvd,fs',e9,hd,hfs⟩,hq9,hm9,ht9,f9,k9⟩;clear hK3 hn3 hK hn2 nxt;rw[Jl,Jf]at hw;obtain⟨⟨tr1,tr2,tr3⟩,htr,rfl⟩:=hw;obtain⟨t1,t2,t3⟩:=((ht _).mp (Jq htr)).ok;refine ab (show eQ (.nm 13) (eU (tr1,tr2,tr3)) [gV (.ref r),gV (.int v),gV (.tup (ac bs)),gV (.ref q),gV (.int most),gV (.int a),gV (b9 ms ns bs []),gV (.ref S5.length),gV (.int bs.length),x9,gV (.int z1),gV (.int z2),gV (.int z3),x13,x14] S9=gV ([gV (.ref r),gV (.int v),gV (.tup (ac bs)),gV (.ref q),gV (.int most),gV (.int a),gV (b9 ms ns bs []),gV (.ref S5.length),gV (.int bs.length),x9,gV (.int z1),gV (.int z2),gV (.int z3),gV (eU (tr1,tr2,tr3)),x14],S9)from rfl) λQ4 hn4 _=>?_
   have hu:GoodW a bs.length [(tr1,[]),(tr2,[z1]),(tr3,[z2,z3])]:=tm t1 t2 t3 y1 y2 y3;nofun
   left;refine ae #v[] rfl (ae #v[] rfl (hK _ _ ?_))
   clear hK K;refine st ?_;left;refine ae #v[] rfl (ab (bO (gb rfl)) ?_)
   refine iO (d:=d+3) (m0:=.tup (ms.map W.str)) (b0:=.tup []) (u:=[(tr1,[]),(tr2,[z1]),(tr3,[z2,z3])]) G hb hnl hu rfl λS10 k10=>?_
   have e10:=k10.get _ _ e9;refine qY e10 hd hsz hu rfl λo fs2 #[kvd2,ho1,ho2] ho3=>aR (hn4 _ _ #[#[_,_,_,rfl],#[kvd2,fs2,ho1,ho2,λg=>?_],by rw[aY ∅]; exact k10.get _ _ hq9,(hm9.ka k10).set e10,by rw[aY ∅]; exact k10.get _ _ ht9,(f9.ka k10).own hrt,(k9.trans (k10.kp r)).late kk.len])
   rw[ho3,hfs,JV,htr];constructor
   ·rintro((h|⟨t,h,e⟩)|rfl)
    ·exact .inl h
    ·exact .inr #[t,Kz _ h,e]
    ·exact .inr #[(tr1,tr2,tr3),JO _ (by simp),rfl]
   ·rintro(h|⟨t,h,rfl⟩)
    ·exact .inl (.inl h)
    ·rcases JN.mp h with h|h
     ·exact .inl (.inr #[t,h,rfl])
     ·have:t=(tr1,tr2,tr3):=by simpa using h
      subst this;exact .inr rfl
  ·rintro Z S9 ⟨⟨x9,x13,x14,rfl⟩,⟨kvd2,fs2,h1,h2,h3⟩,hq9,hm9,ht9,f9,k9⟩;rw[Jb,J5]at h3;refine hK3 _ _ (aR (hn3 _ _ (hK _ _ (aR (hn2 _ _ #[#[_,_,_,_,_,_,rfl],#[kvd2,fs2,h1,h2,nxt fs2 λg=>?_],hq9,hm9,f9,k9])))))
   rw[h3];refine or_congr PJ #[λ#[t,h,e]=>#[hbr,t,(ht t).mp h,e],λ#[_,t,h,e]=>#[t,(ht t).mpr h,e]]
 ·rintro Z S6 ⟨⟨x9,x10,x11,x12,x13,x14,rfl⟩,⟨kvd,fs,e6,hd,hfs⟩,hq6,hm6,f6,k6⟩;refine hK _ _ (st ?_);left;exact yd (P:=yv) (Q:=λp=>Q' (.rt p.1,p.2)) e6 hd hsz hml hnl hnm (.inr (.inr (hKG fs λg=>(hfs g).trans (yw (P:=λx y z=>ED a bs L x y z g) hn hj)))) λw S8 hw k8=>k w S8 hw (f6.ka k8) (k6.trans (k8.kp r))
end
abbrev Gk:Ja (Jk×Jk×Jk):=[(1,1,0),(1,1,1),(1,0,1),(0,1,1)]
abbrev Ij:Ja Wd:=[(0,0,0),(0,0,1),(0,1,1),(1,1,1)].flatMap λt=>Gk.map λy=>cj [0,1] (w3 t y.1 y.2.1 y.2.2)
def Gm {t:Jk×Jk×Jk}:Ris 2 t↔t∈[(0,0,0),(0,0,1),(0,1,1),(1,1,1)]:=by
 obtain⟨t1,t2,t3⟩:=t;unfold Ris;simp only[JR,MG,Ks,LX];omega
abbrev EE (a:Jg)(bs:Ja Jk)(gs:Ja Wd):Prop:=(a=1/\bs=[0,1]/\gs=[zx 0,zx 1])\/(a=2/\bs=[0,1]/\∀g,g∈gs↔g∈Ij)\/((a=2\/a=3)/\bs=[0]/\∃m:Jg,1<=m/\m<=3/\gs=((cM a).map (uW a)).take m)
section
variable{defs:Ja (JG×Df)}{fuel d:Jg}{S:aa}{r:Jg}{Q:QW}
def q9 (hfu:20 < fuel)(G:Gen defs)(hun:Is defs ("_law_unlaying_rule" : JG) 1 10 bf)(hf:Fl S r)(k:∀w S',RuleG EE w->Fl S' r->Kp r S S'->Q (w,S')):wO (aF (ar defs fuel (d+6)) "_law_unlaying_rule" 1 [.ref r] S) Q:=by
 refine aw hun rfl rfl λQ' hR=>?_
 replace k:∀w S',RuleG EE w->Fl S' r->Kp r S S'->Q' (.rt w,S'):=λz S' a b c=>hR _ _ (k z S' a b c)
 clear hR;show wZ _ _ bf [gV (.ref r),td,td,td,td,td,td,td,td,td] S Q';unfold bf;nofun
 left;refine aU (d:=d+4) G.pick hf #v[] #v[] λv S1 v0 v7 f1 k1=>hK _ _ ?_
 clear hK K;have hlt:=f1.lt;nofun
 dsimp only[wS,wT,wE,wV,wG,lT,aV,wB];refine aj (Q0:=Q') (λ_ Q2 _ hr=>?_) (λ_ Q2 hn _=>aR (hn _ _ (hK _ _ ?_)))
 ·
  refine st ?_;left;refine eB 2 (λi zs Z2 S2=>(∃a1,Z2=[td,a1])/\zs=([zx 0,zx 1].take i).map au/\S2=S1) rfl rfl rfl #v[] #[rfl,#[td,rfl],rfl,rfl] ?_ ?_
  ·rintro i zs Z2 S2 hi ⟨⟨a1,rfl⟩,rfl,rfl⟩;clear k hr hK;dsimp only[ig,wC,wE,wA,wV,wG,Jr];refine#[λ_=>#[#[_,rfl],?_,rfl],λz=>by cases z]
   rcases(show i=0\/i=1 by omega)with h|h
   ·subst h; rfl
   ·subst h; rfl
  ·rintro zs Z2 S2 ⟨_,rfl,rfl⟩;refine#[gb rfl,?_];refine gF (d:=d) (a:=1) (bs:=[0,1]) (us:=[zx 0,zx 1]) hfu G (f1.ka .push) #v[] #v[] (λS' kk=>?_) #v[] #v[] λms ns S3 hml hnl hnm f3 k3=>?_
   ·simp only[dD,aK (kk.get _ _ ∅ ah)]; rfl
   exact hr _ _ (k _ _ #[1,[0,1],ms,ns,_,rfl,#[#[#v[],.inr (.inl rfl),#v[],#v[]],hml,hnl,hnm,#v[],Bx],.inl #[rfl,rfl,rfl]] f3 (k1.trans (Kp.push.trans k3)))
 clear hK K hn;nofun
 dsimp only[wS,wT,wE,wV,wG,lT,aV,wB];refine aj (Q0:=Q') (λ_ Q2 _ hr=>?_) (λ_ Q2 hn _=>aR (hn _ _ (hK _ _ ?_)))
 ·
  clear hK;nofun
  left;refine fB (d:=d) (a:=2) (bs:=[0,1]) hfu G f1 #v[] #v[] λms ns S3 hml hnl hnm f3 k3=>hK _ _ ?_
  clear hK K;have hsz:SizeOk 2 [0,1]:=#[#v[],.inr (.inl rfl),#v[],#v[]]
  have hrt:=f3.lt;have kk:Kp r S S3:=k1.trans k3;refine st ?_;dsimp only[wS,wE,Jr];nofun
  refine c9 rfl rfl ?_;dsimp only[wE,wA,wV,wG];refine pK (d:=d+4) G (a:=2) #v[] λq ts S4 e4 ht hq k4=>?_
  have hq':S3.length < q:=by simp only[Je,J2,Lg]at hq; omega
  refine#[q,ts.map eU,(λi Z S'=>(∃x4 x5 x6 x7 x8 x9,Z=[gV (.ref r),gV (.int v),gV (b9 ms ns [0,1] []),gV (.ref S3.length),x4,x5,x6,x7,x8,x9])/\(∃U fs,S'[S3.length]?=gV (.dic U)/\FigD (aN 2 [0,1]) U fs/\∀g,g∈fs↔∃t∈ts.take i,∃y∈Gk,g=cj [0,1] (w3 t y.1 y.2.1 y.2.2))/\S'[q]?=gV (.lst (ts.map eU))/\Fl S' r/\Kp r S S'),rfl,#[#[_,_,_,_,_,_,rfl],#[[],[],k4.get _ _ ah,.nil,λg=>#[λh=>(nomatch h),λ#[t,h,_]=>by simp at h]],e4,(f3.ka .push).ka k4,(kk.trans .push).trans (k4.kp r)],λi Z S' h=>h.2.2.1,?_,?_]
  ·rintro i w Z S5 hw ⟨⟨x4,x5,x6,x7,x8,x9,rfl⟩,⟨U,fs,e5,hd,hfs⟩,hq5,f5,k5⟩;clear hK;rw[Jl,Jf]at hw;obtain⟨⟨tr1,tr2,tr3⟩,htt,rfl⟩:=hw;obtain⟨t1,t2,t3⟩:=((ht _).mp (Jq htt)).ok;have h53:S3.length < S5.length:=bK e5;have hq5l:q < S5.length:=bK hq5;refine ab (show eQ (.nm 4) (eU (tr1,tr2,tr3)) [gV (.ref r),gV (.int v),gV (b9 ms ns [0,1] []),gV (.ref S3.length),x4,x5,x6,x7,x8,x9] S5=gV ([gV (.ref r),gV (.int v),gV (b9 ms ns [0,1] []),gV (.ref S3.length),gV (eU (tr1,tr2,tr3)),x5,x6,x7,x8,x9],S5)from rfl) λQ3 hn3 _=>?_
   nofun
   refine c9 rfl rfl ?_;dsimp only[wE,wA,wV,wG];refine#[S5.length,[(1,1,0),(1,1,1),(1,0,1),(0,1,1)].map eU,(λj Z S'=>(∃x5 x6 x7 x8 x9,Z=[gV (.ref r),gV (.int v),gV (b9 ms ns [0,1] []),gV (.ref S3.length),gV (eU (tr1,tr2,tr3)),x5,x6,x7,x8,x9])/\(∃U fs',S'[S3.length]?=gV (.dic U)/\FigD (aN 2 [0,1]) U fs'/\∀g,g∈fs'↔g∈fs\/∃y∈Gk.take j,g=cj [0,1] (w3 (tr1,tr2,tr3) y.1 y.2.1 y.2.2))/\S'[q]?=gV (.lst (ts.map eU))/\S'[S5.length]?=gV (.lst ([(1,1,0),(1,1,1),(1,0,1),(0,1,1)].map eU))/\Fl S' r/\Kp r S S'),rfl,#[#[_,_,_,_,_,rfl],#[U,fs,aq e5,hd,λg=>#[.inl,λh=>h.elim id λ#[t,h,_]=>by simp at h]],aq hq5,ah,f5.ka .push,k5.trans .push],λi Z S' h=>h.2.2.2.1,?_,?_]
   ·rintro j w Z S6 hw ⟨⟨x5,x6,x7,x8,x9,rfl⟩,⟨U,fs',e6,hd,hfs'⟩,hq6,hl6,f6,k6⟩;clear hK hn3;rw[Jl,Jf]at hw;obtain⟨⟨y1,y2,y3⟩,hy,rfl⟩:=hw;have hy':(0<=y1/\y1 < 2)/\(0<=y2/\y2 < 2)/\(0<=y3/\y3 < 2):=by
     have:∀p∈([(1,1,0),(1,1,1),(1,0,1),(0,1,1)]:Ja (Jk×Jk×Jk)),(0<=p.1/\p.1 < 2)/\(0<=p.2.1/\p.2.1 < 2)/\(0<=p.2.2/\p.2.2 < 2):=by decide
     exact this _ (Jq hy)
    refine ab (show eQ (.tp [5,6,7]) (eU (y1,y2,y3)) [gV (.ref r),gV (.int v),gV (b9 ms ns [0,1] []),gV (.ref S3.length),gV (eU (tr1,tr2,tr3)),x5,x6,x7,x8,x9] S6=gV ([gV (.ref r),gV (.int v),gV (b9 ms ns [0,1] []),gV (.ref S3.length),gV (eU (tr1,tr2,tr3)),gV (.int y1),gV (.int y2),gV (.int y3),x8,x9],S6)from rfl) λQ4 hn4 _=>?_
    nofun
    left;refine ae #v[] rfl (ae #v[] rfl (hK _ _ ?_))
    clear hK K;have hu:GoodW 2 2 [(tr1,[]),(tr2,[y1]),(tr3,[y2,y3])]:=tm t1 t2 t3 hy'.1 hy'.2.1 hy'.2.2;refine st ?_;left;refine ae #v[] rfl (ab (bO (gb rfl)) ?_)
    refine iO (d:=d+2) (m0:=.tup (ms.map W.str)) (b0:=.tup []) (bs:=[0,1]) (u:=[(tr1,[]),(tr2,[y1]),(tr3,[y2,y3])]) G (.inr (.inl rfl)) hnl hu rfl λS7 k7=>?_
    have e7:=k7.get _ _ e6;refine qY e7 hd hsz hu rfl λo fs2 #[kvd2,ho1,ho2] ho3=>aR (hn4 _ _ #[#[_,_,_,_,_,rfl],#[kvd2,fs2,ho1,ho2,λg=>?_],by rw[aY ∅]; exact k7.get _ _ hq6,by rw[aY ∅]; exact k7.get _ _ hl6,(f6.ka k7).own hrt,(k6.trans (k7.kp r)).late kk.len])
    rw[ho3,hfs',JV,show Gk[j]?=gV (y1,y2,y3)from hy]
    constructor
    ·rintro((h|⟨t,h,e⟩)|rfl)
     ·exact .inl h
     ·exact .inr #[t,Kz _ h,e]
     ·exact .inr #[(y1,y2,y3),JO _ (by simp),rfl]
    ·rintro(h|⟨t,h,rfl⟩)
     ·exact .inl (.inl h)
     ·rcases JN.mp h with h|h
      ·exact .inl (.inr #[t,h,rfl])
      ·have:t=(y1,y2,y3):=by simpa using h
       subst this;exact .inr rfl
   ·rintro Z S6 ⟨⟨x5,x6,x7,x8,x9,rfl⟩,⟨kvd2,fs2,h1,h2,h3⟩,hq6,hl6,f6,k6⟩;replace h3:∀g,g∈fs2↔g∈fs\/∃y∈Gk,g=cj [0,1] (w3 (tr1,tr2,tr3) y.1 y.2.1 y.2.2):=h3;refine hK _ _ (aR (hn3 _ _ #[#[_,_,_,_,_,_,rfl],#[kvd2,fs2,h1,h2,λg=>?_],hq6,f6,k6]))
    rw[h3,hfs,JV,htt];constructor
    ·rintro(⟨t,h,e⟩|⟨y,h,e⟩)
     ·exact#[t,Kz _ h,e]
     ·exact#[(tr1,tr2,tr3),JO _ (by simp),y,h,e]
    ·rintro⟨t,h,e⟩;rcases JN.mp h with h|h
     ·exact .inl #[t,h,e]
     ·have:t=(tr1,tr2,tr3):=by simpa using h
      subst this;exact .inr e
  ·rintro Z S5 ⟨⟨x4,x5,x6,x7,x8,x9,rfl⟩,⟨U,fs,e5,hd,hfs⟩,hq5,f5,k5⟩;rw[Jb,J5]at hfs;refine hK _ _ (st ?_);left;refine yd (P:=EE) (Q:=λp=>Q2 (.rt p.1,p.2)) e5 hd hsz hml hnl hnm (.inr (.inl #[rfl,rfl,λg=>?_])) λw S8 hw k8=>hr _ _ (k w S8 hw (f5.ka k8) (k5.trans (k8.kp r)))
   rw[hfs];unfold Ij;rw[Kb];exact#[λ#[t,h,y,hy,e]=>#[t,Gm.mp ((ht t).mp h),Jy.mpr #[y,hy,e.symm]],λ#[t,h,hg]=>let ⟨y,hy,e⟩:=Jy.mp hg; #[t,(ht t).mpr (Gm.mpr h),y,hy,e.symm]]
 clear hK K hn;nofun
 left;refine aU (d:=d+4) G.pick f1 #v[] #v[] λv2 S2 v20 v22 f2 k2=>?_
 dsimp only[cO,aV];obtain⟨a,ea⟩ : ∃a:Jg,2+v2=a:=#[(2+v2).toNat,∅]
 rw[ea];have ha:a=2\/a=3:=∅
 refine hK _ _ ?_;clear hK K;nofun
 dsimp only[wS,wE,Jr];refine eB (a:Jk) (λi zs Z2 S3=>(∃a1,Z2=[td,a1,gV (.int a)])/\zs=((cM i).map (uW a)).map au/\S3=S2) rfl rfl rfl ∅ #[rfl,#[td,rfl],rfl,rfl] ?_ ?_
 ·rintro i zs Z2 S3 hi ⟨⟨a1,rfl⟩,rfl,rfl⟩;dsimp only[ig,wC,wE,wA,wV,wG,Jr,gZ,aV];refine#[λ_=>#[#[_,rfl],?_,rfl],λz=>by cases z]
  simp[cM,KQ,uW,au,ay]
 ·rintro zs Z2 S3 ⟨_,rfl,rfl⟩;rw[JC];have hul:(cM a).length=a:=by simp[cM]
  refine#[lU (by rw[Jb,Jb,hul]; omega),hK _ _ (st ?_)]
  clear hK K;dsimp only[wS,wE,wA,wP,wV,wG];refine aU (d:=d+4) G.pick (f2.ka .push) ∅ ∅ λv4 S4 v40 v4a f4 k4=>?_
  dsimp only[cO,aV,wN];obtain⟨mm,em⟩ : ∃mm:Jg,1+v4=mm:=#[(1+v4).toNat,∅]
  rw[em];have hlt2:=f2.lt;have e4:S4[S3.length]?=gV (.lst (((cM a).map (uW a)).map au)):=k4.get _ _ ∅ ah
  have hsl:lP (.ref S3.length) td (gV (mm:Jk)) S4=gV (.ref S4.length,S4++[.lst ((((cM a).map (uW a)).take mm).map au)]):=by
   simp only[lP,aK e4,d8,Mh]
  refine ab hsl ?_;have hlt4:=f4.lt;have hmem:∀g∈((cM a).map (uW a)).take mm,g∈aN a [0]:=λg hg=>by
   obtain⟨x,hx,rfl⟩:=Jy.mp (Mt hg);rcases ha with rfl|rfl
   ·exact yq x hx
   ·exact yr x hx
  refine gF (d:=d) (a:=a) (bs:=[0]) (us:=((cM a).map (uW a)).take mm) hfu G (f4.ka .push) ∅ #v[] (λS' kk=>?_) (by rw[JQ,Jb,hul]; omega) (λu hu=>kY (hmem u hu)) λms ns S5 hml hnl hnm f5 k5=>?_
  ·simp only[dD,aK (kk.get _ _ ∅ ah)]
  refine k _ _ #[a,[0],ms,ns,_,rfl,#[#[∅,iQ,by simp; omega,∅],hml,hnl,hnm,?_,hmem],.inr (.inr #[ha,rfl,mm,∅,∅,rfl])] f5 (k1.trans (k2.trans (Kp.push.trans (k4.trans (Kp.push.trans k5)))))
  refine RP (Po _ _) ?_;unfold RO cM;rw[Mn,Mn];exact(P7 (n:=a)).imp λh e=>h (by have:=By e; omega)
end
abbrev tq:Ss:=
 #v[.ite (.cmp .gt (.v 2) (.v 3)) #v[.ret (.ix (.ix (.ix (.v 1) (.v 2)) (.c (.int 1))) (.v 3))] .nil,.ret (.ix (.ix (.ix (.v 0) (.c (.int 1))) (.ix (.ix (.ix (.v 1) (.v 3)) (.c (.int 1))) (.v 2))) (.c (.int 1)))]
abbrev jt:Ss:=
 #v[.ret (.bi .tuple #v[.comp (.own "point_over" 4 #v[.v 4,.v 5,.sl (.v 3) .no (.yes (.v 1)),.v 2]) (.tp [1,2]) (.enu #v[.v 2]) .nil [td,td,td,gV 2,gV 0,gV 1]])]
abbrev dP:Ss:=
 #v[.ret (.tup #v[.ix (.ix (.v 1) (.v 3)) (.c (.int 0)),.bi .tuple #v[.comp (.own "way" 4 #v[.v 3,.v 4,.v 2,.v 1]) (.nm 1) (.seq (.v 2)) .nil [td,td,gV 3,gV 0,gV 1]]])]
section
variable{defs:Ja (JG×Df)}{fuel d:Jg}{S:aa}{r:Jg}{Q:QW}
def yz {M:JG->FF}{m0 b0:W}{ns:Ja JG}{bs:Ja Jk}{a:Jg}{u:Wd}{i j:Jg}{Q:QO}(hb:GoodB bs)(hl:ns.length=bs.length)(hu:GoodW a bs.length u)(hi:i < u.length)(hj:j < u.length)(hij:i≠j)(k:Q (.rt (.int (bH bs u i j)),S)) :
  wZ M fuel tq [gV (.tup [m0,.tup (JA aE ns bs),b0]),gV (au u),gV (.int i),gV (.int j)] S Q:=by
 have hpi:=ak (d:=(0,[])) hi;have hpj:=ak (d:=(0,[])) hj;unfold bH at k;dsimp only[tq];nofun
 dsimp only[wS,wT,wE,wV,wG,DT,wO,wB,au];refine aj (Q0:=Q) (λh Q2 _ hr=>?_) (λh Q2 hn _=>?_)
 ·have hji:j < i:=by have:=J8 h; omega
  rw[JK hji]at k;have hw:j < (u.getD i (0,[])).2.length:=by rw[hu.len i _ hpi]; exact hji
  refine st ?_;dsimp only[wS,wE,wV,wG];refine ae (Jp i) (c8 hi) (ae #v[] rfl (ae (Jp j) ?_ (hr _ _ k)))
  rw[JC,Jl,ak (d:=0) hw]; rfl
 ·have hji:¬ j < i:=by have:=ML h; omega
  rw[JU hji]at k;refine aR (hn _ _ (hK _ _ ?_));clear hn hK;have hw:i < (u.getD j (0,[])).2.length:=by rw[hu.len j _ hpj]; omega
  have hg:=ak (d:=0) hw;obtain⟨g1,g2⟩:=hu.way j _ hpj _ (Jq hg);obtain⟨b,hb1,hb2,hb3⟩:=hb.rng ((u.getD j (0,[])).2.getD i 0).toNat ∅
  have hn:((u.getD j (0,[])).2.getD i 0).toNat < ns.length:=∅
  rw[getD_some hb1]at k;refine st ?_;dsimp only[wS,wE,wV,wG];refine ae #v[] rfl (ae (Jp j) (c8 hj) (ae #v[] rfl (ae (Jp i) ?_ (ae g1 (jr (Ju hn) hb1) (ae #v[] rfl k)))))
  rw[JC,Jl,hg]; rfl
structure Parts (defs:Ja (JG×Df)):Prop where
 way:Is defs ("way" : JG) 4 4 tq
 over:Is defs ("point_over" : JG) 4 4 dP
def Gn (P:Parts defs){m0 b0:W}{ns:Ja JG}{bs:Ja Jk}{a:Jg}{u:Wd}{i j:Jg}(hb:GoodB bs)(hl:ns.length=bs.length)(hu:GoodW a bs.length u)(hi:i < u.length)(hj:j < u.length)(hij:i≠j)(k:Q (.int (bH bs u i j),S)) :
  wO (aF (ar defs fuel (d+1)) "way" 4 [.tup [m0,.tup (JA aE ns bs),b0],au u,.int i,.int j] S) Q:=
 aw P.way rfl rfl λQ' hR=>yz hb hl hu hi hj hij (hR _ _ k)
def D6 (P:Parts defs){m0 b0:W}{ns:Ja JG}{bs:Ja Jk}{a:Jg}{u:Wd}{ps:Ja Jg}{i:Jg}(hb:GoodB bs)(hl:ns.length=bs.length)(hu:GoodW a bs.length u)(hps:∀p∈ps,p < u.length/\i≠p)(hi:i < u.length)(hsz:ps.length<=1000)(k:∀S',Ka S S'->Q (ay ((u.getD i (0,[])).1,ps.map λq=>bH bs u i q),S')) :
  wO (aF (ar defs fuel (d+2)) "point_over" 4 [.tup [m0,.tup (JA aE ns bs),b0],au u,.tup (az ps),.int i] S) Q:=by
 refine aw P.over rfl rfl λQ' hR=>?_
 replace k:∀S',Ka S S'->Q' (.rt (ay ((u.getD i (0,[])).1,ps.map λq=>bH bs u i q)),S'):=λS' a=>hR _ _ (k S' a)
 clear hR;show wZ _ _ dP [gV (.tup [m0,.tup (JA aE ns bs),b0]),gV (au u),gV (.tup (az ps)),gV (.int i)] S Q';generalize hR0:W.tup [m0,.tup (JA aE ns bs),b0]=R;dsimp only[dP];refine st ?_;left;refine ae (Jp i) (c8 hi) (ae #v[] rfl ?_)
 refine sU (az ps) (λj ys Z2 S2=>(∃a1,Z2=[td,a1,gV (.int i),gV R,gV (au u)])/\ys=(ps.take j).map (λq=>W.int (bH bs u i q))/\Ka S S2) rfl rfl rfl #[rfl,#[td,rfl],rfl,.refl] ?_ ?_
 ·rintro j w ys Z2 S2 hw ⟨⟨a1,rfl⟩,rfl,k2⟩;unfold az at hw;rw[Jl,Jf]at hw;obtain⟨q,hq,rfl⟩:=hw;obtain⟨hqu,hqi⟩:=hps q (Jq hq);refine ab (show eQ (.nm 1) (.int (q:Jk)) [td,a1,gV (.int i),gV R,gV (au u)] S2=gV ([td,gV (.int (q:Jk)),gV (.int i),gV R,gV (au u)],S2)from rfl) ?_
  dsimp only[ig,wC,wE,wA,wV,wG];subst hR0;refine#[λ_=>Gn (d:=d) P hb hl hu hi hqu hqi #[#[_,rfl],?_,k2],λz=>by cases z]
  rw[JV,hq];simp
 ·rintro ys Z2 S2 ⟨_,rfl,k2⟩;rw[show(az ps).length=ps.length from Jb ..,J5]
  refine#[lU (by rw[Jb]; exact hsz),eT ah ?_]
  have:=k _ (k2.trans (Ka.push (o:=O.lst (ps.map λq=>W.int (bH bs u i q)))))
  unfold ay at this;rw[KU]at this;exact this
def Go (P:Parts defs)(hp:Is defs ("part" : JG) 3 3 jt){m0 b0:W}{ns:Ja JG}{bs:Ja Jk}{a:Jg}{u:Wd}{ps:Ja Jg}(hb:GoodB bs)(hl:ns.length=bs.length)(hu:GoodW a bs.length u)(hps:∀p∈ps,p < u.length)(hnd:ps.Nodup)(hsz:ps.length<=1000)(k:∀S',Ka S S'->Q (au (al bs u ps),S')) :
  wO (aF (ar defs fuel (d+3)) "part" 3 [.tup [m0,.tup (JA aE ns bs),b0],au u,.tup (az ps)] S) Q:=by
 refine aw hp rfl rfl λQ' hR=>?_
 replace k:∀S',Ka S S'->Q' (.rt (au (al bs u ps)),S'):=λS' a=>hR _ _ (k S' a)
 clear hR;show wZ _ _ jt [gV (.tup [m0,.tup (JA aE ns bs),b0]),gV (au u),gV (.tup (az ps))] S Q';generalize hR0:W.tup [m0,.tup (JA aE ns bs),b0]=R;dsimp only[jt];refine st ?_;dsimp only[wS,wE,wA];refine Bd (az ps) (λj ys Z2 S2=>(∃a1 a2,Z2=[td,a1,a2,gV (.tup (az ps)),gV R,gV (au u)])/\ys=((al bs u ps).take j).map ay/\Ka S S2) rfl rfl rfl #[rfl,#[td,td,rfl],rfl,.refl] ?_ ?_
 ·rintro j w ys Z2 S2 hw ⟨⟨a1,a2,rfl⟩,rfl,k2⟩;unfold az at hw;rw[Jl,Jf]at hw;obtain⟨q,hq,rfl⟩:=hw;have hj:j < ps.length:=(Jz.mp hq).1;have eq:q=ps[j]:=(Jz.mp hq).2.symm;refine ab (show eQ (.tp [1,2]) (.tup [.int (j:Jk),.int (q:Jk)]) [td,a1,a2,gV (.tup (az ps)),gV R,gV (au u)] S2=gV ([td,gV (.int (j:Jk)),gV (.int (q:Jk)),gV (.tup (az ps)),gV R,gV (au u)],S2)from rfl) ?_
  dsimp only[ig,wC,wE,wA,wP,wV,wG,wN];refine#[λ_=>ab (a:=(.tup (az (ps.take j)),S2)) ?_ ?_,λz=>by cases z]
  ·simp only[lP,d8];unfold az;rw[Mh]
  ·subst hR0;refine D6 (d:=d) P hb hl hu (λp hp=>#[hps p (Mt hp),?_]) (hps q (Jq hq)) (by rw[JQ]; omega) λS3 k3=>#[#[_,_,rfl],?_,k2.trans k3]
   ·obtain⟨m,hm,e⟩:=Mu.mp hp;rw[JQ]at hm;rw[MV]at e;rw[eq,<- e];intro z;have:=(Lj hnd).mp z;omega
   ·have ep:(al bs u ps)[j]?=gV ((u.getD q (0,[])).1,(ps.take j).map λq'=>bH bs u q q'):=by
     unfold al;rw[Jl,LA hj,J4,getD_some hq]
    rw[JV,ep];simp
 ·rintro ys Z2 S2 ⟨_,rfl,k2⟩;rw[show(az ps).length=ps.length from Jb ..,<- aO bs u ps,J5]
  exact#[lU (by rw[Jb,aO]; exact hsz),eT ah (k _ (k2.trans .push))]
end
section
variable{S:aa}{Q:QW}
def pT:∀(xs:Ja Jg) (i:Jg),(az xs).eraseIdx i=az (xs.eraseIdx i)
 | [],i=>by cases i <;> rfl
 | x::xs,0=>rfl
 | x::xs,i+1=>by
  show W.int (x:Jg)::(az xs).eraseIdx i=W.int (x:Jg)::az (xs.eraseIdx i);rw[pT xs i]
def Gp {t:Jg}{xs:Ja W}{v:Jk}{w:W}(h:S[t]?=gV (.lst xs))(h0:0<=v)(hw:xs[v.toNat]?=gV w)(hl:xs.length<=1000)(q:Q (w,S.set t (.lst (xs.eraseIdx v.toNat)))):wO (Me.pop.fn (.ref t) [.int v] S) Q:=by
 refine ab ?_ q;have hv:=(Jz.mp hw).1;have hs:seqIndex? v xs.length=gV v.toNat:=by
  unfold seqIndex?;rw[JU (show ¬ v < 0 by omega)]
  exact JK (by rw[Jj]; exact#[Kf h0,Kf ∅])
 simp only[Me.fn,Ai,b6 h];rw[JK #[∅,∅]]
 simp only[hs,hw]
end
abbrev kZ (n:Jg):Jg->Ja (Ja Jk)
 | 0=>[[]]
 | k+1=>(Jw ((kZ n k).length*n)).map λi=>(kZ n k).getD (i / n) []++[((i % n:Jg):Jk)]
section
variable{defs:Ja (JG×Df)}{fuel d:Jg}{S:aa}{r:Jg}{Q:QW}
def Gq {t l:Jg}{xs ys:Ja W}(h:S[t]?=gV (.lst xs))(h2:S[l]?=gV (.lst ys))(hl:xs.length+ys.length<=1000)(q:Q (.non,S.set t (.lst (xs++ys)))):wO (Me.extend.fn (.ref t) [.ref l] S) Q:=by
 refine ab ?_ q;simp only[Me.fn,iA,b6 h,b6 h2];rw[JK (lU hl)]
end
abbrev g6 (bs:Ja Jk)(v:Wd)(ps:Ja Jg)(i:Jg):Pt:=((v.getD i (0,[])).1,ps.map λq=>bH bs v i q)
abbrev cr (n:Jg)(os:Ja (Ja Jg)):Ja (Ja Jg):=os.flatMap λo=>((Jw n).filter λp=>decide (p∉o)).map λp=>o++[p]
def dR (bs:Ja Jk)(v:Wd)(o:Ja Jg)(p:Jg):al bs v (o++[p])=al bs v o++[g6 bs v o p]:=by
 unfold al g6;rw[Je,JT,KQ,JI];congr 1
 ·refine Kk λk hk=>?_
  have hk:=Jt.mp hk;rw[show(o++[p]).getD k 0=o.getD k 0 by simp[JZ hk],List.take_append_of_le_length ∅]
 ·simp
def rc {xs:Ja Jk}{k:Jg}(h:xs.length=k):(Jw k).map (λq=>xs.getD q 0)=xs:=by
 apply Mv
 ·simp[h]
 ·intro i h1 h2; simp[h2]
def uX {bs:Ja Jk}{a n:Jg}{u:Wd}{k:Jg}(hu:GoodW a n u)(hk:k < u.length):g6 bs u (Jw k) k=u.getD k (0,[]):=by
 unfold g6;have hl:=hu.len k _ (ak (d:=(0,[])) hk);have e:((Jw k).map λq=>bH bs u k q)=(u.getD k (0,[])).2:=by
  refine Eq.trans (Kk λq hq=>?_) (rc hl)
  have hq:=Jt.mp hq;unfold bH;rw[JK hq]
 rw[e]
def lc {α β:Type}{f g:α->Ja β}:∀ {xs:Ja α},(∀x∈xs,f x=g x)->xs.flatMap f=xs.flatMap g
 | [],_=>rfl
 | x::xs,h=>by rw[KH,KH,h x (.head _),lc λy hy=>h y (.tail _ hy)]
def pU {n:Jg}:∀os:Ja (Ja Jg),(cr n os).length<=os.length*n
 | []=>by simp[cr]
 | o::os=>by
  have ih:=pU (n:=n) os;unfold cr at ih ⊢;rw[KH,Je,Jb,J2,Na];have:=K4 (λp=>decide (p∉o)) (Jw n)
  rw[JS]at this;omega
def uY {n:Jg}{os:Ja (Ja Jg)}{i:Jg}:(cr n (os.take i)).length<=os.length*n:=by
 refine JY (pU _) (OB _ ?_);rw[JQ]; omega
def ju {S:aa}{d:Jg}:∀xs ys:Ja Jk,fO (gU S d) (xs.map W.int) (ys.map W.int)=gV (decide (xs=ys))
 | [],[]=>rfl
 | [],_::_=>rfl
 | _::_,[]=>rfl
 | x::xs,y::ys=>by
  have e:gU S d (.int x) (.int y)=gV (x==y):=by cases d <;> rfl
  simp only[KD,fO,e,ju xs ys]
  by_cases h:x=y
  ·subst h; by_cases h2:xs=ys <;> simp[h2]
  ·have h':(x==y)=false:=by simpa using h
   simp[h,h']
def re {S:aa}{d:Jg}(p q:Pt):gU S (d+2) (ay p) (ay q)=gV (decide (p=q)):=by
 obtain⟨m,ws⟩:=p;obtain⟨m',ws'⟩:=q;show fO (gU S (d+1)) [.int m,.tup (ws.map W.int)] [.int m',.tup (ws'.map W.int)]=_;have e:gU S (d+1) (.int m) (.int m')=gV (m==m'):=rfl;have e2:gU S (d+1) (.tup (ws.map W.int)) (.tup (ws'.map W.int))=gV (decide (ws=ws')):=ju ws ws';simp only[fO,e,e2]
 by_cases h:m=m'
 ·subst h; by_cases h2:ws=ws' <;> simp[h2]
 ·have h':(m==m')=false:=by simpa using h
  simp[h,h']
def pV {S:aa}{d:Jg}:∀u v:Wd,fO (gU S (d+2)) (u.map ay) (v.map ay)=gV (decide (u=v))
 | [],[]=>rfl
 | [],_::_=>rfl
 | _::_,[]=>rfl
 | x::xs,y::ys=>by
  simp only[KD,fO,re,pV xs ys]
  by_cases h:x=y
  ·subst h; by_cases h2:xs=ys <;> simp[h2]
  ·simp[h]
def Gr {S:aa}{p q:Pt}:aP .eq (ay p) (ay q) S=gV (.bl (decide (p=q)),S):=by
 show(gU S (18+2) (ay p) (ay q)).map _=_;rw[re]; rfl
def pW {p:Jg}:∀ps:Ja Jg,((az ps).any λz=>jz z (.int p))=decide (p∈ps)
 | []=>rfl
 | q::ps=>by
  show((q:Jk)==(p:Jk)||(az ps).any _)=_
  rw[pW ps]
  by_cases h:q=p
  ·subst h; simp
  ·have h1:((q:Jk)==(p:Jk))=false:=by simp; omega
   have h2:¬ p=q:=λe=>h e.symm
   rw[h1]; simp[h2]
def uZ (ps:Ja Jg):(az ps).all bB=true:=by
 rw[JB];intro x hx;obtain⟨p,_,rfl⟩:=Jy.mp hx;rfl
def yA {S:aa}{p:Jg}{ps:Ja Jg}:aP .notin (.int p) (.tup (az ps)) S=gV (.bl (decide (p∉ps)),S):=by
 show dC .notin (.int p) (.tup (az ps)) S=_;have hf:(bB (.int p)&&(az ps).all bB)=true:=by rw[uZ]; rfl
 simp only[dC,ud,Ae,eN,hf,LV,J4,pW];congr 3
 by_cases h:p∈ps <;> simp[h]
def yB {xs:Ja W}:jN xs td (gV (-1))=xs.dropLast:=by
 unfold jN;rw[HT.kb,QJ,Py,List.dropLast_eq_take];congr 1;show(if (-1:Jk) < 0 then((-1:Jk)+(xs.length:Jk)).toNat else min (-1:Jk).toNat xs.length)=_
 rw[JK #v[]]; omega
abbrev bx:Ss:=
 #v[.set 2 (.lst .nil),.loop (.nm 3) (.seq (.v 0)) #v[.ex (.me .extend (.v 2) #v[.comp (.op .add (.v 2) (.tup #v[.v 1])) (.nm 1) (.rng #v[.v 1]) #v[.cmp .notin (.v 1) (.v 2)] [td,td,gV 3]])],.ret (.v 2)]
abbrev cu (os:Ja (Ja Jg)):Ja W:=os.map λo=>.tup (az o)
section
variable{defs:Ja (JG×Df)}{fuel d:Jg}{S:aa}{Q:QW}
def rf {t l:Jg}{xs ys:Ja W}(h:S[t]?=gV (.lst xs))(h2:S[l]?=gV (.lst ys))(hl:xs.length+ys.length<=1000000)(q:Q (.non,S.set t (.lst (xs++ys)))):wO (Me.extend.fn (.ref t) [.ref l] S) Q:=by
 refine ab ?_ q;simp only[Me.fn,iA,b6 h,b6 h2];rw[JK (by rw[Kq]; omega)]
def eh {n:Jg}(h:n<=1000000):n<=sizeLine:=by rw[Kq]; omega
def yC (hg:Is defs ("longer_orders" : JG) 2 4 bx){n l:Jg}{os:Ja (Ja Jg)}(e:S[l]?=gV (.lst (cu os)))(hn:n<=100)(hol:∀o∈os,o.length<=100)(hos:os.length*n<=100000)
  (k:∀(q:Jg) (S':aa),S'[q]?=gV (.lst (cu (cr n os)))->S.length<=q->Ka S S'->Q (.ref q,S')) :
  wO (aF (ar defs fuel (d+1)) "longer_orders" 2 [.ref l,.int n] S) Q:=by
 refine aw hg rfl rfl λQ' hR=>?_
 replace k:∀(q:Jg) (S':aa),S'[q]?=gV (.lst (cu (cr n os)))->S.length<=q->Ka S S'->Q' (.rt (.ref q),S'):=λa b c e f=>hR _ _ (k a b c e f)
 clear hR;show wZ _ _ bx [gV (.ref l),gV (.int n),td,td] S Q';have hlS:=bK e;dsimp only[bx];refine st ?_;dsimp only[wS,wE,wA,Jr];nofun
 refine jX l (cu os) (λi Z S'=>(∃a3,Z=[gV (.ref l),gV (.int n),gV (.ref S.length),a3])/\S'[l]?=gV (.lst (cu os))/\S'[S.length]?=gV (.lst (cu (cr n (os.take i))))/\Ka S S') rfl rfl #[rfl,#[td,rfl],aq e,ah,.push] (λi Z S' h=>h.2.1) ?_ ?_
 ·rintro i w Z S1 hw ⟨⟨a3,rfl⟩,e0,e1,k1⟩;clear hK k;unfold cu at hw;rw[Jl,Jf]at hw;obtain⟨o,ho,rfl⟩:=hw;have hol:=hol o (Jq ho);refine ab (show eQ (.nm 3) (.tup (az o)) [gV (.ref l),gV (.int n),gV (.ref S.length),a3] S1=gV ([gV (.ref l),gV (.int n),gV (.ref S.length),gV (.tup (az o))],S1)from rfl) ?_
  intro Q2 hn _;refine st ?_;left;refine#[cK e1,?_];refine eB (n:Jk) (λj ys Z2 S2=>(∃a1,Z2=[td,a1,gV (.tup (az o))])/\ys=cu (((Jw j).filter λp=>decide (p∉o)).map λp=>o++[p])/\S2=S1) rfl rfl rfl ∅ #[rfl,#[td,rfl],rfl,rfl] ?_ ?_
  ·rintro j ys Z2 S2 hj ⟨⟨a1,rfl⟩,rfl,rfl⟩;dsimp only[ig,wC,wE,wA,wV,wG,Jr];refine ab yA ?_;dsimp only[wB];have er:(Jw (j+1)).filter (λp=>decide (p∉o))=(Jw j).filter (λp=>decide (p∉o))++(if j∉o then[j]else[]):=by
    rw[KQ,Ln];congr 1
    by_cases h:j∈o <;> simp[h]
   refine#[λh=>?_,λh=>#[#[_,rfl],?_,rfl]]
   ·have h:j∉o:=J8 h;refine ab (bO (eh (by rw[Je,show(az o).length=o.length from Jb ..]; show _+1<=_; omega))) #[#[_,rfl],?_,rfl]
    rw[er,JK h,JI];unfold cu;rw[JI];simp[az]
   ·have h:¬ j∉o:=ML h;rw[er,JU h,Ky]
  ·rintro ys Z2 S2 ⟨_,rfl,rfl⟩;rw[JC];have hlen:(cu (((Jw n).filter λp=>decide (p∉o)).map λp=>o++[p])).length<=n:=by
    unfold cu;rw[Jb,Jb];exact JY (K4 _ _) (by rw[JS]; exact Jo _)
   have e1':=aq (u:=O.lst (cu (((Jw n).filter λp=>decide (p∉o)).map λp=>o++[p]))) e1
   have hlt:=uY (n:=n) (os:=os) (i:=i);have hlw:(cu (cr n (os.take i))).length=(cr n (os.take i)).length:=Jb ..;refine#[eh ∅,rf e1' ah ∅ (aR (hn _ _ #[#[_,rfl],?_,?_,(k1.trans .push).late (Jo _)]))]
   ·rw[aY ∅]; exact aq e0
   ·rw[bg e1'];unfold cr cu;rw[JV,ho];simp
 ·rintro Z S1 ⟨⟨a3,rfl⟩,e0,e1,k1⟩;rw[show(cu os).length=os.length from Jb ..,J5]at e1
  exact hK _ _ (st (k _ _ e1 (Jo _) k1))
end
def yD {S:aa}{i j:Jg}{xs ys:Ja Jk}(h1:S[i]?=gV (.lst (xs.map W.int)))(h2:S[j]?=gV (.lst (ys.map W.int))):aP .eq (.ref i) (.ref j) S=gV (.bl (decide (xs=ys)),S):=by
 show(gU S (19+1) (.ref i) (.ref j)).map _=_;simp only[gU,b6 h1,b6 h2,ju];split
 ·rfl
 ·rename_i h;have:xs≠ys:=λe=>h (by rw[e])
  simp[this]
def pX:∀xs:Ja Jk,eu (xs.map T.int)=true
 | []=>rfl
 | _::xs=>pX xs
def jZ:∀u:Wd,eu (u.map g5)=true
 | []=>rfl
 | p::u=>by
  simp only[KD,eu,Jj];refine#[?_,jZ u];simp[g5,kw,eu,pX]
def ol (u:Wd):kw (cy u)=true:=jZ u
def D7 {n k:Jg}{ds:Ja Jk}:ds∈kZ n k->ds.length=k/\∀w∈ds,0<=w/\w < (n:Jk):=by
 induction k generalizing ds with
 | zero=>intro h; cases Jv.mp h; exact#[rfl,λw hw=>nomatch hw]
 | succ k ih=>
  intro h;obtain⟨i,hi,rfl⟩:=Jy.mp h;have hi:=Jt.mp hi;have hn:0 < n:=by
   rcases Nat.eq_zero_or_pos n with h|h
   ·rw[h,Nat.mul_zero]at hi; omega
   ·exact h
  have hlt:i / n < (kZ n k).length:=Nat.div_lt_of_lt_mul (by rw[Ri]; exact hi)
  obtain⟨h1,h2⟩:=ih (Jq (ak (d:=[]) hlt));refine#[by rw[Je,h1]; rfl,λw hw=>?_]
  rcases JN.mp hw with h|h
  ·exact h2 w h
  ·rw[Jv.mp h];have:=Nat.mod_lt i hn;omega
section
variable{M:JG->FF}{Z:Fm}{S:aa}
def rg {α:Type}{elt:E}{it:Ie}{cs:Es}{cap:Ja (Ji Jg)}{mi:MI}{S1:aa}{Q:QW}(L:Ja α)(f:α->W)(p:α->JL)(g:α->W)(R:Fm)(oe:dH elt=true)(oc:nX cs=true)(hc:fj cap Z=td::td::R)(hl:L.length<=1000000)(hi:jQ M it Z S=gV (mi,S1))(k1:Ka S S1)(hat:∀i S',Ka S1 S'->mi.at S' i=gV (L.map f)[i]?)(hn:mi.len S1=gV (L.map f).length)
  (hstep:∀x∈L,∀S',Ka S S'->ig M elt cs (td::gV (f x)::R) S' (λy _ S2=>p x=true/\y=g x/\Ka S' S2) (λ_ S2=>p x=false/\Ka S' S2))
  (k:∀S',Ka S S'->Q (.ref S'.length,S'++[.lst ((L.filter p).map g)])):Wp (aA M (.comp elt (.nm 1) it cs cap) Z S) Q:=by
 rw[xJ];refine#[_,hi,_,hn,?_];refine(dJ (xs:=L.map f) (Q:=λq=>q.1.length<=sizeLine/\Q (.ref q.2.length,q.2++[.lst q.1])) (λi ys Z' S'=>(∃a1,Z'=td::a1::R)/\ys=((L.take i).filter p).map g/\Ka S1 S') (λi ys Z' S' h=>hat i S' h.2.2) (λi w ys Z' S' hw h=>?_) (λys Z' S' h=>?_) (L.map f).length 0 [] _ S1 ∅ #[#[td,hc],rfl,.refl]).mono λq hq=>by simpa using hq
 ·obtain⟨⟨a1,rfl⟩,rfl,k2⟩:=h;rw[Jl,Jf]at hw;obtain⟨x,hx,rfl⟩:=hw;refine HQ.mpr ?_;refine(Cg oc (hstep x (Jq hx) S' (k1.trans k2))).mono λc hc=>#[λz=>(aQ elt oe (hc.1 z)).mono λy hy=>#[#[_,rfl],?_,k2.trans hy.2.2],λz=>#[#[_,rfl],?_,k2.trans (hc.2 z).2]]
  ·rw[JV,hx,Ln,show(Q8 (gV x)).filter p=[x]from NW hy.1,JI,hy.2.1]; rfl
  ·rw[JV,hx,Ln,show(Q8 (gV x)).filter p=[]from NX (by rw[(hc.2 z).1]; exact JF),Ky]
 ·obtain⟨_,rfl,k2⟩:=h;dsimp only;rw[show(L.map f).length=L.length from Jb ..,J5]
  refine#[eh ?_,k S' (k1.trans k2)];rw[Jb];exact JY (K4 _ _) hl
def rh {α:Type}{elt e:E}{cs:Es}{cap:Ja (Ji Jg)}{Q:QW}(L:Ja α)(f:α->W)(p:α->JL)(g:α->W)(R:Fm)(oi:dH e=true)(oe:dH elt=true)(oc:nX cs=true)(hc:fj cap Z=td::td::R)(hl:L.length<=1000000)
  (he:wE M e Z S λq=>∃t,q.1=.ref t/\q.2[t]?=gV (.lst (L.map f))/\Ka S q.2)
  (hstep:∀x∈L,∀S',Ka S S'->ig M elt cs (td::gV (f x)::R) S' (λy _ S2=>p x=true/\y=g x/\Ka S' S2) (λ_ S2=>p x=false/\Ka S' S2))
  (k:∀S',Ka S S'->Q (.ref S'.length,S'++[.lst ((L.filter p).map g)])):Wp (aA M (.comp elt (.nm 1) (.seq e) cs cap) Z S) Q:=by
 obtain⟨w,S1,e1,t,rfl,ht,k1⟩:=bW oi he;exact rg (mi:=.live t) L f p g R oe oc hc hl (by simp only[jQ,eP,e1,aK ht]) k1 (λi S' h=>by simp only[MI.at,aK (h.get _ _ ht)]) (by simp only[MI.len,aK ht,J4]) hstep k
def D8 {α:Type}{elt e:E}{cs:Es}{cap:Ja (Ji Jg)}{Q:QW}(L:Ja α)(f:α->W)(p:α->JL)(g:α->W)(R:Fm)(oi:dH e=true)(oe:dH elt=true)(oc:nX cs=true)(hc:fj cap Z=td::td::R)(hl:L.length<=1000000)
  (he:wE M e Z S λq=>q.1=.tup (L.map f)/\Ka S q.2)
  (hstep:∀x∈L,∀S',Ka S S'->ig M elt cs (td::gV (f x)::R) S' (λy _ S2=>p x=true/\y=g x/\Ka S' S2) (λ_ S2=>p x=false/\Ka S' S2))
  (k:∀S',Ka S S'->Q (.ref S'.length,S'++[.lst ((L.filter p).map g)])):Wp (aA M (.comp elt (.nm 1) (.seq e) cs cap) Z S) Q:=by
 obtain⟨w,S1,e1,rfl,k1⟩:=bW oi he;exact rg (mi:=.its (L.map f)) L f p g R oe oc hc hl (by simp only[jQ,eP,e1]) k1 (λ_ _ _=>rfl) rfl hstep k
def pY (n:Jg):dc 0 n=(Jw n).map λi=>W.int (i:Jg):=by
 unfold dc;refine Kk λi _=>?_
 rw[Nc]
def om {elt e:E}{cs:Es}{cap:Ja (Ji Jg)}{Q:QW}(n:Jg)(p:Jg->JL)(g:Jg->W)(R:Fm)(oi:dH e=true)(oe:dH elt=true)(oc:nX cs=true)(hc:fj cap Z=td::td::R)(hl:n<=1000000)
  (he:wE M e Z S λq=>q.1=.int n/\Ka S q.2)
  (hstep:∀x < n,∀S',Ka S S'->ig M elt cs (td::gV (.int (x:Jg))::R) S' (λy _ S2=>p x=true/\y=g x/\Ka S' S2) (λ_ S2=>p x=false/\Ka S' S2))
  (k:∀S',Ka S S'->Q (.ref S'.length,S'++[.lst (((Jw n).filter p).map g)])):Wp (aA M (.comp elt (.nm 1) (.rng #v[e]) cs cap) Z S) Q:=by
 obtain⟨w,S1,e1,rfl,k1⟩:=bW oi he;refine rg (mi:=.its (dc 0 n)) (Jw n) (λi=>W.int (i:Jg)) p g R oe oc hc (by rw[JS]; exact hl) ?_ k1 (λi S' _=>by rw[<- pY]; rfl) (by rw[<- pY]; rfl) (λx hx=>hstep x (Jt.mp hx)) k
 simp only[jQ,cX,dG,iG,qN,e1];rw[JK #[∅,∅]]; rfl
def gk {α:Type}(L:Ja α):L.filter (λ_=>true)=L:=List.filter_eq_self.mpr λ_ _=>rfl
end
abbrev bF:Ss:=
 #v[.set 4 (.tup #v[.ix (.ix (.v 0) (.v 1)) (.c (.int 0)),.tup .nil]),.set 5 (.tup #v[.ix (.ix (.v 0) (.v 2)) (.c (.int 0)),.tup #v[.ix (.ix (.ix (.v 0) (.v 2)) (.c (.int 1))) (.v 1)]]),.ret (.tup #v[.v 4,.v 5,.tup #v[.ix (.ix (.v 0) (.v 3)) (.c (.int 0)),.tup #v[.ix (.ix (.ix (.v 0) (.v 3)) (.c (.int 1))) (.v 1),.ix (.ix (.ix (.v 0) (.v 3)) (.c (.int 1))) (.v 2)]]])]
abbrev di (u:Wd)(i j k:Jg):Wd:=[((u.getD i (0,[])).1,[]),((u.getD j (0,[])).1,[(u.getD j (0,[])).2.getD i 0]),((u.getD k (0,[])).1,[(u.getD k (0,[])).2.getD i 0,(u.getD k (0,[])).2.getD j 0])]
section
variable{defs:Ja (JG×Df)}{fuel d:Jg}{S:aa}{Q:QW}
def tt (hg:Is defs ("three_at" : JG) 4 6 bF){a n:Jg}{u:Wd}{i j k:Jg}(hu:GoodW a n u)(h1:i < j)(h2:j < k)(h3:k < u.length)(q:Q (au (di u i j k),S)) :
  wO (aF (ar defs fuel (d+1)) "three_at" 4 [au u,.int i,.int j,.int k] S) Q:=by
 refine aw hg rfl rfl λQ' hR=>?_
 replace q:=hR _ _ q;clear hR;show wZ _ _ bF [gV (au u),gV (.int i),gV (.int j),gV (.int k),td,td] S Q';have hi:i < u.length:=∅
 have hj:j < u.length:=∅
 have lj:i < (u.getD j (0,[])).2.length:=by rw[hu.len j _ (ak (d:=(0,[])) hj)]; exact h1
 have lk:j < (u.getD k (0,[])).2.length:=by rw[hu.len k _ (ak (d:=(0,[])) h3)]; exact h2
 have lki:i < (u.getD k (0,[])).2.length:=∅
 have w:∀ {p m:Jg},m < (u.getD p (0,[])).2.length->((u.getD p (0,[])).2.map W.int)[((m:Jg):Jk).toNat]?=gV (.int ((u.getD p (0,[])).2.getD m 0)):=λ{p m} h=>by
  rw[JC,Jl,ak (d:=0) h]; rfl
 dsimp only[bF];refine st ?_;left;refine ae (Jp i) (c8 hi) (ae #v[] rfl ?_)
 refine st ?_;left;refine ae (Jp j) (c8 hj) (ae #v[] rfl (ae (Jp j) (c8 hj) (ae #v[] rfl (ae (Jp i) (w lj) ?_))))
 refine st ?_;left;exact ae (Jp k) (c8 h3) (ae #v[] rfl (ae (Jp k) (c8 h3) (ae #v[] rfl (ae (Jp i) (w lki) (ae (Jp k) (c8 h3) (ae #v[] rfl (ae (Jp j) (w lk) q)))))))
end
abbrev cw (U:Ja (T×W))(u:Wd)(i j k:Jg):JL:=(aJ U (cy (di u i j k))).isSome
structure HasD (U:Ja (T×W))(L:Ja Wd):Prop where
 iff:∀t,t∈U.map (·.1)↔t∈L.map cy
 len:U.length<=L.length
def iS {U:Ja (T×W)}{t:T}:(aJ U t).isSome=true↔t∈U.map (·.1):=by
 constructor
 ·intro h;obtain⟨v,hv⟩:=Kn.mp h;exact Jy.mpr #[_,yf hv,rfl]
 ·intro h;obtain⟨p,hp,rfl⟩:=Jy.mp h;obtain⟨v,hv⟩:=Br hp;rw[hv]; rfl
def HasD.get {U:Ja (T×W)}{L:Ja Wd}(h:HasD U L)(t:T):(aJ U t).isSome=decide (t∈L.map cy):=by
 rw[KR,iS,h.iff,JP]
def HasD.nil:HasD [] []:=#[λt=>by simp,Jo _]
def HasD.put {U:Ja (T×W)}{L:Ja Wd}{f:Wd}{v:W}(h:HasD U L):HasD (d3 U (cy f) v) (L++[f]):=by
 refine#[λt=>?_,?_]
 ·rw[gG,JI,JN,<- h.iff t]
  by_cases hk:cy f∈U.map (·.1)
  ·rw[JK hk];constructor
   ·exact .inl
   ·rintro(z|z)
    ·exact z
    ·rw[Jv.mp z]; exact hk
  ·rw[JU hk,JN]; rfl
 ·have:=ey U (cy f) v;have:=h.len;rw[Je,JT]; omega
abbrev eV:Ss:=
 #v[.set 1 .dnew,.loop (.nm 2) (.seq (.ix (.v 0) (.c (.int 2)))) #v[.loop (.nm 3) (.seq (.own "_law_turns" 0 .nil)) #v[.put (.v 1) (.own "_law_part" 3 #v[.v 0,.v 2,.v 3]) (.c (.bl true))]],.ret (.v 1)]
abbrev aM (bs:Ja Jk)(gs:Ja Wd):Ja Wd:=gs.flatMap λg=>am.map (al bs g)
def lf (bs:Ja Jk):∀gs:Ja Wd,(aM bs gs).length=6*gs.length
 | []=>rfl
 | g::gs=>by
  have:=lf bs gs;unfold aM at this ⊢;rw[KH,Je,this,J2,Jb,show am.length=6 from rfl]; omega
section
variable{defs:Ja (JG×Df)}{fuel d:Jg}{S:aa}{Q:QW}
def Gs (G:Gen defs)(hg:Is defs ("_law_bad" : JG) 1 4 eV){m0:W}{ns:Ja JG}{bs:Ja Jk}{a:Jg}{gs:Ja Wd}(hb:GoodB bs)(hnl:ns.length=bs.length)(hgs:∀g∈gs,GoodW a bs.length g/\g.length=3)(h64:gs.length<=100)
  (k:∀(q:Jg) (U:Ja (T×W)) (S':aa),S'[q]?=gV (.dic U)->HasD U (aM bs gs)->S.length<=q->Ka S S'->Q (.ref q,S')) :
  wO (aF (ar defs fuel (d+3)) "_law_bad" 1 [.tup [m0,.tup (JA aE ns bs),.tup (gs.map au)]] S) Q:=by
 refine aw hg rfl rfl λQ' hR=>?_
 replace k:∀(q:Jg) (U:Ja (T×W)) (S':aa),S'[q]?=gV (.dic U)->HasD U (aM bs gs)->S.length<=q->Ka S S'->Q' (.rt (.ref q),S'):=λa b c e f g h=>hR _ _ (k a b c e f g h)
 clear hR;show wZ _ _ eV [gV (.tup [m0,.tup (JA aE ns bs),.tup (gs.map au)]),td,td,td] S Q';generalize hR0:W.tup [m0,.tup (JA aE ns bs),.tup (gs.map au)]=R;dsimp only[eV];refine st ?_;dsimp only[wS,wE,Jr];nofun
 refine for_tup (gs.map au) (λi Z S'=>(∃a2 a3,Z=[gV R,gV (.ref S.length),a2,a3])/\(∃U,S'[S.length]?=gV (.dic U)/\HasD U (aM bs (gs.take i)))/\Ka S S') rfl rfl ?_ ?_ ?_
 ·dsimp only[wE,wV,wG];subst hR0;exact ae #v[] rfl #[rfl,#[_,_,rfl],#[[],ah,.nil],.push]
 ·rintro i w Z S1 hw ⟨⟨a2,a3,rfl⟩,⟨U,e1,h1⟩,k1⟩;clear hK k;rw[Jl,Jf]at hw;obtain⟨g,hg1,rfl⟩:=hw;obtain⟨gg,g3⟩:=hgs g (Jq hg1);have hi:i < gs.length:=(Jz.mp hg1).1;refine ab (show eQ (.nm 2) (au g) [gV R,gV (.ref S.length),a2,a3] S1=gV ([gV R,gV (.ref S.length),gV (au g),a3],S1)from rfl) ?_
  intro Q2 hn _;nofun
  refine c9 rfl rfl ?_;dsimp only[wE,wA];refine jY (d:=d+1) G ?_;refine#[S1.length,am.map (λt=>W.tup (az t)),(λj Z S'=>(∃a3,Z=[gV R,gV (.ref S.length),gV (au g),a3])/\(∃U,S'[S.length]?=gV (.dic U)/\HasD U (aM bs (gs.take i)++(am.take j).map (al bs g)))/\S'[S1.length]?=gV (.lst (am.map λt=>W.tup (az t)))/\Ka S S'),rfl,#[#[_,rfl],#[U,aq e1,by rw[OC,Pw,Ky]; exact h1],ah,k1.trans .push],λj Z S' h=>h.2.2.1,?_,?_]
  ·rintro j w Z S2 hw ⟨⟨a3,rfl⟩,⟨U2,e2,h2⟩,el,k2⟩;clear hK hn;rw[Jl,Jf]at hw;obtain⟨t,ht,rfl⟩:=hw;have htm:=Jq ht;have tk:t.length<=3/\t.Nodup/\∀p∈t,p < 3:=by
    have:∀t∈am,t.length<=3/\t.Nodup/\∀p∈t,p < 3:=by decide
    exact this t htm
   refine ab (show eQ (.nm 3) (.tup (az t)) [gV R,gV (.ref S.length),gV (au g),a3] S2=gV ([gV R,gV (.ref S.length),gV (au g),gV (.tup (az t))],S2)from rfl) ?_
   intro Q3 hn3 _;refine st ?_;left;subst hR0;refine xX (d:=d) G hb hnl gg (λp hp=>by have:=tk.2.2 p hp; omega) tk.2.1 ∅ λS3 k3=>?_
   have e3:=k3.get _ _ e2;have hlt:U2.length < sizeLine:=by
    have b1:=h2.len;have b2:=lf bs (gs.take i);rw[Je,b2,Jb,JQ,JQ,show am.length=6 from rfl]at b1
    rw[Kq]; omega
   refine ab (yc e3 hlt) (aR (hn3 _ _ #[#[_,rfl],#[_,bg e3,?_],?_,(k2.trans k3).late (Jo _)]))
   ·rw[JV,ht,JI,<- Lw];exact h2.put
   ·rw[aY (by have:=k1.len; have:=bK e1; omega)]; exact k3.get _ _ el
  ·rintro Z S2 ⟨⟨a3,rfl⟩,⟨U2,e2,h2⟩,el,k2⟩;rw[Jb,J5]at h2;refine hK _ _ (aR (hn _ _ #[#[_,_,rfl],#[U2,e2,?_],k2]));unfold aM at h2 ⊢;rw[JV,hg1,LB]
   simpa using h2
 ·rintro Z S1 ⟨⟨a2,a3,rfl⟩,⟨U,e1,h1⟩,k1⟩;rw[Jb,J5]at h1;exact hK _ _ (st (k _ U S1 e1 h1 (Jo _) k1))
end
abbrev bT:Ss:=
 #v[.set 1 (.lst #v[.tup .nil]),.whl (.cmp .lt (.bi .len #v[.ix (.v 1) (.c (.int 0))]) (.c (.int 3))) #v[.set 1 (.own "longer_orders" 2 #v[.v 1,.c (.int 3)])],.set 2 .dnew,.loop (.nm 3) (.seq (.ix (.v 0) (.c (.int 2)))) #v[.loop (.nm 4) (.seq (.v 1)) #v[.put (.v 2) (.own "part" 3 #v[.v 0,.v 3,.v 4]) (.c (.bl true))]],.ret (.v 2)]
abbrev u4:Jg->Ja (Ja Jg)
 | 0=>[[]]
 | i+1=>cr 3 (u4 i)
def u5:u4 3=am:=by decide
def D9:∀i,i<=3->(∃o,(u4 i)[0]?=gV o/\o.length=i)/\(u4 i).length<=6/\∀o∈u4 i,o.length<=3:=λi hi=>by
 rcases(show i=0\/i=1\/i=2\/i=3 by omega)with rfl|rfl|rfl|rfl
 ·exact#[#[[],rfl,rfl],#v[],#v[]]
 ·exact#[#[[0],rfl,rfl],#v[],#v[]]
 ·exact#[#[[0,1],rfl,rfl],#v[],#v[]]
 ·exact#[#[[0,1,2],rfl,rfl],#v[],#v[]]
section
variable{defs:Ja (JG×Df)}{fuel d:Jg}{S:aa}{Q:QW}
def yE (hfu:20 < fuel)(P:Parts defs)(hp:Is defs ("part" : JG) 3 3 jt)(hl:Is defs ("longer_orders" : JG) 2 4 bx)(hg:Is defs ("barred_threes" : JG) 1 5 bT){m0:W}{ns:Ja JG}{bs:Ja Jk}{a:Jg}{gs:Ja Wd}(hb:GoodB bs)(hnl:ns.length=bs.length)(hgs:∀g∈gs,GoodW a bs.length g/\g.length=3)(h64:gs.length<=100)
  (k:∀(q:Jg) (U:Ja (T×W)) (S':aa),S'[q]?=gV (.dic U)->HasD U (aM bs gs)->S.length<=q->Ka S S'->Q (.ref q,S')) :
  wO (aF (ar defs fuel (d+4)) "barred_threes" 1 [.tup [m0,.tup (JA aE ns bs),.tup (gs.map au)]] S) Q:=by
 refine aw hg rfl rfl λQ' hR=>?_
 replace k:∀(q:Jg) (U:Ja (T×W)) (S':aa),S'[q]?=gV (.dic U)->HasD U (aM bs gs)->S.length<=q->Ka S S'->Q' (.rt (.ref q),S'):=λa b c e f g h=>hR _ _ (k a b c e f g h)
 clear hR;show wZ _ _ bT [gV (.tup [m0,.tup (JA aE ns bs),.tup (gs.map au)]),td,td,td,td] S Q';generalize hR0:W.tup [m0,.tup (JA aE ns bs),.tup (gs.map au)]=R;dsimp only[bT];refine st ?_;dsimp only[wS,wE,wA,Jr];nofun
 refine Ce (λm Z S'=>∃(i q:Jg),i+m=3/\Z=[gV R,gV (.ref q),td,td,td]/\S'[q]?=gV (.lst (cu (u4 i)))/\S.length<=q/\Ka S S') 3 rfl rfl ∅ #[0,S.length,rfl,rfl,ah,Jo _,.push] ?_
 rintro m Z S1 ⟨i,q,him,rfl,e1,hq,k1⟩;obtain⟨⟨o,ho,hol⟩,l6,l3⟩:=D9 i ∅
 dsimp only[wT,wE,wA,wV,wG];refine kS (w:=.tup (az o)) e1 #v[] (by unfold cu; rw[Jl,show((0:Jk).toNat)=0 from rfl,ho]; rfl) (aD ?_)
 rw[show(az o).length=o.length from Jb ..,hol]
 dsimp only[DS,aV,wB];refine#[λh=>?_,λh=>?_]
 ·have h:(i:Jk) < 3:=J8 h;refine#[m - 1,∅,λQ2 hn _=>?_]
  clear hK k;refine st ?_;left;refine yC (n:=3) (d:=d+2) hl e1 #v[] (λo ho=>by have:=l3 o ho; omega) ∅ λq2 S2 e2 hq2 k2=>aR (hn _ _ #[i+1,q2,∅,rfl,e2,?_,k1.trans k2])
  exact JY k1.len hq2
 ·have h:¬ (i:Jk) < 3:=ML h;obtain rfl:i=3:=∅
  rw[u5]at e1;refine hK _ _ ?_;clear hK K l6 l3 ho hol h him;refine st ?_;dsimp only[wS,wE,Jr];nofun
  have hq1:=bK e1;refine for_tup (gs.map au) (λi Z S'=>(∃a3 a4,Z=[gV R,gV (.ref q),gV (.ref S1.length),a3,a4])/\(∃U,S'[S1.length]?=gV (.dic U)/\HasD U (aM bs (gs.take i)))/\S'[q]?=gV (.lst (cu am))/\Ka S S') rfl rfl ?_ ?_ ?_
  ·dsimp only[wE,wV,wG];subst hR0;exact ae #v[] rfl #[rfl,#[_,_,rfl],#[[],ah,.nil],aq e1,k1.trans .push]
  ·rintro i w Z S2 hw ⟨⟨a3,a4,rfl⟩,⟨U,e2,h2⟩,el2,k2⟩;clear hK k;rw[Jl,Jf]at hw;obtain⟨g,hg1,rfl⟩:=hw;obtain⟨gg,g3⟩:=hgs g (Jq hg1);have hi:i < gs.length:=(Jz.mp hg1).1;refine ab (show eQ (.nm 3) (au g) [gV R,gV (.ref q),gV (.ref S1.length),a3,a4] S2=gV ([gV R,gV (.ref q),gV (.ref S1.length),gV (au g),a4],S2)from rfl) ?_
   intro Q2 hn _;nofun
   refine jX q (cu am) (λj Z S'=>(∃a4,Z=[gV R,gV (.ref q),gV (.ref S1.length),gV (au g),a4])/\(∃U,S'[S1.length]?=gV (.dic U)/\HasD U (aM bs (gs.take i)++(am.take j).map (al bs g)))/\S'[q]?=gV (.lst (cu am))/\Ka S S') rfl rfl #[rfl,#[_,rfl],#[U,e2,by rw[OC,Pw,Ky]; exact h2],el2,k2] (λj Z S' h=>h.2.2.1) ?_ ?_
   ·rintro j w Z S3 hw ⟨⟨a4,rfl⟩,⟨U3,e3,h3⟩,el3,k3⟩;clear hK hn;unfold cu at hw;rw[Jl,Jf]at hw;obtain⟨t,ht,rfl⟩:=hw;have tk:t.length<=3/\t.Nodup/\∀p∈t,p < 3:=by
     have:∀t∈am,t.length<=3/\t.Nodup/\∀p∈t,p < 3:=by decide
     exact this t (Jq ht)
    refine ab (show eQ (.nm 4) (.tup (az t)) [gV R,gV (.ref q),gV (.ref S1.length),gV (au g),a4] S3=gV ([gV R,gV (.ref q),gV (.ref S1.length),gV (au g),gV (.tup (az t))],S3)from rfl) ?_
    intro Q3 hn3 _;refine st ?_;left;subst hR0;refine Go (d:=d) P hp hb hnl gg (λp hp=>by have:=tk.2.2 p hp; omega) tk.2.1 ∅ λS4 k4=>?_
    have e4:=k4.get _ _ e3;have hlt:U3.length < sizeLine:=by
     have b1:=h3.len;have b2:=lf bs (gs.take i);rw[Je,b2,Jb,JQ,JQ,show am.length=6 from rfl]at b1
     rw[Kq]; omega
    refine ab (yc e4 hlt) (aR (hn3 _ _ #[#[_,rfl],#[_,bg e4,?_],?_,(k3.trans k4).late k1.len]))
    ·rw[JV,ht,JI,<- Lw];exact h3.put
    ·rw[aY ∅]; exact k4.get _ _ el3
   ·rintro Z S3 ⟨⟨a4,rfl⟩,⟨U3,e3,h3⟩,el3,k3⟩;rw[show(cu am).length=am.length from Jb ..,J5]at h3
    refine hK _ _ (aR (hn _ _ #[#[_,_,rfl],#[U3,e3,?_],el3,k3]));unfold aM at h3 ⊢;rw[JV,hg1,LB]
    simpa using h3
  ·rintro Z S2 ⟨⟨a3,a4,rfl⟩,⟨U,e2,h2⟩,el2,k2⟩;rw[Jb,J5]at h2;exact hK _ _ (st (k _ U S2 e2 h2 k1.len k2))
end
abbrev aS:Ss:=
 #v[.loop (.nm 6) (.rng2 #v[.bi .len #v[.v 5],.bi .len #v[.v 3]]) #v[.set 7 (.lst .nil),.loop (.nm 8) (.rng #v[.bi .len #v[.ix (.v 1) (.c (.int 1))]]) #v[.set 9 (.lst .nil),.loop (.nm 10) (.rng #v[.v 6]) #v[.ex (.me .append (.v 9) #v[.cmp .isin (.tup #v[.tup #v[.ix (.ix (.v 3) (.v 10)) (.c (.int 0)),.tup .nil],.tup #v[.ix (.ix (.v 3) (.v 6)) (.c (.int 0)),.tup #v[.ix (.ix (.ix (.v 3) (.v 6)) (.c (.int 1))) (.v 10)]],.tup #v[.v 4,.tup #v[.ix (.v 5) (.v 10),.v 8]]]) (.v 2)])],.ite (.cmp .notin (.c (.bl true)) (.v 9)) #v[.ex (.me .append (.v 7) #v[.v 8])] .nil],.ite (.cmp .eq (.v 7) (.lst .nil)) #v[.ret (.c .non)] .nil,.set 5 (.op .add (.v 5) (.tup #v[.ix (.v 7) (.own "_law_pick" 2 #v[.v 0,.bi .len #v[.v 7]])]))],.ret (.v 5)]
abbrev bp (U:Ja (T×W))(u:Wd)(mk:Jk)(i m:Jg)(x y:Jk):JL:=(aJ U (cy [((u.getD i (0,[])).1,[]),((u.getD m (0,[])).1,[(u.getD m (0,[])).2.getD i 0]),(mk,[x,y])])).isSome
def yF {S:aa}{l:Jg}{bl:Ja JL}(h:S[l]?=gV (.lst (bl.map W.bl))):∃b,aP .notin (.bl true) (.ref l) S=gV (.bl b,S)/\(b=true->∀x∈bl,x=false):=by
 have hf:(bB (.bl true)&&(bl.map W.bl).all bB)=true:=by
  simp only[bB,LI,JB];intro x hx;obtain⟨z,_,rfl⟩:=Jy.mp hx;rfl
 refine#[!(bl.map W.bl).any λz=>jz z (.bl true),?_,λhb x hx=>?_]
 ·simp only[aP,jW h,dC,ud,Ae,eN,aK h,hf,LV,J4]
 ·rw[LY,PL]at hb;cases x with
  | false=>rfl
  | true=>exact absurd rfl (hb (.bl true) (Jy.mpr #[true,hx,rfl]))
section
variable{defs:Ja (JG×Df)}{fuel d:Jg}{S:aa}{r:Jg}{Q:QW}
def lg (G:Gen defs)(hg:Is defs ("_law_new_ways" : JG) 6 11 aS){m0 b0:W}{N:Ja W}{a n q:Jg}{u:Wd}{mk:Jk}{U:Ja (T×W)}(hN:N.length=n)(hn3:n<=3)(hu:GoodW a n u)(hl:u.length<=900)(e:S[q]?=gV (.dic U))(hqr:q≠r)(hf:Fl S r)
  (k:∀w S',(w=.non\/∃to:Ja Jk,w=.tup (ac to)/\to.length=u.length/\(∀x∈to,0<=x/\x < (n:Jk))/\∀j < u.length,∀i < j,bp U u mk i j (to.getD i 0) (to.getD j 0)=false)->Fl S' r->Kp r S S'->Q (w,S')) :
  wO (aF (ar defs fuel (d+2)) "_law_new_ways" 6 [.ref r,.tup [m0,.tup N,b0],.ref q,au u,.int mk,.tup []] S) Q:=by
 refine aw hg rfl rfl λQ' hR=>?_
 replace k:∀w S',(w=.non\/∃to:Ja Jk,w=.tup (ac to)/\to.length=u.length/\(∀x∈to,0<=x/\x < (n:Jk))/\∀j < u.length,∀i < j,bp U u mk i j (to.getD i 0) (to.getD j 0)=false)->Fl S' r->Kp r S S'->Q' (.rt w,S'):=λw S' h1 h2 h3=>hR _ _ (k w S' h1 h2 h3)
 clear hR;show wZ _ _ aS [gV (.ref r),gV (.tup [m0,.tup N,b0]),gV (.ref q),gV (au u),gV (.int mk),gV (.tup (ac [])),td,td,td,td,td] S Q';generalize hR0:W.tup [m0,.tup N,b0]=R;have ul:(u.map ay).length=u.length:=Jb ..;have hqS:=bK e;have hrS:=hf.lt;dsimp only[aS];nofun
 refine dw 0 (u.length:Jk) (λm Z S'=>∃(to:Ja Jk) (a6 a7 a8 a9 a10:Ji W),Z=[gV (.ref r),gV R,gV (.ref q),gV (au u),gV (.int mk),gV (.tup (ac to)),a6,a7,a8,a9,a10]/\to.length=m/\(∀x∈to,0<=x/\x < (n:Jk))/\(∀j < m,∀i < j,bp U u mk i j (to.getD i 0) (to.getD j 0)=false)/\Fl S' r/\Kp r S S') rfl rfl rfl ∅ ?_ ?_ ?_
 ·dsimp only[wE,wA,wV,wG];refine aD #[rfl,aD ?_];rw[ul];exact#[rfl,[],_,_,_,_,_,rfl,rfl,(λx hx=>nomatch hx),(λj hj=>∅),hf,.refl]
 ·rintro m Z S1 hm ⟨to,a6,a7,a8,a9,a10,rfl,htl,hto,hbp,f1,k1⟩ Q2 hn2 hr2;clear hK;rw[Nc];have hmu:m < u.length:=∅
  have e1:S1[q]?=gV (.dic U):=k1.get _ _ hqr e;have s1:S.length<=S1.length:=k1.len;have lm:=hu.len m _ (ak (d:=(0,[])) hmu);dsimp only[Jr];refine st ?_;dsimp only[wS,wE,wA,Jr];nofun
  refine bC (n:Jk) (λx Z S'=>(∃a8 a9 a10,Z=[gV (.ref r),gV R,gV (.ref q),gV (au u),gV (.int mk),gV (.tup (ac to)),gV (.int m),gV (.ref S1.length),a8,a9,a10])/\(∃ls:Ja Jk,S'[S1.length]?=gV (.lst (ac ls))/\ls.length<=x/\(∀y∈ls,0<=y/\y < (n:Jk))/\∀y∈ls,∀i < m,bp U u mk i m (to.getD i 0) y=false)/\S'[q]?=gV (.dic U)/\Fl S' r/\Kp r S S') rfl rfl ∅ ?_ ?_ ?_
  ·dsimp only[wE,wA,wV,wG];subst hR0;refine ae #v[] rfl (aD ?_)
   rw[hN];exact#[rfl,#[_,_,_,rfl],#[[],ah,Jo _,(λy hy=>nomatch hy),λy hy=>nomatch hy],aq e1,f1.ka .push,k1.trans .push]
  ·rintro x Z S2 hx ⟨⟨a8,a9,a10,rfl⟩,⟨ls,e2,hll,hls,hlb⟩,q2,f2,k2⟩ Q3 hn3' hr3;clear hK;have l2:=bK e2;dsimp only[Jr];refine st ?_;dsimp only[wS,wE,wA,Jr];nofun
   refine bC (m:Jk) (λi Z S'=>(∃a10,Z=[gV (.ref r),gV R,gV (.ref q),gV (au u),gV (.int mk),gV (.tup (ac to)),gV (.int m),gV (.ref S1.length),gV (.int x),gV (.ref S2.length),a10])/\S'[S2.length]?=gV (.lst (((Jw i).map λj=>bp U u mk j m (to.getD j 0) (x:Jk)).map W.bl))/\S'[S1.length]?=gV (.lst (ac ls))/\S'[q]?=gV (.dic U)/\Fl S' r/\Kp r S S') rfl rfl ∅ #[rfl,#[_,rfl],ah,aq e2,aq q2,f2.ka .push,k2.trans .push] ?_ ?_
   ·rintro i Z S3 hi ⟨⟨a10,rfl⟩,e3,el3,q3,f3,k3⟩ Q4 hn4 _;clear hK;have hiu:i < u.length:=∅
    have him:i < (u.getD m (0,[])).2.length:=∅
    have hit:i < to.length:=∅
    dsimp only[Jr];refine st ?_;left;refine#[cK e3,?_];refine ae (Jp i) (c8 hiu) (ae #v[] rfl (ae (Jp m) (c8 hmu) (ae #v[] rfl (ae (Jp m) (c8 hmu) (ae #v[] rfl (ae (w:=.int ((u.getD m (0,[])).2.getD i 0)) (Jp i) (by rw[JC,Jl,ak (d:=0) him]; rfl) (ae (w:=.int (to.getD i 0)) (Jp i) (by rw[JC]; unfold ac; rw[Jl,ak (d:=0) hit]; rfl) ?_)))))))
    refine ab (a:=(.bl (bp U u mk i m (to.getD i 0) (x:Jk)),S3)) ?_ ?_
    ·show aP .isin (au [((u.getD i (0,[])).1,[]),((u.getD m (0,[])).1,[(u.getD m (0,[])).2.getD i 0]),(mk,[to.getD i 0,(x:Jk)])]) (.ref q) S3=_;simp only[aP,bP q3,jq]; rfl
    refine kU e3 (by rw[Jb,Jb,JS]; omega) (aR (hn4 _ _ #[#[_,rfl],?_,?_,?_,f3.own ∅,k3.late ∅]))
    ·rw[bg e3,KQ,JI,JI]; rfl
    ·rw[aY ∅]; exact el3
    ·rw[aY ∅]; exact q3
   ·rintro Z S3 ⟨⟨a10,rfl⟩,e3,el3,q3,f3,k3⟩;refine hK _ _ ?_;clear hK K;nofun
    dsimp only[wS,wT,wE,wA,wV,wG];obtain⟨b,eb,hb⟩:=yF e3;refine ab eb ?_;dsimp only[wB];refine aj (Q0:=Q3) (λhbt Q5 hn5 _=>?_) (λ_ Q5 hn5 _=>aR (hn5 _ _ (hK _ _ (aR (hn3' _ _ #[#[_,_,_,rfl],#[ls,el3,∅,hls,hlb],q3,f3,k3])))))
    refine st ?_;left;refine#[cK el3,kU el3 (by unfold ac; rw[Jb]; omega) (aR (hn5 _ _ (hK _ _ (aR (hn3' _ _ #[#[_,_,_,rfl],#[ls++[(x:Jk)],?_,by rw[Je,JT]; omega,λy hy=>?_,λy hy i hi=>?_],?_,f3.own ∅,k3.late ∅])))))]
    ·rw[bg el3]; unfold ac; rw[JI]; rfl
    ·rcases JN.mp hy with h|h
     ·exact hls y h
     ·rw[Jv.mp h]; omega
    ·rcases JN.mp hy with h|h
     ·exact hlb y h i hi
     ·rw[Jv.mp h];exact hb hbt _ (Jy.mpr #[i,Jt.mpr ∅,rfl])
    ·rw[aY ∅]; exact q3
  ·rintro Z S2 ⟨⟨a8,a9,a10,rfl⟩,⟨ls,e2,hll,hls,hlb⟩,q2,f2,k2⟩;refine hK _ _ ?_;clear hK K;rw[JC]at hll;nofun
   dsimp only[wS,wT,wE,wA,wV,wG];refine ab (sZ (aq e2) ah) ?_;dsimp only[wB];refine aj (Q0:=Q2) (λ_ Q5 _ hr5=>?_) (λhne Q5 hn5 _=>aR (hn5 _ _ (hK _ _ ?_)))
   ·refine st ?_;dsimp only[wS,wE];exact hr5 _ _ (hr2 _ _ (k _ _ (.inl rfl) (f2.ka .push) (k2.trans .push)))
   clear hn5 hK;have hpos:0 < ls.length:=by
    cases ls with
    | nil=>cases hne
    | cons _ _=>simp
   refine st ?_;left;have e2':=aq (u:=O.lst []) e2;refine pz e2' ?_;rw[show(ac ls).length=ls.length from Jb ..]
   refine aU (d:=d) G.pick (f2.ka .push) ∅ ∅ λv S4 v0 v1 f4 k4=>?_
   have hv:v.toNat < ls.length:=∅
   have e4:=k4.get _ _ (by have:=bK e2; omega) e2'
   refine kS (w:=.int ls[v.toNat]) e4 v0 (by unfold ac; rw[Jl,Ju hv]; rfl) ?_
   refine ab (bO (eh (by rw[Je,show(ac to).length=to.length from Jb ..]; show _+1<=_; omega))) (aR (hn2 _ _ #[to++[ls[v.toNat]],gV (.int m),gV (.ref S1.length),a8,a9,a10,?_,by rw[Je,htl]; rfl,λy hy=>?_,λj hj i hi=>?_,f4,(k2.trans .push).trans k4]))
   ·rw[show ac to++[W.int ls[v.toNat]]=ac (to++[ls[v.toNat]]) by unfold ac; rw[JI]; rfl]
   ·rcases JN.mp hy with h|h
    ·exact hto y h
    ·rw[Jv.mp h]; exact hls _ (Kg hv)
   ·have gl:∀j:Jg,j < to.length->(to++[ls[v.toNat]]).getD j 0=to.getD j 0:=λj hj=>by rw[JD,JD,JZ hj]
    rw[gl i ∅]
    by_cases ej:j=m
    ·subst ej;rw[show(to++[ls[v.toNat]]).getD j 0=ls[v.toNat] by rw[<- htl,JD,J9 (Jo _),Mc]; rfl]
     exact hlb _ (Kg hv) i hi
    ·rw[gl j ∅]
     exact hbp j ∅ i hi
 ·rintro Z S1 ⟨to,a6,a7,a8,a9,a10,rfl,htl,hto,hbp,f1,k1⟩;refine hK _ _ (st ?_);dsimp only[wS,wE,wV,wG];exact k _ _ (.inr #[to,rfl,∅,hto,λj hj=>hbp j ∅]) f1 k1
end
abbrev dz:Ss:=
 #v[.set 4 (.tup .nil),.loop (.nm 5) (.rng #v[.v 3]) #v[.set 6 (.own "_law_pick" 2 #v[.v 0,.bi .len #v[.ix (.v 1) (.c (.int 0))]]),.set 7 (.own "_law_new_ways" 6 #v[.v 0,.v 1,.v 2,.v 4,.v 6,.tup .nil]),.ite (.cmp .isnot (.v 7) (.c .non)) #v[.set 4 (.op .add (.v 4) (.tup #v[.tup #v[.v 6,.v 7]]))] .nil],.ret (.v 4)]
def aC {u:Wd}{h:Pt}{p:Jg}(hp:p < u.length):(u++[h]).getD p (0,[])=u.getD p (0,[]):=by
 rw[JD,JD,JZ hp]
def bR {u:Wd}{h:Pt}:(u++[h]).getD u.length (0,[])=h:=by
 rw[JD,J9 (Jo _),Mc]; rfl
abbrev Std (U:Ja (T×W))(u:Wd):Prop:=∀k < u.length,∀j < k,∀i < j,cw U u i j k=false
def Std.snoc {U:Ja (T×W)}{u:Wd}{m:Jk}{to:Ja Jk}(h:Std U u)(hb:∀j < u.length,∀i < j,bp U u m i j (to.getD i 0) (to.getD j 0)=false):Std U (u++[(m,to)]):=by
 intro k hk j hj i hi;rw[Je,JT]at hk
 by_cases e:k=u.length
 ·subst e;have:=hb j hj i hi;unfold bp at this;unfold cw di;rw[aC (Lp hi hj),aC hj,bR];exact this
 ·have hk':k < u.length:=∅
  have:=h k hk' j hj i hi;unfold cw di at this ⊢;rw[aC (Lp hi (Lp hj hk')),aC (Lp hj hk'),aC hk'];exact this
section
variable{defs:Ja (JG×Df)}{fuel d:Jg}{S:aa}{r:Jg}{Q:QW}
def Bz (G:Gen defs)(hw:Is defs ("_law_new_ways" : JG) 6 11 aS)(hg:Is defs ("_law_world" : JG) 4 8 dz){tx N:Ja W}{b0:W}{a n q many:Jg}{U:Ja (T×W)}(hM:tx.length=a)(ha1:0 < a)(ha3:a<=3)(hN:N.length=n)(hn3:n<=3)(hm:many<=900)(e:S[q]?=gV (.dic U))(hqr:q≠r)(hf:Fl S r)
  (k:∀(u:Wd) S',u.length<=many->GoodW a n u->Std U u->Fl S' r->Kp r S S'->Q (au u,S')) :
  wO (aF (ar defs fuel (d+3)) "_law_world" 4 [.ref r,.tup [.tup tx,.tup N,b0],.ref q,.int many] S) Q:=by
 refine aw hg rfl rfl λQ' hR=>?_
 replace k:∀(u:Wd) S',u.length<=many->GoodW a n u->Std U u->Fl S' r->Kp r S S'->Q' (.rt (au u),S'):=λu S' h1 h2 h3 h4 h5=>hR _ _ (k u S' h1 h2 h3 h4 h5)
 clear hR;show wZ _ _ dz [gV (.ref r),gV (.tup [.tup tx,.tup N,b0]),gV (.ref q),gV (.int many),td,td,td,td] S Q';generalize hR0:W.tup [.tup tx,.tup N,b0]=R;dsimp only[dz];refine st ?_;dsimp only[wS,wE,wA,Jr];nofun
 refine bC (many:Jk) (λi Z S'=>∃(u:Wd) (a5 a6 a7:Ji W),Z=[gV (.ref r),gV R,gV (.ref q),gV (.int many),gV (au u),a5,a6,a7]/\u.length<=i/\GoodW a n u/\Std U u/\Fl S' r/\Kp r S S') rfl rfl ∅ #[rfl,[],_,_,_,rfl,Jo _,.nil,(λk hk=>by cases hk),hf,.refl] ?_ ?_
 ·rintro i Z S1 hi ⟨u,a5,a6,a7,rfl,hul,hu,hst,f1,k1⟩ Q2 hn _;clear hK;have e1:=k1.get _ _ hqr e;dsimp only[Jr];refine st ?_;left;subst hR0;refine ae #v[] rfl (aD ?_)
  rw[hM];refine aU (d:=d+1) G.pick f1 ∅ ∅ λv S2 v0 v1 f2 k2=>?_
  have e2:=k2.get _ _ hqr e1;refine st ?_;left;refine lg (d:=d) G hw hN hn3 hu ∅ e2 hqr f2 λw S3 hw3 f3 k3=>?_
  nofun
  dsimp only[wS,wT,wE,wA,wV,wG];rcases hw3 with rfl|⟨to,rfl,htl,hto,hbp⟩
  ·refine ab (show aP .isnot .non .non S3=gV (.bl false,S3)from rfl) ?_
   dsimp only[wB];exact aj (Q0:=Q2) (λz=>by cases z) (λ_ Q5 hn5 _=>aR (hn5 _ _ (hK _ _ (aR (hn _ _ #[u,_,_,_,rfl,∅,hu,hst,f3,(k1.trans k2).trans k3])))))
  ·refine ab (show aP .isnot (.tup (ac to)) .non S3=gV (.bl true,S3)from rfl) ?_
   dsimp only[wB];refine aj (Q0:=Q2) (λ_ Q5 hn5 _=>?_) (λz=>by cases z)
   refine st ?_;dsimp only[wS,wE,wA,wV,wG,Jr,au];refine ab (bO (eh (by rw[Je,Jb]; show _+1<=_; omega))) (aR (hn5 _ _ (hK _ _ (aR (hn _ _ #[u++[(v,to)],gV (.int i),gV (.int v),gV (.tup (ac to)),?_,?_,hu.snoc #[v0,v1] htl hto,hst.snoc hbp,f3,(k1.trans k2).trans k3])))))
   ·unfold au;rw[JI]; rfl
   ·rw[Je,JT]; omega
 ·rintro Z S1 ⟨u,a5,a6,a7,rfl,hul,hu,hst,f1,k1⟩;rw[JC]at hul;refine hK _ _ (st ?_);dsimp only[wS,wE,wV,wG];exact k u S1 hul hu hst f1 k1
end
abbrev bG (U:Ja (T×W))(u:Wd)(h:Pt)(p q:Jg):JL:=(aJ U (cy [((u.getD p (0,[])).1,[]),((u.getD q (0,[])).1,[(u.getD q (0,[])).2.getD p 0]),(h.1,[h.2.getD p 0,h.2.getD q 0])])).isSome
def lh {U:Ja (T×W)}{u:Wd}{h:Pt}{p q:Jg}(h1:p < q)(h2:q < u.length):cw U (u++[h]) p q u.length=bG U u h p q:=by
 unfold cw bG di;rw[aC (Lp h1 h2),aC h2,bR]
def ll {u:Wd}{p s:Jg}(h:p < s):(u.take s).getD p (0,[])=u.getD p (0,[]):=by
 rw[JD,JD,MC h]
abbrev gP (U:Ja (T×W))(v:Wd):JL:=(Jw (v.length - 2)).all λp=>!cw U v p (v.length - 2) (v.length - 1)
def mM {U:Ja (T×W)}{u:Wd}{h:Pt}{s:Jg}(hs:s < u.length):gP U (u.take (s+1)++[h])=(Jw s).all λp=>!bG U u h p s:=by
 have hl:(u.take (s+1)).length=s+1:=by rw[JQ]; omega
 unfold gP;rw[Je,hl,JT,show s+1+1 - 2=s by omega,show s+1+1 - 1=s+1 by omega,KR,JB,JB]
 refine OW λp=>OW λhp=>?_
 have hp:=Jt.mp hp;have e:=lh (U:=U) (u:=u.take (s+1)) (h:=h) (p:=p) (q:=s) hp ∅
 rw[hl]at e;rw[e];unfold bG;rw[ll ∅,ll ∅]
abbrev cN (n:Jg)(hs:Ja Pt):Ja Pt:=hs.flatMap λh=>(Jw n).map λ(w:Jg)=>(h.1,h.2++[(w:Jk)])
abbrev cb (U:Ja (T×W))(u:Wd)(n:Jg)(m:Jk):Jg->Ja Pt
 | 0=>[(m,[])]
 | s+1=>(cN n (cb U u n m s)).filter λh=>gP U (u.take (s+1)++[h])
abbrev g7 (U:Ja (T×W))(u:Wd)(a n:Jg):Ja Pt:=(Jw a).flatMap λ(m:Jg)=>cb U u n (m:Jk) u.length
def bc {ws:Ja Jk}{x:Jk}{p:Jg}(hp:p < ws.length):(ws++[x]).getD p 0=ws.getD p 0:=by
 rw[JD,JD,JZ hp]
def fD {U:Ja (T×W)}{u:Wd}{m x:Jk}{ws:Ja Jk}{p q:Jg}(h1:p < q)(h2:q < ws.length):bG U u (m,ws++[x]) p q=bG U u (m,ws) p q:=by
 unfold bG;dsimp only;rw[bc (Lp h1 h2),bc h2]
def dS {U:Ja (T×W)}{u:Wd}{n:Jg}{m:Jk}:∀ {s:Jg} {h:Pt},s<=u.length->(h∈cb U u n m s↔h.1=m/\h.2.length=s/\(∀w∈h.2,0<=w/\w < (n:Jk))/\∀p q,p < q->q < s->bG U u h p q=false)
 | 0,h,_=>by
  rw[cb,Jv];constructor
  ·rintro rfl;exact#[rfl,rfl,(λw hw=>nomatch hw),λp q _ h=>absurd h (Qi _)]
  ·rintro⟨h1,h2,_⟩;rw[<- h1,<- KY h2]
 | s+1,h,hs=>by
  rw[cb,KG,mM ∅,JB]
  unfold cN;rw[Kb];constructor
  ·rintro⟨⟨h0,hm,hw⟩,hb⟩;obtain⟨w,hwr,rfl⟩:=Jy.mp hw;obtain⟨h1,h2,h3,h4⟩:=(dS ∅).mp hm
   have hwr:=Jt.mp hwr;refine#[h1,by rw[Je,h2]; rfl,λx hx=>?_,λp q hpq hq=>?_]
   ·rcases JN.mp hx with z|z
    ·exact h3 x z
    ·rw[Jv.mp z]; omega
   ·by_cases e:q=s
    ·subst e;have:=hb p (Jt.mpr hpq)
     simpa using this
    ·rw[fD hpq ∅]; exact h4 p q hpq ∅
  ·rintro⟨h1,h2,h3,h4⟩;obtain⟨m',ws⟩:=h;dsimp only at h1 h2 h3 h4;have hne:ws≠[]:=λz=>by rw[z]at h2; cases h2
   have hd:=M5 hne;have hx:=h3 _ (List.getLast_mem hne);generalize ws.getLast hne=x at hd hx;have hdl:ws.dropLast.length=s:=by rw[Lv]; omega
   generalize ws.dropLast=vs at hd hdl;subst hd;refine#[#[(m',vs),(dS ∅).mpr #[h1,hdl,λw hw=>h3 w (Kz _ hw),λp q hpq hq=>?_],?_],λp hp=>?_]
   ·rw[<- fD (x:=x) hpq ∅]; exact h4 p q hpq ∅
   ·exact Jy.mpr #[x.toNat,Jt.mpr ∅,by dsimp only; rw[show((x.toNat:Jg):Jk)=x by omega]]
   ·rw[h4 p s (Jt.mp hp) ∅]; rfl
def eW {U:Ja (T×W)}{u:Wd}{n:Jg}{m:Jk}:∀s:Jg,(cb U u n m s).length<=n ^ s
 | 0=>Jo _
 | s+1=>by
  rw[cb];refine JY (K4 _ _) ?_;have:=eW (U:=U) (u:=u) (n:=n) (m:=m) s;have e:∀hs:Ja Pt,(cN n hs).length=hs.length*n:=λhs=>by
   unfold cN
   induction hs with
   | nil=>simp
   | cons h hs ih=>rw[KH,Je,ih,Jb,JS,J2,Na]; omega
  rw[e,Nat.pow_succ];exact OB _ this
def mN {n:Jg}(hs:Ja Pt):(cN n hs).length=hs.length*n:=by
 unfold cN
 induction hs with
 | nil=>simp
 | cons h hs ih=>rw[KH,Je,ih,Jb,JS,J2,Na]; omega
def ln {U:Ja (T×W)}{u:Wd}{a n:Jg}{h:Pt}:h∈g7 U u a n↔(0<=h.1/\h.1 < a)/\h.2.length=u.length/\(∀w∈h.2,0<=w/\w < (n:Jk))/\∀p q,p < q->q < u.length->bG U u h p q=false:=by
 unfold g7;rw[Kb];constructor
 ·rintro⟨m,hm,hh⟩;obtain⟨h1,h2⟩:=(dS (Jo _)).mp hh;have:=Jt.mp hm;exact#[∅,h2]
 ·rintro⟨h1,h2⟩;exact#[h.1.toNat,Jt.mpr ∅,(dS (Jo _)).mpr #[∅,h2]]
abbrev aX:Ss:=
 #v[.set 2 (.op .sub (.bi .len #v[.v 1]) (.c (.int 1))),.loop (.nm 3) (.rng #v[.op .sub (.v 2) (.c (.int 1))]) #v[.ite (.cmp .isin (.own "three_at" 4 #v[.v 1,.v 3,.op .sub (.v 2) (.c (.int 1)),.v 2]) (.v 0)) #v[.ret (.v 3)] .nil],.ret (.c .non)]
abbrev cC:Ss:=
 #v[.set 3 (.lst .nil),.loop (.nm 4) (.rng #v[.bi .len #v[.ix (.v 0) (.c (.int 0))]]) #v[.set 5 (.lst #v[.tup #v[.v 4,.tup .nil]]),.loop (.nm 6) (.rng2 #v[.c (.int 1),.op .add (.bi .len #v[.v 2]) (.c (.int 1))]) #v[.set 5 (.comp (.v 1) (.nm 1) (.seq (.own "longer_wishes" 2 #v[.v 0,.v 5])) #v[.cmp .is (.own "first_bar" 2 #v[.v 2,.op .add (.sl (.v 4) .no (.yes (.v 3))) (.tup #v[.v 1])]) (.c .non)] [td,td,gV 1,gV 6,gV 2])],.ex (.me .extend (.v 3) #v[.v 5])],.ret (.v 3)]
abbrev bz:Ss:=
 #v[.set 2 (.lst .nil),.loop (.tp [3,4]) (.seq (.v 1)) #v[.ex (.me .extend (.v 2) #v[.comp (.tup #v[.v 2,.op .add (.v 3) (.tup #v[.v 1])]) (.nm 1) (.rng #v[.bi .len #v[.ix (.v 0) (.c (.int 1))]]) .nil [td,td,gV 3,gV 4]])],.ret (.v 2)]
def lq {U:Ja (T×W)}{v:Wd}{s:Jg}(hs:v.length=s+2):gP U v=true↔∀i < s,cw U v i s (s+1)=false:=by
 unfold gP;rw[hs,show s+2 - 2=s from rfl,show s+2 - 1=s+1 from rfl,JB]
 refine OW λi=>?_
 rw[Jt,LY]
def u6 {a n s:Jg}{u:Wd}(hu:GoodW a n u):GoodW a n (u.take s):=by
 have key:∀(k:Jg) (x:Pt),(u.take s)[k]?=gV x->u[k]?=gV x:=λk x e=>by
  rw[Pe]at e;split at e
  ·exact e
  ·cases e
 exact#[λk x e=>hu.mark k x (key k x e),λk x e=>hu.len k x (key k x e),λk x e=>hu.way k x (key k x e)]
section
variable{defs:Ja (JG×Df)}{fuel d:Jg}{S:aa}{Q:QW}
def jG (h3:Is defs ("three_at" : JG) 4 6 bF)(hg:Is defs ("first_bar" : JG) 2 4 aX){a n q:Jg}{v:Wd}{U:Ja (T×W)}(hv:GoodW a n v)(h2:2<=v.length)(hl:v.length<=1000)(e:S[q]?=gV (.dic U))(k:∀w,((w=.non/\gP U v=true)\/∃i:Jk,w=.int i/\gP U v=false)->Q (w,S)) :
  wO (aF (ar defs fuel (d+2)) "first_bar" 2 [.ref q,au v] S) Q:=by
 refine aw hg rfl rfl λQ' hR=>?_
 replace k:∀w,((w=.non/\gP U v=true)\/∃i:Jk,w=.int i/\gP U v=false)->Q' (.rt w,S):=λw h=>hR _ _ (k w h)
 clear hR;show wZ _ _ aX [gV (.ref q),gV (au v),td,td] S Q';have ul:(v.map ay).length=v.length:=Jb ..;obtain⟨s,hs⟩ : ∃s,v.length=s+2:=#[v.length - 2,∅]
 dsimp only[aX];refine st ?_;left;refine aD (ab gZ ?_);rw[ul,show((v.length:Jg):Jk) - 1=((s+1:Jg):Jk) by omega]
 nofun
 refine bC (s:Jk) (λi Z S'=>(∃a3,Z=[gV (.ref q),gV (au v),gV (.int ((s+1:Jg):Jk)),a3])/\S'=S/\∀i' < i,cw U v i' s (s+1)=false) rfl rfl ∅ ?_ ?_ ?_
 ·dsimp only[wE,wV,wG];refine ab gZ #[?_,#[_,rfl],rfl,λi' z=>∅]
  dsimp only;rw[show((s+1:Jg):Jk) - 1=(s:Jk) by omega]
 ·rintro i Z S1 hi ⟨⟨a3,rfl⟩,rfl,no⟩ Q2 hn hr;clear hK;dsimp only[Jr];nofun
  dsimp only[wS,wT,wE,wA,wV,wG];refine ab gZ ?_;dsimp only;rw[show((s+1:Jg):Jk) - 1=(s:Jk) by omega]
  refine tt (d:=d) h3 hv ∅ (Lk s) ∅ ?_
  refine ab (show aP .isin (au (di v i s (s+1))) (.ref q) S1=gV (.bl (cw U v i s (s+1)),S1) by simp only[aP,bP e,jq]; rfl) ?_
  dsimp only[wB];refine aj (Q0:=Q2) (λh Q5 _ hr5=>?_) (λh Q5 hn5 _=>aR (hn5 _ _ (hK _ _ (aR (hn _ _ #[#[_,rfl],rfl,λi' z=>?_])))))
  ·refine st ?_;dsimp only[wS,wE,wV,wG];refine hr5 _ _ (hr _ _ (k _ (.inr #[i,rfl,?_])));rw[Le];intro z;rw[(lq hs).mp z i ∅]at h
   cases h
  ·by_cases ei:i'=i
   ·rw[ei]; exact h
   ·exact no i' ∅
 ·rintro Z S1 ⟨⟨a3,rfl⟩,rfl,no⟩;refine hK _ _ (st ?_);dsimp only[wS,wE];exact k _ (.inl #[rfl,(lq hs).mpr no])
def jS (hg:Is defs ("longer_wishes" : JG) 2 5 bz){m0 b0:W}{N:Ja W}{n l:Jg}{hs:Ja Pt}(hN:N.length=n)(hn:n<=3)(e:S[l]?=gV (.lst (hs.map ay)))(hol:∀h∈hs,h.2.length<=100)(hos:hs.length<=10000)
  (k:∀(q:Jg) (S':aa),S'[q]?=gV (.lst ((cN n hs).map ay))->S.length<=q->Ka S S'->Q (.ref q,S')) :
  wO (aF (ar defs fuel (d+1)) "longer_wishes" 2 [.tup [m0,.tup N,b0],.ref l] S) Q:=by
 refine aw hg rfl rfl λQ' hR=>?_
 replace k:∀(q:Jg) (S':aa),S'[q]?=gV (.lst ((cN n hs).map ay))->S.length<=q->Ka S S'->Q' (.rt (.ref q),S'):=λa b c e f=>hR _ _ (k a b c e f)
 clear hR;show wZ _ _ bz [gV (.tup [m0,.tup N,b0]),gV (.ref l),td,td,td] S Q';generalize hR0:W.tup [m0,.tup N,b0]=R;have hlS:=bK e;dsimp only[bz];refine st ?_;dsimp only[wS,wE,wA,Jr];nofun
 refine jX l (hs.map ay) (λi Z S'=>(∃a3 a4,Z=[gV R,gV (.ref l),gV (.ref S.length),a3,a4])/\S'[l]?=gV (.lst (hs.map ay))/\S'[S.length]?=gV (.lst ((cN n (hs.take i)).map ay))/\Ka S S') rfl rfl #[rfl,#[td,td,rfl],aq e,ah,.push] (λi Z S' h=>h.2.1) ?_ ?_
 ·rintro i w Z S1 hw ⟨⟨a3,a4,rfl⟩,e0,e1,k1⟩;clear hK k;rw[Jl,Jf]at hw;obtain⟨h,ho,rfl⟩:=hw;have hol:=hol h (Jq ho);refine ab (show eQ (.tp [3,4]) (ay h) [gV R,gV (.ref l),gV (.ref S.length),a3,a4] S1=gV ([gV R,gV (.ref l),gV (.ref S.length),gV (.int h.1),gV (.tup (ac h.2))],S1)from rfl) ?_
  intro Q2 hn2 _;refine st ?_;left;refine#[cK e1,?_];refine om n (λ_=>true) (λ(w:Jg)=>ay (h.1,h.2++[(w:Jk)])) [gV (.int h.1),gV (.tup (ac h.2))] rfl rfl rfl rfl ∅ ?_ (λx hx S2 k2=>?_) λS2 k2=>?_
  ·dsimp only[wE,wA,wV,wG];subst hR0;refine ae #v[] rfl (aD ?_)
   rw[hN];exact#[rfl,.refl]
  ·dsimp only[ig,wC,wE,wA,wV,wG];refine#[λ_=>ab (bO (eh ?_)) #[rfl,?_,.refl],λz=>by cases z]
   ·rw[Je,show(ac h.2).length=h.2.length from Jb ..]; show _+1<=_; omega
   ·simp[ay,ac]
  ·rw[gk];have e1':=aq (u:=O.lst ((Jw n).map λ(w:Jg)=>ay (h.1,h.2++[(w:Jk)]))) (k2.get _ _ e1)
   have hle:(cN n (hs.take i)).length<=30000:=by
    rw[mN,JQ];exact JY (QK (show min i hs.length<=10000 by omega) hn) #v[]
   refine rf e1' ah (by rw[Jb,Jb,JS]; omega) (aR (hn2 _ _ #[#[_,_,rfl],?_,?_,((k1.trans k2).trans .push).late (Jo _)]))
   ·rw[aY ∅]; exact aq (k2.get _ _ e0)
   ·rw[bg e1'];unfold cN;rw[JV,ho];simp
 ·rintro Z S1 ⟨⟨a3,a4,rfl⟩,e0,e1,k1⟩;rw[Jb,J5]at e1;exact hK _ _ (st (k _ _ e1 (Jo _) k1))
def on {n s:Jg}(hn:n<=3)(hs:s<=5):n ^ s<=243:=JY (OQ hn s) (OD (n:=3) #v[] hs)
def rj {U:Ja (T×W)}{u:Wd}{n i:Jg}(hn:n<=3)(hu:u.length<=5):((Jw i).flatMap λ(m:Jg)=>cb U u n (m:Jk) u.length).length<=i*243:=by
 induction i with
 | zero=>simp
 | succ i ih=>
  rw[KQ,LB,Je,KH,P8,Ky];have:=JY (eW (U:=U) (u:=u) (n:=n) (m:=(i:Jg)) u.length) (on hn hu);omega
def lX (h3:Is defs ("three_at" : JG) 4 6 bF)(hfb:Is defs ("first_bar" : JG) 2 4 aX)(hlw:Is defs ("longer_wishes" : JG) 2 5 bz)(hg:Is defs ("wishes_over" : JG) 3 7 cC){tx N:Ja W}{b0:W}{a n q:Jg}{u:Wd}{U:Ja (T×W)}(hM:tx.length=a)(hN:N.length=n)(ha3:a<=3)(hn3:n<=3)(hu:GoodW a n u)(hul:u.length<=5)(e:S[q]?=gV (.dic U))
  (k:∀(l:Jg) (S':aa),S'[l]?=gV (.lst ((g7 U u a n).map ay))->S.length<=l->Ka S S'->Q (.ref l,S')) :
  wO (aF (ar defs fuel (d+3)) "wishes_over" 3 [.tup [.tup tx,.tup N,b0],.ref q,au u] S) Q:=by
 refine aw hg rfl rfl λQ' hR=>?_
 replace k:∀(l:Jg) (S':aa),S'[l]?=gV (.lst ((g7 U u a n).map ay))->S.length<=l->Ka S S'->Q' (.rt (.ref l),S'):=λa b c e f=>hR _ _ (k a b c e f)
 clear hR;show wZ _ _ cC [gV (.tup [.tup tx,.tup N,b0]),gV (.ref q),gV (au u),td,td,td,td] S Q';generalize hR0:W.tup [.tup tx,.tup N,b0]=R;have hqS:=bK e;have ul:(u.map ay).length=u.length:=Jb ..;dsimp only[cC];refine st ?_;dsimp only[wS,wE,wA,Jr];nofun
 refine bC (a:Jk) (λi Z S'=>(∃a4 a5 a6,Z=[gV R,gV (.ref q),gV (au u),gV (.ref S.length),a4,a5,a6])/\S'[S.length]?=gV (.lst (((Jw i).flatMap λ(m:Jg)=>cb U u n (m:Jk) u.length).map ay))/\Ka S S') rfl rfl ∅ ?_ ?_ ?_
 ·dsimp only[wE,wA,wV,wG];subst hR0;refine ae #v[] rfl (aD ?_)
  rw[hM];exact#[rfl,#[_,_,_,rfl],ah,.push]
 ·rintro i Z S1 hi ⟨⟨a4,a5,a6,rfl⟩,e1,k1⟩ Q2 hn2 _;clear hK k;have hl1:=bK e1;dsimp only[Jr];refine st ?_;left;nofun
  refine dw 1 ((u.length:Jk)+1) (λm Z S'=>∃(t:Jg) (a6:Ji W),Z=[gV R,gV (.ref q),gV (au u),gV (.ref S.length),gV (.int i),gV (.ref t),a6]/\S'[t]?=gV (.lst ((cb U u n i m).map ay))/\Ka S1 S') rfl rfl rfl ∅ ?_ ?_ ?_
  ·dsimp only[wE,wA,wV,wG];refine#[rfl,aD (ab cO ?_)];rw[ul];exact#[rfl,S1.length,a6,rfl,ah,.push]
  ·rintro m Z S2 hm ⟨t,a6,rfl,e2,k2⟩ Q3 hn3 _;clear hK hn2;have hmu:m < u.length:=∅
   rw[show(1:Jk)+m=((m+1:Jg):Jk) by omega]
   have hhl:(cb U u n i m).length<=243:=JY (eW m) (on ‹n<=3› ∅)
   have hll:(cN n (cb U u n i m)).length<=729:=by rw[mN]; exact QK hhl ‹n<=3›
   dsimp only[Jr];refine st ?_;dsimp only[wS,wE,Jr];refine rh (cN n (cb U u n i m)) ay (λh=>gP U (u.take (m+1)++[h])) ay [gV (.ref q),gV (.int ((m+1:Jg):Jk)),gV (au u)] rfl rfl rfl rfl ∅ ?_ (λh hh S4 k4=>?_) λS4 k4=>?_
   ·dsimp only[wE,wA,wV,wG];subst hR0;exact jS (d:=d+1) hlw hN ‹n<=3› e2 (λh hh=>by have:=((dS ∅).mp hh).2.1; omega) ∅ λl S3 e3 _ k3=>#[l,rfl,e3,k3]
   ·have hgd:GoodW a n (u.take (m+1)++[h]):=by
     unfold cN at hh;obtain⟨h0,hm0,hw⟩:=Kb.mp hh;obtain⟨w,hwr,rfl⟩:=Jy.mp hw;obtain⟨g1,g2,g3,_⟩:=(dS ∅).mp hm0
     have hwr:=Jt.mp hwr;refine(u6 hu).snoc (by rw[g1]; omega) (by rw[Je,g2,JQ,JT]; omega) λx hx=>?_
     rcases JN.mp hx with z|z
     ·exact g3 x z
     ·rw[Jv.mp z]; omega
    have hvl:(u.take (m+1)++[h]).length=m+2:=by rw[Je,JQ,JT]; omega
    dsimp only[ig,wC,wT,wE,wA,wP,wV,wG,wN];refine ab (show lP (au u) td (gV ((m+1:Jg):Jk)) S4=gV (.tup ((u.map ay).take (m+1)),S4) by simp only[au,lP,d8]) ?_
    dsimp only;have ev:(u.map ay).take (m+1)++[ay h]=(u.take (m+1)++[h]).map ay:=by rw[JI,Mh]; rfl
    refine ab (bO (eh (by rw[ev,Jb]; omega))) ?_
    dsimp only;rw[ev];refine jG (d:=d) (v:=u.take (m+1)++[h]) h3 hfb hgd ∅ ∅ (k4.get _ _ (k2.get _ _ (k1.get _ _ e))) λw hw=>?_
    refine ab (show aP .is w .non S4=gV (.bl (gP U (u.take (m+1)++[h])),S4) by rcases hw with⟨rfl,hb⟩|⟨i,rfl,hb⟩ <;> rw[hb] <;> rfl) ?_
    dsimp only[wB];exact#[λz=>#[z,rfl,.refl],λz=>#[z,.refl]]
   ·exact aR (hn3 _ _ #[_,_,rfl,ah,(k2.trans k4).trans .push])
  ·rintro Z S2 ⟨t,a6,rfl,e2,k2⟩;rw[show((u.length:Jk)+1 - 1).toNat=u.length by omega]at e2
   refine hK _ _ ?_;clear hK K;have e1':=k2.get _ _ e1;have hhl:(cb U u n i u.length).length<=243:=JY (eW _) (on hn3 hul);have hfl:=rj (U:=U) (i:=i) hn3 hul;refine st ?_;left;refine#[cK e1',rf e1' e2 (by rw[Jb,Jb]; omega) (aR (hn2 _ _ #[#[_,_,_,rfl],?_,(k1.trans k2).late (Jo _)]))]
   rw[bg e1',KQ,LB,JI];simp
 ·rintro Z S1 ⟨⟨a4,a5,a6,rfl⟩,e1,k1⟩;rw[JC]at e1;exact hK _ _ (st (k _ _ e1 (Jo _) k1))
end
abbrev aH:Ss:=
 #v[.asg [4,5] (.ix (.v 2) (.v 3)),.loop (.nm 6) (.rng2 #v[.c (.int 1),.v 3]) #v[.loop (.nm 7) (.rng #v[.v 6]) #v[.ite (.cmp .isin (.tup #v[.tup #v[.ix (.ix (.v 2) (.v 7)) (.c (.int 0)),.tup .nil],.tup #v[.ix (.ix (.v 2) (.v 6)) (.c (.int 0)),.tup #v[.ix (.ix (.ix (.v 2) (.v 6)) (.c (.int 1))) (.v 7)]],.tup #v[.v 4,.tup #v[.ix (.v 5) (.v 7),.ix (.v 5) (.v 6)]]]) (.v 1)) #v[.ret (.c (.bl false))] .nil]],.ret (.c (.bl true))]
abbrev bu (U:Ja (T×W))(u:Wd)(s:Jg)(h:Pt):JL:=(Jw s).all λq=>(Jw q).all λp=>!bG U u h p q
def ba {U:Ja (T×W)}{u:Wd}{s:Jg}{h:Pt}:bu U u s h=true↔∀q < s,∀p < q,bG U u h p q=false:=by
 unfold bu;simp only[JB,Jt,LY]
def lu {α β:Type}{d:α}(n:Jg)(f:α->Jg->β)(h:0 < n):∀xs:Ja α,(Jw (xs.length*n)).map (λi=>f (xs.getD (i / n) d) (i % n))=xs.flatMap λx=>(Jw n).map (f x)
 | []=>by simp
 | x::xs=>by
  rw[KH,<- lu n f h xs,J2,Na,Rh,List.range_add,JI,KU];congr 1
  ·refine Kk λi hi=>?_
   have hi:=Jt.mp hi;rw[Nat.div_eq_of_lt hi,Nat.mod_eq_of_lt hi]; rfl
  ·refine Kk λi hi=>?_
   dsimp only[Q9];rw[Nat.add_div_left _ h,Nat.add_mod_left]; rfl
def yG {n k:Jg}(h:0 < n):kZ n (k+1)=(kZ n k).flatMap λds=>(Jw n).map λ(w:Jg)=>ds++[(w:Jk)]:=by
 rw[kZ];exact lu (d:=[]) n (λds (w:Jg)=>ds++[(w:Jk)]) h (kZ n k)
def jv {U:Ja (T×W)}{u:Wd}{n:Jg}{m:Jk}(h:0 < n):∀s:Jg,s<=u.length->cb U u n m s=((kZ n s).map λds=>(m,ds)).filter (bu U u s)
 | 0,_=>rfl
 | s+1,hs=>by
  rw[cb,jv h s ∅,yG h]
  unfold cN;have len:∀ds∈kZ n s,ds.length=s:=λds hd=>(D7 hd).1
  generalize kZ n s=D at len
  induction D with
  | nil=>rfl
  | cons ds D ih=>
   have ih:=ih λx hx=>len x (Ko _ hx)
   have hl:=len ds (KM ..);have st:∀w:Jg,bu U u (s+1) (m,ds++[(w:Jk)])=(bu U u s (m,ds)&&gP U (u.take (s+1)++[(m,ds++[(w:Jk)])])):=λw=>by
    rw[mM ∅,KR,Jj,ba,ba,JB]
    constructor
    ·intro z;refine#[λq hq p hp=>?_,λp hp=>?_]
     ·rw[<- fD (x:=(w:Jk)) hp ∅]; exact z q ∅ p hp
     ·rw[z s (Lk s) p (Jt.mp hp)]; rfl
    ·rintro⟨z1,z2⟩ q hq p hp
     by_cases e:q=s
     ·subst e
      simpa using z2 p (Jt.mpr hp)
     ·rw[fD hp ∅]; exact z1 q ∅ p hp
   rw[KH,JI,Ln,<- ih,KD,KU]
   by_cases hm:bu U u s (m,ds)=true
   ·rw[NW hm,KH,Ln];congr 1;rw[show((λds=>(m,ds))∘λ(w:Jg)=>ds++[(w:Jk)])=λ(w:Jg)=>(m,ds++[(w:Jk)])from rfl]
    refine NC λx hx=>?_
    obtain⟨w,_,rfl⟩:=Jy.mp hx;dsimp only;rw[st w,hm]; rfl
   ·rw[NX hm];have:((Jw n).map ((λds=>(m,ds))∘λ(w:Jg)=>ds++[(w:Jk)])).filter (bu U u (s+1))=[]:=by
     rw[N9];intro x hx;obtain⟨w,_,rfl⟩:=Jy.mp hx;dsimp only[Q9];rw[st w,Le.mpr hm];exact JF
    rw[this,Od]
def rm {U U':Ja (T×W)}{u:Wd}{a n:Jg}(hn:0 < n)(h:∀t,(aJ U t).isSome=(aJ U' t).isSome):g7 U u a n=g7 U' u a n:=by
 unfold g7;refine lc λm _=>?_
 rw[jv hn _ (Jo _),jv hn _ (Jo _)];refine NC λx _=>?_
 have:∀p q,bG U u x p q=bG U' u x p q:=λp q=>h _
 unfold bu;simp only[this]
section
variable{defs:Ja (JG×Df)}{fuel d:Jg}{S:aa}{Q:QW}
def lv (hg:Is defs ("_law_last_may" : JG) 4 8 aH){R:W}{a n q:Jg}{u:Wd}{h:Pt}{U:Ja (T×W)}(hu:GoodW a n u)(hh:h.2.length=u.length)(hl:u.length<=1000)(e:S[q]?=gV (.dic U))(k:Q (.bl (bu U u u.length h),S)) :
  wO (aF (ar defs fuel (d+1)) "_law_last_may" 4 [R,.ref q,au (u++[h]),.int (u.length:Jk)] S) Q:=by
 refine aw hg rfl rfl λQ' hR=>?_
 replace k:=hR _ _ k;clear hR;show wZ _ _ aH [gV R,gV (.ref q),gV (au (u++[h])),gV (.int (u.length:Jk)),td,td,td,td] S Q';have hvl:u.length < (u++[h]).length:=by rw[Je,JT]; omega
 have at':∀p < u.length,(((u++[h]).map ay)[((p:Jg):Jk).toNat]?=gV (ay (u.getD p (0,[])))):=λp hp=>by
  rw[c8 ∅,aC hp]
 have hw:∀p < u.length,(ac h.2)[((p:Jg):Jk).toNat]?=gV (.int (h.2.getD p 0)):=λp hp=>by
  rw[JC]; unfold ac; rw[Jl,ak (d:=0) ∅]; rfl
 dsimp only[aH];refine st ?_;dsimp only[wS,wE,wV,wG];refine ae (Jp _) (c8 hvl) ?_;rw[bR];dsimp only[wU,ay];refine ab (show c7 [4,5] [.int h.1,.tup (h.2.map W.int)] [gV R,gV (.ref q),gV (au (u++[h])),gV (.int (u.length:Jk)),td,td,td,td]=gV [gV R,gV (.ref q),gV (au (u++[h])),gV (.int (u.length:Jk)),gV (.int h.1),gV (.tup (ac h.2)),td,td]from rfl) ?_
 nofun
 refine dw 1 (u.length:Jk) (λm Z S'=>(∃a6 a7,Z=[gV R,gV (.ref q),gV (au (u++[h])),gV (.int (u.length:Jk)),gV (.int h.1),gV (.tup (ac h.2)),a6,a7])/\S'=S/\∀j < m+1,∀p < j,bG U u h p j=false) rfl rfl rfl ∅ #[rfl,rfl,#[_,_,rfl],rfl,λj hj p hp=>∅] ?_ ?_
 ·rintro m Z S1 hm ⟨⟨a6,a7,rfl⟩,rfl,no⟩ Q2 hn2 hr2;clear hK;rw[show(1:Jk)+m=((m+1:Jg):Jk) by omega]
  have hmu:m+1 < u.length:=∅
  generalize hj:m+1=j at hmu hn2 no;dsimp only[Jr];nofun
  refine bC (j:Jk) (λi Z S'=>(∃a7,Z=[gV R,gV (.ref q),gV (au (u++[h])),gV (.int (u.length:Jk)),gV (.int h.1),gV (.tup (ac h.2)),gV (.int (j:Jk)),a7])/\S'=S1/\∀p < i,bG U u h p j=false) rfl rfl ∅ #[rfl,#[_,rfl],rfl,λp hp=>∅] ?_ ?_
  ·rintro i Z S2 hi ⟨⟨a7,rfl⟩,rfl,no2⟩ Q3 hn3 hr3;clear hK;have hij:i < j:=∅
   have hiu:i < u.length:=∅
   have lj:i < (u.getD j (0,[])).2.length:=by rw[hu.len j _ (ak (d:=(0,[])) hmu)]; exact hij
   dsimp only[Jr];nofun
   dsimp only[wS,wT,wE,wA,wV,wG];refine ae (Jp i) (at' i hiu) (ae #v[] rfl (ae (Jp j) (at' j hmu) (ae #v[] rfl (ae (Jp j) (at' j hmu) (ae #v[] rfl (ae (w:=.int ((u.getD j (0,[])).2.getD i 0)) (Jp i) (by rw[JC,Jl,ak (d:=0) lj]; rfl) (ae (Jp i) (hw i hiu) (ae (Jp j) (hw j hmu) ?_))))))))
   refine ab (show aP .isin (au [((u.getD i (0,[])).1,[]),((u.getD j (0,[])).1,[(u.getD j (0,[])).2.getD i 0]),(h.1,[h.2.getD i 0,h.2.getD j 0])]) (.ref q) S2=gV (.bl (bG U u h i j),S2) by simp only[aP,bP e,jq]; rfl) ?_
   dsimp only[wB];refine aj (Q0:=Q3) (λhb Q5 _ hr5=>?_) (λhb Q5 hn5 _=>aR (hn5 _ _ (hK _ _ (aR (hn3 _ _ #[#[_,rfl],rfl,λp hp=>?_])))))
   ·refine st ?_;dsimp only[wS,wE];have:bu U u u.length h=false:=by
     rw[Le];intro z;rw[ba.mp z j hmu i hij]at hb;cases hb
    rw[this]at k;exact hr5 _ _ (hr3 _ _ (hr2 _ _ k))
   ·by_cases ep:p=i
    ·rw[ep]; exact hb
    ·exact no2 p ∅
  ·rintro Z S2 ⟨⟨a7,rfl⟩,rfl,no2⟩;rw[JC]at no2;refine hK _ _ (aR (hn2 _ _ #[#[_,_,rfl],rfl,λj' hj' p hp=>?_]))
   by_cases ej:j'=j
   ·subst ej; exact no2 p hp
   ·exact no j' ∅ p hp
 ·rintro Z S1 ⟨⟨a6,a7,rfl⟩,rfl,no⟩;refine hK _ _ (st ?_);dsimp only[wS,wE];rw[ba.mpr λq hq p hp=>no q ∅ p hp]at k
  exact k
end
def Ea {bs:Ja Jk}{a:Jg}{v:Wd}{i j:Jg}(hb:GoodB bs)(hv:GoodW a bs.length v)(hi:i < v.length)(hj:j < v.length)(hij:i≠j):0<=bH bs v i j/\bH bs v i j < (bs.length:Jk):=by
 unfold bH
 by_cases h:j < i
 ·rw[JK h];have hp:=ak (d:=(0,[])) hi;have hw:j < (v.getD i (0,[])).2.length:=by rw[hv.len i _ hp]; exact h
  exact hv.way i _ hp _ (Jq (ak (d:=0) hw))
 ·rw[JU h];have hp:=ak (d:=(0,[])) hj;have hw:i < (v.getD j (0,[])).2.length:=by rw[hv.len j _ hp]; omega
  obtain⟨g1,g2⟩:=hv.way j _ hp _ (Jq (ak (d:=0) hw));exact(hb.at g1 g2).2
def mO {bs:Ja Jk}{a:Jg}{v:Wd}{ps:Ja Jg}(hb:GoodB bs)(hv:GoodW a bs.length v)(hps:∀p∈ps,p < v.length)(hnd:ps.Nodup):GoodW a bs.length (al bs v ps):=by
 have at':∀(k:Jg) (q:Pt),(al bs v ps)[k]?=gV q->∃hk:k < ps.length,q=((v.getD ps[k] (0,[])).1,(ps.take k).map λj=>bH bs v ps[k] j):=λk q e=>by
  have hk:k < ps.length:=by
   have:=(Jz.mp e).1;rw[aO]at this; exact this
  refine#[hk,?_];unfold al at e;rw[Jl,LA hk,J4,show ps.getD k 0=ps[k] by simp[hk]]at e
  exact(Ku e).symm
 refine#[λk q e=>?_,λk q e=>?_,λk q e=>?_]
 ·obtain⟨hk,rfl⟩:=at' k q e;have:=hv.mark _ _ (ak (d:=(0,[])) (hps _ (Kg hk)));exact this
 ·obtain⟨hk,rfl⟩:=at' k q e;dsimp only;rw[Jb,JQ]; omega
 ·obtain⟨hk,rfl⟩:=at' k q e;intro w hw;obtain⟨j,hj,rfl⟩:=Jy.mp hw;have hjm:=Mt hj;refine Ea hb hv (hps _ (Kg hk)) (hps _ hjm) λe=>?_
  obtain⟨m,hm,e2⟩:=Mu.mp hj;rw[JQ]at hm;rw[MV]at e2;have:=(Lj hnd).mp (e.trans e2.symm);omega
section
variable{defs:Ja (JG×Df)}{fuel d:Jg}{S:aa}{Q:QW}
def Eb (hd:Is defs ("_law_flow" : JG) 1 1 d7){ns:Ja Jk}{u:Jg}(hu:S[u]?=gV (.fro (ns.map W.int)))(k:∀r S',Ka S S'->Fl S' r->Q (.ref r,S')) :
  wO (aF (ar defs fuel (d+1)) "_law_flow" 1 [.ref u] S) Q:=by
 refine aw hd rfl rfl λQ' hR=>?_
 show wZ _ _ d7 [gV (.ref u)] S Q';dsimp only[d7];refine st ?_;left;have e:Bi.list.fn [.ref u] S=gV (.ref S.length,S++[.lst (ns.map W.int)]):=by
  have h1:wj S u=td:=by simp[wj,hu]
  simp only[Bi.fn,EB,ko,h1,gW,eN,Ba hu]
 refine ab e (hR _ _ (k _ _ (Ka.push.trans .push) #[S.length,ns,0,0,1,0,?_,?_,?_,#v[],#v[],#v[],#v[]]))
 ·exact ah
 ·exact aq ah
 ·simp
end
def jH {bt:Jg->Jg->JL}{N:Jg}(ir:∀i < N,bt i i=false)(tr:∀i j k,i < N->j < N->k < N->bt i j=true->bt j k=true->bt i k=true):∀n,n < N->∀j≤n,bt j (argBest bt n)=false
 | 0,hn,j,hj=>by
  obtain rfl:j=0:=∅
  exact ir 0 hn
 | n+1,hn,j,hj=>by
  have ih:=jH ir tr n ∅
  have hb:=dh bt n;simp only[argBest];cases c:bt (n+1) (argBest bt n)with
  | true=>
   rw[JK rfl]
   by_cases e:j=n+1
   ·subst e; exact ir _ hn
   ·cases c2:bt j (n+1)with
    | false=>rfl
    | true=>
     have:=tr j (n+1) (argBest bt n) ∅ hn ∅ c2 c
     rw[ih j ∅]at this; cases this
  | false=>
   rw[JU (by exact JF)]
   by_cases e:j=n+1
   ·subst e; exact c
   ·exact ih j ∅
def pZ {ks:Ja T}(hn:∀x∈ks,kw x=true)(hl:fR ks=true)(hne:ks≠[]):∃x,ks[hJ ks]?=gV x/\x∈ks/\∀y∈ks,gL y x=gV false:=by
 have hp:0 < ks.length:=L7.mpr hne;have hm:hJ ks < ks.length:=by
  unfold hJ;have:=dh (uy ks) (ks.length - 1);omega
 have ltk:∀i j (hi:i < ks.length) (hj:j < ks.length),gL ks[i] ks[j]=gV (uy ks i j):=λi j hi hj=>qI hl hi hj
 have ir:∀i < ks.length,uy ks i i=false:=λi hi=>by
  cases c:uy ks i i with
  | false=>rfl
  | true=>
   have e:=ltk i i hi hi;rw[c]at e;have:=qK _ _ (hn _ (Kg hi)) e;rw[e]at this; cases this
 have mn:=jH (bt:=uy ks) (N:=ks.length) ir (λi j k hi hj hk h1 h2=>by
  have e1:=ltk i j hi hj;have e2:=ltk j k hj hk;rw[h1]at e1;rw[h2]at e2;have:=wz _ _ _ (hn _ (Kg hi)) (hn _ (Kg hj)) e1 e2;rw[ltk i k hi hk]at this;exact Ku this) (ks.length - 1) ∅
 refine#[ks[hJ ks],Ju hm,Kg hm,λy hy=>?_]
 obtain⟨j,hj,rfl⟩:=Mu.mp hy;rw[ltk j _ hj hm];congr 1;exact mn j ∅
def tu {x y:T}(hx:kw x=true)(h1:gL x y=gV false)(h2:gL y x=gV false):x=y:=by
 by_cases e:x=y
 ·exact e
 ·rw[qL x y hx e h2]at h1; cases h1
def p7:∀ {xs ys as bs:Ja T},xs.length=ys.length->db xs ys=gV true->db (xs++as) (ys++bs)=gV true
 | [],[],_,_,_,h=>by cases h
 | x::xs,y::ys,as,bs,hl,h=>by
  simp only[P9,db]at h ⊢
  by_cases e:x=y
  ·rw[JK e]at h ⊢;exact p7 (by simpa using hl) h
  ·rw[JU e]at h ⊢;exact h
 | [],_::_,_,_,hl,_=>by simp at hl
 | _::_,[],_,_,hl,_=>by simp at hl
def p8 {as bs:Ja T}:∀xs:Ja T,db (xs++as) (xs++bs)=db as bs
 | []=>rfl
 | x::xs=>by
  simp only[P9,db,LV];exact p8 xs
def Ec {x y:T}(hx:kw x=true)(h:db [x] [y]=gV true):gL x y=gV true:=by
 simp only[db]at h;split at h
 ·cases h
 ·exact h
structure Ord (n:Jg)(o:Ja Jg):Prop where
 nd:o.Nodup
 lt:∀p∈o,p < n
abbrev yH:Jg->Ja (Ja Jg)
 | 0=>[[]]
 | k+1=>(yH k).flatMap λo=>(Jw (k+1)).map λi=>o.take i++[k]++o.drop i
def oo:∀ {n:Jg} {o:Ja Jg},o∈yH n↔Ord n o/\o.length=n
 | 0,o=>by
  rw[yH,Jv];exact#[λh=>by subst h; exact#[#[.nil,λp hp=>nomatch hp],rfl],λh=>KY h.2]
 | n+1,o=>by
  rw[yH,Kb];constructor
  ·rintro⟨o',h1,h2⟩;obtain⟨i,hi,rfl⟩:=Jy.mp h2;obtain⟨⟨nd,lt⟩,hl⟩:=oo.mp h1;have hi:=Jt.mp hi;have hp:(o'.take i++[n]++o'.drop i).Perm (n::o'):=by
    have e:o'.take i++[n]++o'.drop i=o'.take i++n::o'.drop i:=by simp
    rw[e];refine NY.trans ?_;rw[Mk]
   refine#[#[hp.nodup_iff.mpr (K6.mpr #[λz=>absurd (lt _ z) (KC _),nd]),λp hpm=>?_],by rw[hp.length_eq,J2,hl]]
   rcases JR.mp (hp.mem_iff.mp hpm)with z|z
   ·omega
   ·have:=lt p z; omega
  ·rintro⟨⟨nd,lt⟩,hl⟩;have hm:n∈o:=by
    by_cases z:n∈o
    ·exact z
    ·have h1:=jo o (Jw n) nd λp hp=>Jt.mpr (by
      have:=lt p hp;have:p≠n:=λe=>z (e ▸ hp)
      omega)
     rw[JS]at h1;omega
   obtain⟨a,b,rfl⟩:=List.append_of_mem hm;have hp:(a++n::b).Perm (n::(a++b)):=NY;have nd2:=hp.nodup_iff.mp nd;obtain⟨nn,nd3⟩:=K6.mp nd2;refine#[a++b,oo.mpr #[#[nd3,λp hpm=>?_],?_],Jy.mpr #[a.length,Jt.mpr ?_,?_]]
   ·have h1:=lt p (hp.mem_iff.mpr (Ko _ hpm));have:p≠n:=λe=>nn (e ▸ hpm)
    omega
   ·have:=hp.length_eq;rw[hl,J2]at this;omega
   ·rw[Je,J2]at hl;omega
   ·rw[Qm,List.drop_left'] <;> simp
abbrev g8 (bs:Ja Jk)(u:Wd)(o:Ja Jg):Pt:=g6 bs u o.dropLast (o.getLastD 0)
abbrev g9 (ps:Ja Pt):Pt:=ps.getD (hJ (ps.map g5)) (0,[])
abbrev u7 (bs:Ja Jk)(u:Wd):Jg->Ja (Ja Jg)
 | 0=>[[]]
 | k+1=>(cr u.length (u7 bs u k)).filter λo=>decide (g8 bs u o=g9 ((cr u.length (u7 bs u k)).map (g8 bs u)))
abbrev yI (bs:Ja Jk)(u:Wd):Jg->Wd
 | 0=>[]
 | k+1=>yI bs u k++[g9 ((cr u.length (u7 bs u k)).map (g8 bs u))]
def yJ (p:Pt):kw (g5 p)=true:=by
 have:=jZ [p]
 simpa [eu]using this
def u8 (ps:Ja Pt):fR (ps.map g5)=true:=by
 unfold fR;rw[JB];intro x hx;rw[JB];intro y hy;obtain⟨p,_,rfl⟩:=Jy.mp hx;obtain⟨q,_,rfl⟩:=Jy.mp hy;exact qV _ _ (xV p q)
def u9 {ps:Ja Pt}(h:ps≠[]):ps[hJ (ps.map g5)]?=gV (g9 ps)/\g9 ps∈ps/\∀y∈ps,gL (g5 y) (g5 (g9 ps))=gV false:=by
 obtain⟨x,h1,h2,h3⟩:=pZ (ks:=ps.map g5) (λx hx=>by obtain⟨p,_,rfl⟩:=Jy.mp hx; exact yJ p) (u8 ps) (by simpa using h)
 rw[Jl,Jf]at h1;obtain⟨p,hp,rfl⟩:=h1;have e:g9 ps=p:=by unfold g9; rw[JD,hp]; rfl
 rw[e];exact#[hp,Jq hp,λy hy=>h3 _ (Jy.mpr #[y,hy,rfl])]
def iT {n:Jg}{os:Ja (Ja Jg)}{o':Ja Jg}:o'∈cr n os↔∃o∈os,∃p,p < n/\p∉o/\o'=o++[p]:=by
 unfold cr;rw[Kb];constructor
 ·rintro⟨o,ho,h⟩;obtain⟨p,hp,rfl⟩:=Jy.mp h;obtain⟨h1,h2⟩:=KG.mp hp;exact#[o,ho,p,Jt.mp h1,J8 h2,rfl]
 ·rintro⟨o,ho,p,h1,h2,rfl⟩;exact#[o,ho,Jy.mpr #[p,KG.mpr #[Jt.mpr h1,Kf h2],rfl]]
def jw {bs:Ja Jk}{u:Wd}{o:Ja Jg}{p:Jg}:g8 bs u (o++[p])=g6 bs u o p:=by
 unfold g8;rw[OE,List.getLastD_concat]
def iU {n:Jg}{o:Ja Jg}{p:Jg}:Ord n (o++[p])↔Ord n o/\p < n/\p∉o:=by
 constructor
 ·rintro⟨nd,lt⟩;rw[Mm]at nd;exact#[#[nd.1,λq hq=>lt q (Kz _ hq)],lt p (by simp),λz=>nd.2.2 p z p (by simp) rfl]
 ·rintro⟨⟨nd,lt⟩,h1,h2⟩;refine#[Mm.mpr #[nd,by simp,λa ha b hb e=>?_],λq hq=>?_]
  ·rw[Jv.mp hb]at e;exact h2 (e ▸ ha)
  ·rcases JN.mp hq with z|z
   ·exact lt q z
   ·rw[Jv.mp z]; exact h1
def yK {n:Jg}{o:Ja Jg}(h:Ord n o)(hl:o.length < n):∃p,p < n/\p∉o:=by
 by_cases z:∃p,p < n/\p∉o
 ·exact z
 ·have h1:=jo (Jw n) o P7 λp hp=>by
   by_cases z2:p∈o
   ·exact z2
   ·exact absurd #[p,Jt.mp hp,z2] z
  rw[JS]at h1;omega
def Gu (u v:Wd):(gL (cy u) (cy v)).isSome=true:=by
 have:=gE [u,v];unfold fR at this;rw[JB]at this;have:=this (cy u) (by simp)
 rw[JB]at this;exact this (cy v) (by simp)
def Ed {u v:Wd}(h:gL (cy u) (cy v)≠gV true):gL (cy u) (cy v)=gV false:=by
 obtain⟨b,hb⟩:=Kn.mp (Gu u v);cases b with
 | false=>exact hb
 | true=>exact absurd hb h
structure GrOk (bs:Ja Jk)(u:Wd)(k:Jg):Prop where
 mem:∀o,o∈u7 bs u k↔Ord u.length o/\o.length=k/\al bs u o=yI bs u k
 least:∀o,Ord u.length o->o.length=k->gL (cy (al bs u o)) (cy (yI bs u k))=gV false
 ne:u7 bs u k≠[]
 len:(yI bs u k).length=k
def tz {k:Jg}{o:Ja Jg}(h:o.length=k+1):∃o' p,o=o'++[p]/\o'.length=k:=by
 have hne:o≠[]:=λz=>by rw[z]at h; cases h
 exact#[o.dropLast,o.getLast hne,(M5 hne).symm,by rw[Lv]; omega]
def p9 {bs:Ja Jk}{u:Wd}:∀k,k<=u.length->GrOk bs u k
 | 0,_=>by
  refine#[λo=>?_,λo _ hl=>?_,P6 _ _,rfl]
  ·rw[u7,Jv];exact#[λh=>by subst h; exact#[#[.nil,λp hp=>nomatch hp],rfl,rfl],λh=>KY h.2.1]
  ·rw[KY hl]; rfl
 | k+1,hk=>by
  have ih:=p9 (bs:=bs) (u:=u) k ∅
  have lne:cr u.length (u7 bs u k)≠[]:=by
   obtain⟨o,ho⟩:=Nv _ ih.ne;obtain⟨h1,h2,_⟩:=(ih.mem o).mp ho;obtain⟨p,hp,hpo⟩:=yK h1 ∅
   exact Pf (iT.mpr #[o,ho,p,hp,hpo,rfl])
  obtain⟨_,b2,b3⟩:=u9 (ps:=(cr u.length (u7 bs u k)).map (g8 bs u)) (by simpa using lne)
  have ef:yI bs u (k+1)=yI bs u k++[g9 ((cr u.length (u7 bs u k)).map (g8 bs u))]:=rfl;have eo:u7 bs u (k+1)=(cr u.length (u7 bs u k)).filter λo=>decide (g8 bs u o=g9 ((cr u.length (u7 bs u k)).map (g8 bs u))):=rfl
  generalize g9 ((cr u.length (u7 bs u k)).map (g8 bs u))=best at b2 b3 ef eo;refine#[λo=>?_,λo hO hl=>?_,?_,by rw[ef,Je,ih.len]; rfl]
  ·rw[eo,KG,ef];constructor
   ·rintro⟨h1,h2⟩;obtain⟨o,ho,p,hp,hpo,rfl⟩:=iT.mp h1;obtain⟨g1,g2,g3⟩:=(ih.mem o).mp ho;have h2:=J8 h2;rw[jw]at h2;exact#[iU.mpr #[g1,hp,hpo],by rw[Je,g2]; rfl,by rw[dR,g3,h2]]
   ·rintro⟨h1,h2,h3⟩;obtain⟨o,p,rfl,hl⟩:=tz h2;obtain⟨g1,g2,g3⟩:=iU.mp h1;rw[dR]at h3;obtain⟨e1,e2⟩:=List.append_inj h3 (by rw[aO,ih.len,hl])
    refine#[iT.mpr #[o,(ih.mem o).mpr #[g1,hl,e1],p,g2,g3,rfl],Kf ?_];rw[jw];exact List.singleton_inj.mp e2
  ·obtain⟨o,p,rfl,hl'⟩:=tz hl;clear hl;have hl:=hl';obtain⟨g1,g2,g3⟩:=iU.mp hO;refine Ed λz=>?_
   rw[dR,ef]at z;have z:db ((al bs u o++[g6 bs u o p]).map g5) ((yI bs u k++[best]).map g5)=gV true:=z;rw[JI,JI]at z
   by_cases e:al bs u o=yI bs u k
   ·rw[e,p8]at z;have:=Ec (yJ _) z;rw[b3 _ (Jy.mpr #[o++[p],iT.mpr #[o,(ih.mem o).mpr #[g1,hl,e],p,g2,g3,rfl],jw])]at this;cases this
   ·have h1:=qL (cy (yI bs u k)) (cy (al bs u o)) (ol _) (λh=>e (dO h).symm) (ih.least o g1 hl)
    have h1:db ((yI bs u k).map g5) ((al bs u o).map g5)=gV true:=h1;have h2:=p7 (as:=[best].map g5) (bs:=[g6 bs u o p].map g5) (by rw[Jb,Jb,aO,ih.len,hl]) h1
    have h3:=nK _ _ (by rw[<- JI]; exact jZ _) h2
    rw[z]at h3; cases h3
  ·obtain⟨o,ho,e⟩:=Jy.mp b2;rw[eo];exact Pf (KG.mpr #[ho,Kf e])
abbrev lA (bs:Ja Jk)(u:Wd):Wd:=yI bs u u.length
def lB {bs:Ja Jk}{u:Wd}:∃o,Ord u.length o/\o.length=u.length/\al bs u o=lA bs u:=by
 have h:=p9 (bs:=bs) (u:=u) u.length (Jo _);obtain⟨o,ho⟩:=Nv _ h.ne;exact#[o,(h.mem o).mp ho]
def eX {bs:Ja Jk}{u:Wd}{o:Ja Jg}{i:Jg}(hi:i < o.length):(al bs u o).getD i (0,[])=((u.getD (o.getD i 0) (0,[])).1,(o.take i).map λj=>bH bs u (o.getD i 0) j):=by
 unfold al;rw[JD,Jl,LA hi]; rfl
def qa {bs:Ja Jk}{u:Wd}{o:Ja Jg}{i j:Jg}(hi:i < o.length)(hj:j < i):((al bs u o).getD i (0,[])).2.getD j 0=bH bs u (o.getD i 0) (o.getD j 0):=by
 rw[eX hi];dsimp only;rw[JD,Jl,MC hj,ak (d:=0) (show j < o.length by omega)]; rfl
def yL {bs:Ja Jk}{a:Jg}{u:Wd}{o:Ja Jg}{i j:Jg}(hb:GoodB bs)(hu:GoodW a bs.length u)(hO:Ord u.length o)(hi:i < o.length)(hj:j < o.length)(hij:i≠j):bH bs (al bs u o) i j=bH bs u (o.getD i 0) (o.getD j 0):=by
 have gi:=ak (d:=0) hi;have gj:=ak (d:=0) hj;have li:=hO.lt _ (Jq gi);have lj:=hO.lt _ (Jq gj);have ne:o.getD i 0≠o.getD j 0:=λe=>by
  have h1:o[i]=o.getD i 0:=by simp[hi]
  have h2:o[j]=o.getD j 0:=by simp[hj]
  exact hij ((Lj hO.nd).mp (by rw[h1,h2,e]))
 by_cases h:j < i
 ·have:bH bs (al bs u o) i j=((al bs u o).getD i (0,[])).2.getD j 0:=by unfold bH; rw[JK h]
  rw[this,qa hi h]
 ·have:bH bs (al bs u o) i j=bs.getD (((al bs u o).getD j (0,[])).2.getD i 0).toNat 0:=by unfold bH; rw[JU h]
  rw[this,qa hj ∅]
  generalize o.getD i 0=x at *
  generalize o.getD j 0=y at *
  unfold bH
  by_cases h2:x < y
  ·rw[JK h2,JU ∅]
  ·rw[JU h2,JK ∅]
   have hp:=ak (d:=(0,[])) li;have hw:y < (u.getD x (0,[])).2.length:=by rw[hu.len x _ hp]; omega
   obtain⟨w0,w1⟩:=hu.way x _ hp _ (Jq (ak (d:=0) hw));have:=hb.inv ((u.getD x (0,[])).2.getD y 0).toNat ∅
   rw[this]; omega
def dU {bs:Ja Jk}{a:Jg}{u:Wd}{o p:Ja Jg}(hb:GoodB bs)(hu:GoodW a bs.length u)(hO:Ord u.length o)(hP:Ord o.length p):al bs (al bs u o) p=al bs u (p.map λi=>o.getD i 0):=by
 refine Mv (by rw[aO,aO,Jb]) λk h1 h2=>?_
 rw[aO]at h1;have e1:=eX (bs:=bs) (u:=al bs u o) (o:=p) h1;have e2:=eX (bs:=bs) (u:=u) (o:=p.map λi=>o.getD i 0) (i:=k) (by rw[Jb]; exact h1)
 have hk:p.getD k 0 < o.length:=hP.lt _ (Jq (ak (d:=0) h1));have ek:(p.map λi=>o.getD i 0).getD k 0=o.getD (p.getD k 0) 0:=by
  rw[JD,Jl,ak (d:=0) h1]; rfl
 rw[ek]at e2;rw[eX hk]at e1;have f:∀(v:Wd) (hv:k < v.length),v[k]=v.getD k (0,[]):=λv hv=>by simp[hv]
 rw[f _ (by rw[aO]; exact h1),f _ h2,e1,e2]
 congr 1;rw[<- Mh,KU];refine Kk λj hj=>?_
 obtain⟨m,hm,rfl⟩:=Mu.mp hj;rw[JQ]at hm;rw[MV];have hpm:p[m]=p.getD m 0:=by simp[show m < p.length by omega]
 rw[hpm];refine yL hb hu hO hk (hP.lt _ (Jq (ak (d:=0) (show m < p.length by omega)))) λe=>?_
 have h3:p[k]=p.getD k 0:=by simp[h1]
 have:=(Lj hP.nd).mp (h3.trans (e.trans hpm.symm));omega
def j3 {n:Jg}{o:Ja Jg}(h:Ord n o)(hl:o.length=n){p:Jg}(hp:p < n):p∈o:=by
 by_cases z:p∈o
 ·exact z
 ·have:=(iU (n:=n) (o:=o) (p:=p)).mpr #[h,hp,z];have h1:=jo (o++[p]) (Jw n) this.nd λq hq=>Jt.mpr (this.lt q hq)
  rw[Je,JS,JT]at h1;omega
def yM {n:Jg}{o p:Ja Jg}(h:Ord n o)(hp:Ord o.length p):Ord n (p.map λi=>o.getD i 0):=by
 have g:∀i,i < o.length->o[i]?=gV (o.getD i 0):=λi hi=>ak hi
 refine#[?_,λq hq=>?_]
 ·rw[Nn,Mn];refine hp.nd.imp_of_mem λ{a b} ha hb hab e=>hab ?_
  have h1:=hp.lt a ha;have h2:=hp.lt b hb;have e1:o[a]=o.getD a 0:=by simp[h1]
  have e2:o[b]=o.getD b 0:=by simp[h2]
  exact(Lj h.nd).mp (by rw[e1,e2,e])
 ·obtain⟨i,hi,rfl⟩:=Jy.mp hq;exact h.lt _ (Jq (g i (hp.lt i hi)))
def lC {bs:Ja Jk}{a:Jg}{u:Wd}{o:Ja Jg}(hb:GoodB bs)(hu:GoodW a bs.length u)(hO:Ord u.length o)(hl:o.length=u.length):lA bs (al bs u o)=lA bs u:=by
 have pl:(al bs u o).length=u.length:=by rw[aO,hl]
 obtain⟨p,p1,p2,p3⟩:=lB (bs:=bs) (u:=al bs u o);obtain⟨q,q1,q2,q3⟩:=lB (bs:=bs) (u:=u);rw[pl]at p1 p2;have m1:=λo h1 h2=>(p9 (bs:=bs) (u:=u) _ (Jo _)).least o h1 h2
 have m2:=λo2 h1 h2=>(p9 (bs:=bs) (u:=al bs u o) _ (Jo _)).least o2 h1 h2
 refine dO (tu (ol _) ?_ ?_)
 ·rw[<- p3,dU hb hu hO (by rw[hl]; exact p1)]
  exact m1 _ (yM hO (by rw[hl]; exact p1)) (by rw[Jb,p2])
 ·have e:q=(q.map λx=>o.idxOf x).map λi=>o.getD i 0:=by
   rw[KU]
   conv=>lhs; rw[<- List.map_id q]
   refine Kk λx hx=>?_
   have hm:=j3 hO hl (q1.lt x hx);have hlt:=LH hm;show x=o.getD (o.idxOf x) 0;rw[JD,Ju hlt,No]; rfl
  have hQ:Ord o.length (q.map λx=>o.idxOf x):=by
   refine#[?_,λi hi=>?_]
   ·rw[Nn,Mn];refine q1.nd.imp_of_mem λ{x y} hx hy hxy e=>hxy ?_
    have h1:=LH (j3 hO hl (q1.lt x hx));have h2:=LH (j3 hO hl (q1.lt y hy));have e1:=No h1;have e2:=No h2;rw[<- e1,<- e2];congr 1
   ·obtain⟨x,hx,rfl⟩:=Jy.mp hi;exact LH (j3 hO hl (q1.lt x hx))
  rw[<- q3,e,<- dU hb hu hO hQ];exact m2 _ (by rw[pl,<- hl]; exact hQ) (by rw[Jb,pl,q2])
def eY {n:Jg}{x:Jk}(h:x∈cM n):0<=x/\x < n:=by
 obtain⟨k,hk,rfl⟩:=Jy.mp h;have:=Jt.mp hk;omega
def lD {a n:Jg}{u:Wd}(h:u∈pG a n):GoodW a n u/\u.length=3:=by
 unfold pG at h;simp only[Kb,Jy]at h;obtain⟨m0,h0,m1,h1,m2,h2,w1,g1,w2,g2,w3,g3,rfl⟩:=h;refine#[?_,rfl];have s1:GoodW a n ([]++[(m0,[])]):=GoodW.nil.snoc (eY h0) rfl (λw hw=>nomatch hw)
 have s2:GoodW a n ([(m0,[])]++[(m1,[w1])]):=s1.snoc (eY h1) rfl (λw hw=>by rw[Jv.mp hw]; exact eY g1)
 exact s2.snoc (eY h2) rfl (λw hw=>by
  simp only[JR,Ks,LX]at hw;rcases hw with rfl|rfl
  ·exact eY g2
  ·exact eY g3)
def mP {a:Jg}{bs:Ja Jk}{g:Wd}(hb:GoodB bs)(h:g∈aN a bs):GoodW a bs.length g/\g.length=3:=by
 unfold aN at h;rw[MM]at h;obtain⟨u,hu,rfl⟩:=Jy.mp h;obtain⟨gu,u3⟩:=lD hu;unfold cj;have hm:hJ ((am.map (al bs u)).map cy) < (am.map (al bs u)).length:=by
  unfold hJ;refine Pd (dh _ _) ?_;rw[Jb,Jb]; decide
 have:=Jq (ak (d:=[]) hm);obtain⟨t,ht,e⟩:=Jy.mp this;rw[<- e];have tk:∀t∈am,t.length=3/\t.Nodup/\∀p∈t,p < 3:=by decide
 obtain⟨t1,t2,t3⟩:=tk t ht;exact#[mO hb gu (λp hp=>by have:=t3 p hp; omega) t2,by rw[aO]; exact t1]
def vc {a n:Jg}{u:Wd}(hu:GoodW a n u):GoodW a n u.dropLast:=by
 have key:∀(k:Jg) (x:Pt),(u.dropLast)[k]?=gV x->u[k]?=gV x:=λk x e=>by
  rw[Oa]at e;split at e
  ·exact e
  ·cases e
 exact#[λk x e=>hu.mark k x (key k x e),λk x e=>hu.len k x (key k x e),λk x e=>hu.way k x (key k x e)]
def bU {t:Ja Jg}:t∈am↔Ord 3 t/\t.length=3:=by
 constructor
 ·intro h;have:∀t∈am,t.Nodup/\(∀p∈t,p < 3)/\t.length=3:=by decide
  obtain⟨h1,h2,h3⟩:=this t h;exact#[#[h1,h2],h3]
 ·intro h;have h1:=oo.mpr h;have:∀t∈yH 3,t∈am:=by decide
  exact this t h1
def rn {bs:Ja Jk}{u:Wd}:∃t∈am,cj bs u=al bs u t/\∀s∈am,gL (cy (al bs u s)) (cy (cj bs u))=gV false:=by
 obtain⟨x,h1,h2,h3⟩:=pZ (ks:=(am.map (al bs u)).map cy) (λx hx=>by obtain⟨p,_,rfl⟩:=Jy.mp hx; exact ol p) (gE _) (by simp[am])
 rw[Jl,Jf]at h1;obtain⟨v,hv,rfl⟩:=h1;have e:cj bs u=v:=by unfold cj; rw[JD,hv]; rfl
 rw[e];obtain⟨t,ht,rfl⟩:=Jy.mp (Jq hv);exact#[t,ht,rfl,λs hs=>h3 _ (Jy.mpr #[_,Jy.mpr #[s,hs,rfl],rfl])]
def gI {bs:Ja Jk}{u:Wd}(h:u.length=3):cj bs u=lA bs u:=by
 obtain⟨t,ht,e,mn⟩:=rn (bs:=bs) (u:=u);obtain⟨o,h1,h2,h3⟩:=lB (bs:=bs) (u:=u);have hl:∀t∈am,gL (cy (al bs u t)) (cy (lA bs u))=gV false:=λt ht=>by
  obtain⟨g1,g2⟩:=bU.mp ht;rw[<- h]at g1 g2;exact(p9 (bs:=bs) (u:=u) u.length (Jo _)).least t g1 g2
 refine dO (tu (ol _) ?_ ?_)
 ·rw[e]; exact hl t ht
 ·rw[<- h3];rw[h]at h1 h2;exact mn o (bU.mpr #[h1,h2])
def Ee {bs:Ja Jk}{a:Jg}{gs:Ja Wd}{w:Wd}(hb:GoodB bs)(hgs:∀g∈gs,g∈aN a bs)(hw:GoodW a bs.length w)(h3:w.length=3):cj bs w∈gs↔w∈aM bs gs:=by
 unfold aM;rw[Kb];have fp:∀(u:Wd) (t:Ja Jg),GoodW a bs.length u->u.length=3->t∈am->cj bs (al bs u t)=cj bs u:=λu t hu hl ht=>by
  obtain⟨t1,t2⟩:=bU.mp ht;rw[gI hl,gI (by rw[aO,t2]),lC hb hu (by rw[hl]; exact t1) (by rw[t2,hl])]
 constructor
 ·intro h;obtain⟨t,ht,e,_⟩:=rn (bs:=bs) (u:=w);obtain⟨t1,t2⟩:=bU.mp ht;have inv:∀t∈am,∃s∈am,(s.map λi=>t.getD i 0)=[0,1,2]:=by decide
  obtain⟨s,hs,es⟩:=inv t ht;refine#[_,h,Jy.mpr #[s,hs,?_]];have:=dU (p:=s) hb hw (by rw[h3]; exact t1) (by rw[t2]; exact(bU.mp hs).1)
  rw[e,this,es];have r3:[0,1,2]=Jw w.length:=by rw[h3]; rfl
  rw[r3];have self:∀k,k<=w.length->al bs w (Jw k)=w.take k:=λk=>by
   induction k with
   | zero=>intro _; simp[al]
   | succ k ih=>
    intro hk;rw[KQ,dR,ih ∅,uX hw ∅,JV,ak (d:=(0,[])) ∅]; rfl
  rw[self _ (Jo _),J5]
 ·rintro⟨g,hg,h⟩;obtain⟨t,ht,rfl⟩:=Jy.mp h;have hf:=hgs g hg;obtain⟨gg,g3⟩:=mP hb hf;rw[fp g t gg g3 ht];unfold aN at hf;rw[MM]at hf;obtain⟨u,hu,e⟩:=Jy.mp hf;obtain⟨gu,u3⟩:=lD hu;obtain⟨s,hs,es,_⟩:=rn (bs:=bs) (u:=u);have:cj bs g=g:=by
   rw[<- e]
   conv=>lhs; rw[es]
   rw[fp u s gu u3 hs]
  rw[this]; exact hg
abbrev jx:Ss:=
 #v[.ret (.ix (.ix (.ix (.v 0) (.c (.int 1))) (.v 1)) (.c (.int 1)))]
abbrev fE:Ss:=
 #v[.set 5 (.comp (.own "first_bar" 2 #v[.v 2,.own "with_both" 5 #v[.v 6,.v 3,.v 4,.v 5,.v 1]]) (.nm 1) (.rng #v[.bi .len #v[.ix (.v 0) (.c (.int 1))]]) .nil [td,td,gV 1,gV 2,gV 3,gV 4,gV 0]),.ret (.bi .tuple #v[.op .add (.v 5) (.lst #v[.own "same_bar" 2 #v[.v 3,.v 4]])])]
abbrev dA:Ss:=
 #v[.ret (.op .add (.v 1) (.tup #v[.v 2,.tup #v[.ix (.v 3) (.c (.int 0)),.op .add (.ix (.v 3) (.c (.int 1))) (.tup #v[.own "back" 2 #v[.v 0,.v 4]])]]))]
abbrev ee:Ss:=
 #v[.ite (.cmp .ne (.ix (.v 0) (.c (.int 0))) (.ix (.v 1) (.c (.int 0)))) #v[.ret (.neg (.c (.int 1)))] .nil,.set 2 (.comp (.v 1) (.nm 1) (.rng #v[.bi .len #v[.ix (.v 0) (.c (.int 1))]]) #v[.cmp .ne (.ix (.ix (.v 2) (.c (.int 1))) (.v 1)) (.ix (.ix (.v 3) (.c (.int 1))) (.v 1))] [td,td,gV 0,gV 1]),.ret (.ite (.v 2) (.ix (.v 2) (.c (.int 0))) (.c .non))]
abbrev bX (P:Jg->JL)(s:Jg):W:=match (Jw s).find? P with
 | some i=>.int (i:Jk)
 | none=>.non
def rq {P:Jg->JL}{s:Jg}(h:∀i < s,P i=false):bX P s=.non:=by
 unfold bX;have:(Jw s).find? P=td:=LL.mpr λi hi=>by rw[h i (Jt.mp hi)]; exact JF
 rw[this]
def ic {P:Jg->JL}:∀ {s i:Jg},i < s->P i=true->(∀j < i,P j=false)->(Jw s).find? P=gV i
 | s+1,i,hi,hp,hn=>by
  rw[KQ,List.find?_append]
  by_cases e:i=s
  ·subst e;have:(Jw i).find? P=td:=LL.mpr λj hj=>by rw[hn j (Jt.mp hj)]; exact JF
   rw[this];simp[hp]
  ·rw[ic ∅ hp hn]; rfl
def rs {P:Jg->JL}{s i:Jg}(hi:i < s)(hp:P i=true)(hn:∀j < i,P j=false):bX P s=.int (i:Jk):=by
 unfold bX;rw[ic hi hp hn]
def rz {P:Jg->JL}{s:Jg}:(((Jw s).filter P).map (λ(i:Jg)=>W.int (i:Jk))++[.non])[0]?=gV (bX P s):=by
 unfold bX;rw[<- List.head?_filter];cases(Jw s).filter P <;> rfl
def jI (P:Jg->JL)(s:Jg):bX P s=.non\/∃i:Jk,bX P s=.int i:=by
 unfold bX;cases(Jw s).find? P with
 | none=>exact .inl rfl
 | some i=>exact .inr #[_,rfl]
abbrev cR (bs:Ja Jk)(u:Wd)(one other:Pt)(n:Jg):Wd:=u++[one]++[(other.1,other.2++[bs.getD n 0])]
abbrev iV (one other:Pt):W:=if one.1=other.1 then bX (λp=>!(one.2.getD p 0==other.2.getD p 0)) one.2.length else .int (-1)
abbrev fJ (P:Wd->Jg->JL)(bs:Ja Jk)(u:Wd)(one other:Pt):Ja W:=(Jw bs.length).map (λn=>bX (P (cR bs u one other n)) u.length)++[iV one other]
def rA (one other:Pt):iV one other=.non\/∃i:Jk,iV one other=.int i:=by
 unfold iV;split
 ·exact jI _ _
 ·exact .inr #[_,rfl]
structure GoodP (a n k:Jg)(p:Pt):Prop where
 mark:0<=p.1/\p.1 < a
 len:p.2.length=k
 way:∀w∈p.2,0<=w/\w < (n:Jk)
def vd {bs:Ja Jk}{a:Jg}{u:Wd}{one other:Pt}{n:Jg}(hb:GoodB bs)(hu:GoodW a bs.length u)(h1:GoodP a bs.length u.length one)(h2:GoodP a bs.length u.length other)(hn:n < bs.length):GoodW a bs.length (cR bs u one other n)/\(cR bs u one other n).length=u.length+2:=by
 refine#[(hu.snoc (m:=one.1) (ws:=one.2) h1.mark h1.len h1.way).snoc h2.mark ?_ λw hw=>?_,?_]
 ·rw[Je,Je,h2.len]; rfl
 ·rcases JN.mp hw with z|z
  ·exact h2.way w z
  ·rw[Jv.mp z];obtain⟨b,hb1,hb2,hb3⟩:=hb.rng n hn;rw[getD_some hb1]; exact#[hb2,hb3]
 ·unfold cR;rw[Je,Je]; rfl
section
variable{defs:Ja (JG×Df)}{fuel d:Jg}{S:aa}{Q:QW}
def qb (h3:Is defs ("three_at" : JG) 4 6 bF)(hg:Is defs ("first_bar" : JG) 2 4 aX){a n q s:Jg}{v:Wd}{U:Ja (T×W)}(hv:GoodW a n v)(hs:v.length=s+2)(hl:v.length<=1000)(e:S[q]?=gV (.dic U))(k:Q (bX (λp=>cw U v p s (s+1)) s,S)) :
  wO (aF (ar defs fuel (d+2)) "first_bar" 2 [.ref q,au v] S) Q:=by
 refine aw hg rfl rfl λQ' hR=>?_
 replace k:=hR _ _ k;clear hR;show wZ _ _ aX [gV (.ref q),gV (au v),td,td] S Q';have ul:(v.map ay).length=v.length:=Jb ..;dsimp only[aX];refine st ?_;left;refine aD (ab gZ ?_);rw[ul,show((v.length:Jg):Jk) - 1=((s+1:Jg):Jk) by omega]
 nofun
 refine bC (s:Jk) (λi Z S'=>(∃a3,Z=[gV (.ref q),gV (au v),gV (.int ((s+1:Jg):Jk)),a3])/\S'=S/\∀i' < i,cw U v i' s (s+1)=false) rfl rfl ∅ ?_ ?_ ?_
 ·dsimp only[wE,wV,wG];refine ab gZ #[?_,#[_,rfl],rfl,λi' z=>∅]
  dsimp only;rw[show((s+1:Jg):Jk) - 1=(s:Jk) by omega]
 ·rintro i Z S1 hi ⟨⟨a3,rfl⟩,rfl,no⟩ Q2 hn hr;clear hK;dsimp only[Jr];nofun
  dsimp only[wS,wT,wE,wA,wV,wG];refine ab gZ ?_;dsimp only;rw[show((s+1:Jg):Jk) - 1=(s:Jk) by omega]
  refine tt (d:=d) h3 hv ∅ (Lk s) ∅ ?_
  refine ab (show aP .isin (au (di v i s (s+1))) (.ref q) S1=gV (.bl (cw U v i s (s+1)),S1) by simp only[aP,bP e,jq]; rfl) ?_
  dsimp only[wB];refine aj (Q0:=Q2) (λh Q5 _ hr5=>?_) (λh Q5 hn5 _=>aR (hn5 _ _ (hK _ _ (aR (hn _ _ #[#[_,rfl],rfl,λi' z=>?_])))))
  ·refine st ?_;dsimp only[wS,wE,wV,wG];rw[rs (P:=λp=>cw U v p s (s+1)) ∅ h no]at k
   exact hr5 _ _ (hr _ _ k)
  ·by_cases ei:i'=i
   ·rw[ei]; exact h
   ·exact no i' ∅
 ·rintro Z S1 ⟨⟨a3,rfl⟩,rfl,no⟩;refine hK _ _ (st ?_);dsimp only[wS,wE];rw[rq (P:=λp=>cw U v p s (s+1)) λi hi=>no i ∅]at k
  exact k
def Ef (hg:Is defs ("back" : JG) 2 2 jx){m0 b0:W}{ns:Ja JG}{bs:Ja Jk}{n:Jg}(hnl:ns.length=bs.length)(hn:n < bs.length)(k:Q (.int (bs.getD n 0),S)) :
  wO (aF (ar defs fuel (d+1)) "back" 2 [.tup [m0,.tup (JA aE ns bs),b0],.int n] S) Q:=by
 refine aw hg rfl rfl λQ' hR=>?_
 replace k:=hR _ _ k;show wZ _ _ jx [gV (.tup [m0,.tup (JA aE ns bs),b0]),gV (.int n)] S Q';have hb:=ak (d:=0) hn;dsimp only[jx];refine st ?_;dsimp only[wS,wE,wV,wG];exact ae #v[] rfl (ae (Jp n) (by rw[JC]; exact jr (Ju ∅) hb) (ae #v[] rfl k))
def qc (hbk:Is defs ("back" : JG) 2 2 jx)(hg:Is defs ("with_both" : JG) 5 5 dA){m0 b0:W}{ns:Ja JG}{bs:Ja Jk}{u:Wd}{one other:Pt}{n:Jg}(hnl:ns.length=bs.length)(hn:n < bs.length)(hu:u.length<=900)(ho:other.2.length<=900)(k:Q (au (cR bs u one other n),S)) :
  wO (aF (ar defs fuel (d+2)) "with_both" 5 [.tup [m0,.tup (JA aE ns bs),b0],au u,ay one,ay other,.int n] S) Q:=by
 refine aw hg rfl rfl λQ' hR=>?_
 replace k:=hR _ _ k;show wZ _ _ dA [gV (.tup [m0,.tup (JA aE ns bs),b0]),gV (au u),gV (ay one),gV (ay other),gV (.int n)] S Q';dsimp only[dA];refine st ?_;left;refine ae #v[] rfl (ae #v[] rfl ?_)
 refine Ef (d:=d) hbk hnl hn ?_;refine ab (bO (eh ?_)) ?_
 ·rw[Je,Jb]; show _+1<=_; omega
 dsimp only;have ev:u.map ay++[ay one,.tup [.int other.1,.tup (other.2.map W.int++[.int (bs.getD n 0)])]]=(cR bs u one other n).map ay:=by
  unfold cR;simp[ay]
 unfold au at k ⊢;refine ab (bO (eh ?_)) ?_
 ·rw[Je,Jb]; show _+2<=_; omega
 dsimp only;rw[ev];exact k
def rB (hg:Is defs ("same_bar" : JG) 2 3 ee){one other:Pt}(h:other.2.length=one.2.length)(hl:one.2.length<=900)(k:∀S',Ka S S'->Q (iV one other,S')) :
  wO (aF (ar defs fuel (d+1)) "same_bar" 2 [ay one,ay other] S) Q:=by
 refine aw hg rfl rfl λQ' hR=>?_
 replace k:∀S',Ka S S'->Q' (.rt (iV one other),S'):=λS' a=>hR _ _ (k S' a)
 clear hR;show wZ _ _ ee [gV (ay one),gV (ay other),td] S Q';have wl:∀(p:Pt) (i:Jg),i < p.2.length->(p.2.map W.int)[((i:Jg):Jk).toNat]?=gV (.int (p.2.getD i 0)):=λp i hi=>by
  rw[JC,Jl,ak (d:=0) hi]; rfl
 dsimp only[ee];nofun
 dsimp only[wS,wT,wE,wV,wG];refine ae #v[] rfl (ae #v[] rfl (ab uN ?_))
 dsimp only[wB];unfold iV at k;refine aj (Q0:=Q') (λhm Q2 _ hr=>?_) (λhm Q2 hn _=>aR (hn _ _ (hK _ _ ?_)))
 ·have hm:one.1≠other.1:=λz=>by rw[z]at hm; simp at hm
  refine st ?_;dsimp only[wS,wE,wN];rw[JU hm]at k;exact hr _ _ (k S .refl)
 clear hK K hn;have hm:one.1=other.1:=by
  by_cases z:one.1=other.1
  ·exact z
  ·have:(!(one.1==other.1))=true:=by simp[z]
   rw[this]at hm; cases hm
 rw[JK hm]at k;refine st ?_;dsimp only[wS,wE,Jr];refine om one.2.length (λp=>!(one.2.getD p 0==other.2.getD p 0)) (λ(i:Jg)=>W.int (i:Jk)) [gV (ay one),gV (ay other)] rfl rfl rfl rfl ∅ ?_ (λi hi S2 k2=>?_) λS2 k2=>?_
 ·dsimp only[wE,wA,wV,wG];refine ae #v[] rfl (aD ?_)
  rw[Jb];exact#[rfl,.refl]
 ·dsimp only[ig,wC,wT,wE,wV,wG];refine ae #v[] rfl (ae (Jp i) (wl one i hi) (ae #v[] rfl (ae (Jp i) (wl other i ∅) (ab uN ?_))))
  dsimp only[wB];exact#[λz=>#[z,rfl,.refl],λz=>#[z,.refl]]
 ·have hh:=rz (P:=λp=>!(one.2.getD p 0==other.2.getD p 0)) (s:=one.2.length)
  refine st ?_;dsimp only[wS,wE,wT,wV,wG];cases hL:((Jw one.2.length).filter λp=>!(one.2.getD p 0==other.2.getD p 0))with
  | nil=>
   rw[hL]at hh;refine ab (show cU (S2++[O.lst []]) (.ref S2.length)=gV false by simp only[cU,aK ah]; rfl) #[λz=>(by cases z),λ_=>?_]
   have e:bX (λp=>!(one.2.getD p 0==other.2.getD p 0)) one.2.length=.non:=(Ku hh).symm
   rw[e]at k;exact k _ (k2.trans .push)
  | cons x L=>
   rw[hL]at hh;refine ab (show cU (S2++[O.lst ((x::L).map λ(i:Jg)=>W.int (i:Jk))]) (.ref S2.length)=gV true by simp only[cU,aK ah]; rfl) #[λ_=>?_,λz=>by cases z]
   have e:bX (λp=>!(one.2.getD p 0==other.2.getD p 0)) one.2.length=.int (x:Jk):=(Ku hh).symm
   rw[e]at k;exact dv (i:=0) ah rfl (k _ (k2.trans .push))
end
abbrev Gv:W->JL
 | .non=>true
 | _=>false
abbrev NI (w:W):Prop:=w=.non\/∃i:Jk,w=.int i
def ve {P:Wd->Jg->JL}{bs:Ja Jk}{u:Wd}{one other:Pt}:(fJ P bs u one other).length=bs.length+1:=by
 unfold fJ;rw[Je,Jb,JS]; rfl
def yN {S:aa}{xs:Ja W}(h:xs≠[]):jP (.tup xs) (.int (-1)) S=gV (xs.getLastD (.int 0),S):=by
 have hp:0 < xs.length:=L7.mpr h;have hs:rV xs.length (-1)=gV (xs.length - 1):=by
  unfold rV;rw[JU #v[]]
  exact(JK ∅).trans (by congr 1; omega)
 have hg:xs[xs.length - 1]?=gV (xs.getLastD (.int 0)):=by
  rw[Nw,Nx];have:xs.length - 1 < xs.length:=∅
  simp[this]
 simp only[jP,ue,oJ,hs,hg,Option.bind_some,J4]
section
variable{defs:Ja (JG×Df)}{fuel d:Jg}{S:aa}{Q:QW}
structure Fil (defs:Ja (JG×Df)):Prop where
 parts:Parts defs
 part:Is defs ("part" : JG) 3 3 jt
 longer:Is defs ("longer_orders" : JG) 2 4 bx
 barred:Is defs ("barred_threes" : JG) 1 5 bT
 three:Is defs ("three_at" : JG) 4 6 bF
 fbar:Is defs ("first_bar" : JG) 2 4 aX
 back:Is defs ("back" : JG) 2 2 jx
 both:Is defs ("with_both" : JG) 5 5 dA
 same:Is defs ("same_bar" : JG) 2 3 ee
 all:Is defs ("all_bars" : JG) 5 6 fE
def lE (F:Fil defs){m0 b0:W}{ns:Ja JG}{bs:Ja Jk}{a q:Jg}{u:Wd}{one other:Pt}{U:Ja (T×W)}(hb:GoodB bs)(hnl:ns.length=bs.length)(hu:GoodW a bs.length u)(h1:GoodP a bs.length u.length one)(h2:GoodP a bs.length u.length other)(hul:u.length<=800)(e:S[q]?=gV (.dic U))
  (k:∀S',Ka S S'->Q (.tup (fJ (λv p=>cw U v p u.length (u.length+1)) bs u one other),S')) :
  wO (aF (ar defs fuel (d+3)) "all_bars" 5 [.tup [m0,.tup (JA aE ns bs),b0],.ref q,au u,ay one,ay other] S) Q:=by
 refine aw F.all rfl rfl λQ' hR=>?_
 replace k:∀S',Ka S S'->Q' (.rt (.tup (fJ (λv p=>cw U v p u.length (u.length+1)) bs u one other)),S'):=λS' a=>hR _ _ (k S' a)
 clear hR;show wZ _ _ fE [gV (.tup [m0,.tup (JA aE ns bs),b0]),gV (.ref q),gV (au u),gV (ay one),gV (ay other),td] S Q';generalize hR0:W.tup [m0,.tup (JA aE ns bs),b0]=R;have hb3:bs.length<=3:=by rcases hb with rfl|rfl|rfl|rfl|rfl|rfl <;> decide
 dsimp only[fE];refine st ?_;dsimp only[wS,wE,Jr];refine om bs.length (λ_=>true) (λn=>bX (λp=>cw U (cR bs u one other n) p u.length (u.length+1)) u.length) [gV (.ref q),gV (au u),gV (ay one),gV (ay other),gV R] rfl rfl rfl rfl ∅ ?_ (λn hn S2 k2=>?_) λS2 k2=>?_
 ·dsimp only[wE,wA,wV,wG];subst hR0;refine ae #v[] rfl (aD ?_)
  rw[KJ,hnl,LF];exact#[rfl,.refl]
 ·obtain⟨g1,g2⟩:=vd hb hu h1 h2 hn;dsimp only[ig,wC,wE,wA,wV,wG];subst hR0;refine#[λ_=>?_,λz=>by cases z]
  refine qc (d:=d) F.back F.both hnl hn ∅ (by rw[h2.len]; omega) ?_
  exact qb (d:=d) F.three F.fbar g1 g2 ∅ (k2.get _ _ e) #[rfl,rfl,.refl]
 ·rw[gk];refine st ?_;left;refine rB (d:=d+1) F.same (by rw[h1.len,h2.len]) (by rw[h1.len]; omega) λS3 k3=>?_
  dsimp only;refine ab (nU (aq (k3.get _ _ ah)) ah (eh ?_)) (eT ah (k _ (((k2.trans .push).trans k3).trans (Ka.push.trans .push))));rw[Je,Jb,JS]; show _+1<=_; omega
end
abbrev cH:Ss:=
 #v[.set 4 (.own "_law_pick" 2 #v[.v 0,.bi .len #v[.ix (.v 1) (.c (.int 0))]]),.loop (.nm 5) (.rng #v[.bi .len #v[.ix (.v 1) (.c (.int 0))]]) #v[.set 6 (.op .mod (.op .add (.v 4) (.v 5)) (.bi .len #v[.ix (.v 1) (.c (.int 0))])),.set 7 (.own "_law_new_ways" 6 #v[.v 0,.v 1,.v 2,.v 3,.v 6,.tup .nil]),.ite (.cmp .isnot (.v 7) (.c .non)) #v[.ret (.tup #v[.v 6,.v 7])] .nil],.ret (.c .non)]
abbrev fF:Ss:=
 #v[.asg [5,6] (.v 4),.set 7 (.own "_law_pick" 2 #v[.v 0,.c (.int 4)]),.ite (.cmp .eq (.v 7) (.c (.int 1))) #v[.set 5 (.own "_law_pick" 2 #v[.v 0,.bi .len #v[.ix (.v 1) (.c (.int 0))]])] #v[.ite (.and (.cmp .gt (.v 7) (.c (.int 1))) (.cmp .ne (.v 6) (.tup .nil))) #v[.set 8 (.own "_law_pick" 2 #v[.v 0,.bi .len #v[.v 6]]),.set 6 (.op .add (.op .add (.sl (.v 6) .no (.yes (.v 8))) (.tup #v[.own "_law_pick" 2 #v[.v 0,.bi .len #v[.ix (.v 1) (.c (.int 1))]]])) (.sl (.v 6) (.yes (.op .add (.v 8) (.c (.int 1)))) .no))] .nil],.ite (.own "_law_last_may" 4 #v[.v 1,.v 2,.op .add (.v 3) (.tup #v[.tup #v[.v 5,.v 6]]),.bi .len #v[.v 3]]) #v[.ret (.tup #v[.v 5,.v 6])] .nil,.ret (.v 4)]
abbrev fG:Ss:=
 #v[.set 4 (.own "_law_world" 4 #v[.v 0,.v 1,.v 2,.v 3]),.set 5 (.own "_law_new_point" 4 #v[.v 0,.v 1,.v 2,.v 4]),.ite (.cmp .is (.v 5) (.c .non)) #v[.set 5 (.ix (.v 4) (.neg (.c (.int 1)))),.set 4 (.sl (.v 4) .no (.yes (.neg (.c (.int 1)))))] .nil,.set 6 (.c .non),.ite (.cmp .eq (.own "_law_pick" 2 #v[.v 0,.c (.int 2)]) (.c (.int 0))) #v[.set 6 (.own "_law_new_point" 4 #v[.v 0,.v 1,.v 2,.v 4])] .nil,.ite (.cmp .is (.v 6) (.c .non)) #v[.set 6 (.own "_law_near" 5 #v[.v 0,.v 1,.v 2,.v 4,.v 5])] .nil,.ret (.tup #v[.v 4,.v 5,.v 6])]
def Gw {S:aa}{xs:Ja Jk}:aP .ne (.tup (ac xs)) (.tup []) S=gV (.bl (!decide (xs=[])),S):=by
 cases xs <;> rfl
def Std.last {U:Ja (T×W)}{u:Wd}(h:Std U u):Std U u.dropLast/\bu U u.dropLast u.dropLast.length (u.getD (u.length - 1) (0,[]))=true:=by
 have e:∀p,p < u.length - 1->u.dropLast.getD p (0,[])=u.getD p (0,[]):=λp hp=>by
  rw[JD,JD,Oa,JK hp]
 refine#[λk hk j hj i hi=>?_,ba.mpr λj hj i hi=>?_]
 ·rw[Lv]at hk;have:=h k ∅ j hj i hi
  unfold cw di at this ⊢;rw[e i ∅,e j ∅,e k hk]
  exact this
 ·rw[Lv]at hj;have:=h (u.length - 1) ∅ j hj i hi
  unfold cw di at this;unfold bG;rw[e i ∅,e j ∅]
  exact this
section
variable{defs:Ja (JG×Df)}{fuel d:Jg}{S:aa}{r:Jg}{Q:QW}
structure Pai (defs:Ja (JG×Df)):Prop where
 un:Is defs ("_law_unlaying_rule" : JG) 1 10 bf
 ways:Is defs ("_law_new_ways" : JG) 6 11 aS
 world:Is defs ("_law_world" : JG) 4 8 dz
 lmay:Is defs ("_law_last_may" : JG) 4 8 aH
 point:Is defs ("_law_new_point" : JG) 4 8 cH
 near:Is defs ("_law_near" : JG) 5 9 fF
 pair:Is defs ("_law_pair" : JG) 4 7 fG
def rC (G:Gen defs)(hg:Is defs ("_law_new_ways" : JG) 6 11 aS){m0 b0:W}{N:Ja W}{a n q:Jg}{u:Wd}{mk:Jk}{U:Ja (T×W)}(hN:N.length=n)(hn3:n<=3)(hu:GoodW a n u)(hl:u.length<=900)(e:S[q]?=gV (.dic U))(hqr:q≠r)(hf:Fl S r)
  (k:∀w S',((w=.non/\u≠[])\/∃to:Ja Jk,w=.tup (ac to)/\to.length=u.length/\(∀x∈to,0<=x/\x < (n:Jk))/\∀j < u.length,∀i < j,bp U u mk i j (to.getD i 0) (to.getD j 0)=false)->Fl S' r->Kp r S S'->Q (w,S')) :
  wO (aF (ar defs fuel (d+2)) "_law_new_ways" 6 [.ref r,.tup [m0,.tup N,b0],.ref q,au u,.int mk,.tup []] S) Q:=by
 by_cases z:u=[]
 ·subst z;refine aw hg rfl rfl λQ' hR=>?_
  show wZ _ _ aS [gV (.ref r),gV (.tup [m0,.tup N,b0]),gV (.ref q),gV (au []),gV (.int mk),gV (.tup (ac [])),td,td,td,td,td] S Q';dsimp only[aS];nofun
  refine dw 0 0 (λm Z S'=>Z=[gV (.ref r),gV (.tup [m0,.tup N,b0]),gV (.ref q),gV (au []),gV (.int mk),gV (.tup (ac [])),td,td,td,td,td]/\S'=S) rfl rfl rfl #v[] ?_ (λm Z S1 hm=>∅) ?_
  ·dsimp only[wE,wA,wV,wG];exact aD #[rfl,aD #[rfl,rfl,rfl]]
  ·rintro Z S1 ⟨rfl,rfl⟩;refine hK _ _ (st ?_);dsimp only[wS,wE,wV,wG];exact hR _ _ (k _ _ (.inr #[[],rfl,rfl,(λx hx=>nomatch hx),λj hj=>by cases hj]) hf .refl)
 ·refine lg G hg hN hn3 hu hl e hqr hf λw S' hw f' k'=>k w S' ?_ f' k'
  rcases hw with h|h
  ·exact .inl #[h,z]
  ·exact .inr h
def jJ (G:Gen defs)(P:Pai defs){tx N:Ja W}{b0:W}{a n q:Jg}{u:Wd}{U:Ja (T×W)}(hM:tx.length=a)(ha1:0 < a)(ha3:a<=3)(hN:N.length=n)(hn3:n<=3)(hu:GoodW a n u)(hl:u.length<=900)(e:S[q]?=gV (.dic U))(hqr:q≠r)(hf:Fl S r)
  (k:∀w S',((w=.non/\u≠[])\/∃p,w=ay p/\GoodP a n u.length p/\bu U u u.length p=true)->Fl S' r->Kp r S S'->Q (w,S')) :
  wO (aF (ar defs fuel (d+3)) "_law_new_point" 4 [.ref r,.tup [.tup tx,.tup N,b0],.ref q,au u] S) Q:=by
 refine aw P.point rfl rfl λQ' hR=>?_
 replace k:∀w S',((w=.non/\u≠[])\/∃p,w=ay p/\GoodP a n u.length p/\bu U u u.length p=true)->Fl S' r->Kp r S S'->Q' (.rt w,S'):=λw S' h1 h2 h3=>hR _ _ (k w S' h1 h2 h3)
 clear hR;show wZ _ _ cH [gV (.ref r),gV (.tup [.tup tx,.tup N,b0]),gV (.ref q),gV (au u),td,td,td,td] S Q';generalize hR0:W.tup [.tup tx,.tup N,b0]=R;dsimp only[cH];nofun
 left;have lm:∀(S:aa) (Q:QW),Q (.int (a:Jk),S)->wO (jP R (.int 0) S) λp=>wO (Bi.len.fn [p.1] p.2) Q:=λS Q q=>by
  subst hR0;refine ae #v[] rfl (aD ?_)
  rw[hM]; exact q
 refine lm _ _ ?_;refine aU (d:=d+1) G.pick hf ∅ ∅ λv S1 v0 v1 f1 k1=>hK _ _ ?_
 clear hK K;nofun
 refine bC (a:Jk) (λi Z S'=>(∃a5 a6 a7,Z=[gV (.ref r),gV R,gV (.ref q),gV (au u),gV (.int v),a5,a6,a7])/\(u=[]->i=0)/\Fl S' r/\Kp r S S') rfl rfl ∅ ?_ ?_ ?_
 ·dsimp only[wE,wA,wV,wG];exact lm _ _ #[rfl,#[_,_,_,rfl],λ_=>rfl,f1,k1]
 ·rintro i Z S2 hi ⟨⟨a5,a6,a7,rfl⟩,_,f2,k2⟩ Q2 hn2 hr2;clear hK;dsimp only[Jr];refine st ?_;left;refine ab cO (lm _ _ (ab (kQ ∅) ?_))
  have m0:0<=(v+(i:Jk)) % (a:Jk):=LR _ ∅
  have m1:(v+(i:Jk)) % (a:Jk) < a:=Ll _ ∅
  generalize(v+(i:Jk)) % (a:Jk)=m at m0 m1;refine st ?_;left;subst hR0;refine rC (d:=d) G P.ways hN hn3 hu hl (k2.get _ _ hqr e) hqr f2 λw S3 hw f3 k3=>?_
  nofun
  dsimp only[wS,wT,wE,wA,wV,wG];rcases hw with⟨rfl,hne⟩|⟨to,rfl,htl,hto,hbp⟩
  ·refine ab (show aP .isnot .non .non S3=gV (.bl false,S3)from rfl) ?_
   dsimp only[wB];exact aj (Q0:=Q2) (λz=>by cases z) (λ_ Q5 hn5 _=>aR (hn5 _ _ (hK _ _ (aR (hn2 _ _ #[#[_,_,_,rfl],λz=>absurd z hne,f3,k2.trans k3])))))
  ·refine ab (show aP .isnot (.tup (ac to)) .non S3=gV (.bl true,S3)from rfl) ?_
   dsimp only[wB];refine aj (Q0:=Q2) (λ_ Q5 _ hr5=>?_) (λz=>by cases z)
   refine st ?_;left;exact hr5 _ _ (hr2 _ _ (k _ _ (.inr #[(m,to),rfl,#[#[m0,m1],htl,hto],ba.mpr hbp]) f3 (k2.trans k3)))
 ·rintro Z S2 ⟨⟨a5,a6,a7,rfl⟩,hz,f2,k2⟩;rw[JC]at hz;refine hK _ _ (st ?_);dsimp only[wS,wE];exact k _ _ (.inl #[rfl,λz=>by have:=hz z; omega]) f2 k2
def Eg (G:Gen defs)(P:Pai defs){tx N:Ja W}{b0:W}{a n q:Jg}{u:Wd}{p:Pt}{U:Ja (T×W)}(hM:tx.length=a)(ha1:0 < a)(ha3:a<=3)(hN:N.length=n)(hn1:0 < n)(hn3:n<=3)(hu:GoodW a n u)(hp:GoodP a n u.length p)(hpm:bu U u u.length p=true)(hl:u.length<=900)(e:S[q]?=gV (.dic U))(hqr:q≠r)(hf:Fl S r)
  (k:∀p' S',GoodP a n u.length p'->bu U u u.length p'=true->Fl S' r->Kp r S S'->Q (ay p',S')) :
  wO (aF (ar defs fuel (d+2)) "_law_near" 5 [.ref r,.tup [.tup tx,.tup N,b0],.ref q,au u,ay p] S) Q:=by
 refine aw P.near rfl rfl λQ' hR=>?_
 replace k:∀p' S',GoodP a n u.length p'->bu U u u.length p'=true->Fl S' r->Kp r S S'->Q' (.rt (ay p'),S'):=λw S' h1 h2 h3 h4=>hR _ _ (k w S' h1 h2 h3 h4)
 clear hR;show wZ _ _ fF [gV (.ref r),gV (.tup [.tup tx,.tup N,b0]),gV (.ref q),gV (au u),gV (ay p),td,td,td,td] S Q';generalize hR0:W.tup [.tup tx,.tup N,b0]=R;have lm:∀(S:aa) (Q:QW),Q (.int (a:Jk),S)->wO (jP R (.int 0) S) λp=>wO (Bi.len.fn [p.1] p.2) Q:=λS Q q=>by
  subst hR0;refine ae #v[] rfl (aD ?_)
  rw[hM]; exact q
 have lw:∀(S:aa) (Q:QW),Q (.int (n:Jk),S)->wO (jP R (.int 1) S) λp=>wO (Bi.len.fn [p.1] p.2) Q:=λS Q q=>by
  subst hR0;refine ae #v[] rfl (aD ?_)
  rw[hN]; exact q
 have ul:(u.map ay).length=u.length:=Jb ..;dsimp only[fF];refine st ?_;dsimp only[wS,wE,wV,wG,wU,ay];refine ab (show c7 [5,6] [.int p.1,.tup (p.2.map W.int)] [gV (.ref r),gV R,gV (.ref q),gV (au u),gV (.tup [.int p.1,.tup (p.2.map W.int)]),td,td,td,td]=gV [gV (.ref r),gV R,gV (.ref q),gV (au u),gV (ay p),gV (.int p.1),gV (.tup (ac p.2)),td,td]from rfl) ?_
 nofun
 left;refine aU (d:=d) G.pick hf #v[] #v[] λv S1 _ _ f1 k1=>hK _ _ ?_
 clear hK K;nofun
 have tl:∀(m:Jk) (to:Ja Jk) (a8:Ji W) (S2:aa),GoodP a n u.length (m,to)->Fl S2 r->Kp r S S2->K [gV (.ref r),gV R,gV (.ref q),gV (au u),gV (ay p),gV (.int m),gV (.tup (ac to)),gV (.int v),a8] S2:=by
  intro m to a8 S2 hg f2 k2;refine hK _ _ ?_;clear hK K;nofun
  dsimp only[wS,wT,wE,wA,wV,wG,au];have ev:u.map ay++[.tup [.int m,.tup (ac to)]]=(u++[(m,to)]).map ay:=by rw[JI]; rfl
  refine ab (bO (eh (by rw[ev,Jb,Je,JT]; omega))) (aD ?_)
  dsimp only;rw[ev,ul];have lmay:=λ(Q:QW)=>lv (fuel:=fuel) (d:=d) (Q:=Q) (R:=R) (h:=(m,to)) P.lmay hu hg.len ∅ (k2.get _ _ hqr e)
  unfold au at lmay;refine lmay _ ?_;refine ab (show cU S2 (.bl (bu U u u.length (m,to)))=gV (bu U u u.length (m,to))from rfl) ?_
  refine aj (Q0:=Q') (λhmt Q2 _ hr=>?_) (λ_ Q2 hn _=>aR (hn _ _ (hK _ _ (st ?_))))
  ·refine st ?_;left;exact hr _ _ (k (m,to) S2 hg hmt f2 k2)
  ·dsimp only[wS,wE,wV,wG];exact k p S2 hp hpm f2 k2
 dsimp only[wS,wT,wE,wV,wG,lT,aV,wB];refine aj (Q0:=Q') (λ_ Q2 hn _=>?_) (λ_ Q2 hn _=>?_)
 ·refine st ?_;left;refine lm _ _ (aU (d:=d) G.pick f1 ∅ ∅ λm S2 m0 m1 f2 k2=>aR (hn _ _ (tl m p.2 td S2 #[#[m0,m1],hp.len,hp.way] f2 (k1.trans k2))))
 ·refine aG λK2 hK2=>?_
  dsimp only[wS,wT,wE,wA,wV,wG];have stay:K2 [gV (.ref r),gV R,gV (.ref q),gV (au u),gV (ay p),gV (.int p.1),gV (.tup (ac p.2)),gV (.int v),td] S1:=hK2 _ _ (aR (hn _ _ (tl p.1 p.2 td S1 hp f1 k1)));refine ab DT ?_;dsimp only[wB];refine#[λ_=>ab Gw ?_,λ_=>aj (Q0:=Q2) (λz=>by cases z) λ_ Q3 hn3 _=>aR (hn3 _ _ stay)]
  dsimp only[wB];refine aj (Q0:=Q2) (λhne Q3 hn3 _=>?_) (λ_ Q3 hn3 _=>aR (hn3 _ _ stay))
  have hne:p.2≠[]:=by simpa using hne
  have hpl:0 < p.2.length:=L7.mpr hne;have il:(ac p.2).length=p.2.length:=Jb ..;have hpe:=hp.len;refine st ?_;left;refine aD ?_;rw[il];refine aU (d:=d) G.pick f1 ∅ ∅ λv2 S2 v0 v1 f2 k2=>?_
  obtain⟨at',rfl⟩ : ∃k:Jg,v2=k:=#[v2.toNat,∅]
  refine st ?_;dsimp only[wS,wE,wA,wP,wV,wG,wN,Jr];refine ab (show lP (.tup (ac p.2)) td (gV ((at':Jg):Jk)) S2=gV (.tup ((ac p.2).take at'),S2) by simp only[lP,d8]) ?_
  dsimp only;refine lw _ _ (aU (d:=d) G.pick f2 ∅ ∅ λw S3 w0 w1 f3 k3=>?_)
  refine ab (bO (eh (by rw[Je,JQ,il]; show _+1<=_; omega))) ?_
  dsimp only;refine ab cO ?_;dsimp only;refine ab (show lP (.tup (ac p.2)) (gV ((at':Jk)+1)) td S3=gV (.tup ((ac p.2).drop (at'+1)),S3) by rw[show(at':Jk)+1=((at'+1:Jg):Jk) by omega]; simp only[lP,xO]) ?_
  dsimp only;refine ab (bO (eh (by rw[Je,Je,JQ,L9,il]; show _+1+_<=_; omega))) ?_
  have es:(ac p.2).take at'++[.int w]++(ac p.2).drop (at'+1)=ac (p.2.set at' w):=by
   unfold ac;rw[Rl,List.set_eq_take_append_cons_drop,JK (by rw[Jb]; omega)]
   simp
  dsimp only;rw[es];refine aR (hn3 _ _ (hK2 _ _ (aR (hn _ _ (tl p.1 (p.2.set at' w) _ S3 #[hp.mark,?_,λx hx=>?_] f3 ((k1.trans k2).trans k3))))))
  ·show(p.2.set at' w).length=_;rw[Qg]; exact hpe
  ·rcases List.mem_or_eq_of_mem_set hx with z|z
   ·exact hp.way x z
   ·rw[z]; exact#[w0,w1]
def Eh (G:Gen defs)(P:Pai defs){tx N:Ja W}{b0:W}{a n q many:Jg}{U:Ja (T×W)}(hM:tx.length=a)(ha1:0 < a)(ha3:a<=3)(hN:N.length=n)(hn1:0 < n)(hn3:n<=3)(hm:many<=800)(e:S[q]?=gV (.dic U))(hqr:q≠r)(hf:Fl S r)
  (k:∀(u:Wd) (one other:Pt) S',u.length<=many->GoodW a n u->Std U u->GoodP a n u.length one->bu U u u.length one=true->GoodP a n u.length other->bu U u u.length other=true->Fl S' r->Kp r S S'->Q (.tup [au u,ay one,ay other],S')) :
  wO (aF (ar defs fuel (d+4)) "_law_pair" 4 [.ref r,.tup [.tup tx,.tup N,b0],.ref q,.int many] S) Q:=by
 refine aw P.pair rfl rfl λQ' hR=>?_
 replace k:∀(u:Wd) (one other:Pt) S',u.length<=many->GoodW a n u->Std U u->GoodP a n u.length one->bu U u u.length one=true->GoodP a n u.length other->bu U u u.length other=true->Fl S' r->Kp r S S'->Q' (.rt (.tup [au u,ay one,ay other]),S'):=λu x y S' h1 h2 h3 h4 h5 h6 h7 h8 h9=>hR _ _ (k u x y S' h1 h2 h3 h4 h5 h6 h7 h8 h9)
 clear hR;show wZ _ _ fG [gV (.ref r),gV (.tup [.tup tx,.tup N,b0]),gV (.ref q),gV (.int many),td,td,td] S Q';generalize hR0:W.tup [.tup tx,.tup N,b0]=R;dsimp only[fG];nofun
 left;subst hR0;refine Bz (d:=d) G P.ways P.world hM ha1 ha3 hN hn3 ∅ e hqr hf λu S1 hul hu hst f1 k1=>hK _ _ ?_
 clear hK K;nofun
 left;refine jJ (d:=d) G P hM ha1 ha3 hN hn3 hu ∅ (k1.get _ _ hqr e) hqr f1 λw S2 hw f2 k2=>hK _ _ ?_
 clear hK K;have k12:=k1.trans k2;clear f1 k1 k2;nofun
 have tl:∀(u:Wd) (one:Pt),u.length<=many->GoodW a n u->Std U u->GoodP a n u.length one->bu U u u.length one=true->K [gV (.ref r),gV (.tup [.tup tx,.tup N,b0]),gV (.ref q),gV (.int many),gV (au u),gV (ay one),td] S2:=by
  intro u one hul hu hst h1 h1m;refine hK _ _ ?_;clear hK K;refine st ?_;dsimp only[wS,wE,Jr];nofun
  have tl2:∀(w:W) (S3:aa),(w=.non\/∃p,w=ay p/\GoodP a n u.length p/\bu U u u.length p=true)->Fl S3 r->Kp r S S3->K [gV (.ref r),gV (.tup [.tup tx,.tup N,b0]),gV (.ref q),gV (.int many),gV (au u),gV (ay one),gV w] S3:=by
   intro w S3 hw f3 k3;refine hK _ _ ?_;clear hK K;nofun
   dsimp only[wS,wT,wE,wV,wG];have ret:∀(p:Pt) (S4:aa),GoodP a n u.length p->bu U u u.length p=true->Fl S4 r->Kp r S S4->K [gV (.ref r),gV (.tup [.tup tx,.tup N,b0]),gV (.ref q),gV (.int many),gV (au u),gV (ay one),gV (ay p)] S4:=λp S4 hp hpm f4 k4=>hK _ _ (st (by
    left;exact k u one p S4 hul hu hst h1 h1m hp hpm f4 k4))
   rcases hw with rfl|⟨p,rfl,hp,hpm⟩
   ·refine ab (show aP .is .non .non S3=gV (.bl true,S3)from rfl) ?_
    dsimp only[wB];refine aj (Q0:=Q') (λ_ Q2 hn _=>?_) (λz=>by cases z)
    refine st ?_;left;exact Eg (d:=d+1) G P hM ha1 ha3 hN hn1 hn3 hu h1 h1m ∅ (k3.get _ _ hqr e) hqr f3 λp S4 hp hpm f4 k4=>aR (hn _ _ (ret p S4 hp hpm f4 (k3.trans k4)))
   ·refine ab (show aP .is (ay p) .non S3=gV (.bl false,S3)from rfl) ?_
    dsimp only[wB];exact aj (Q0:=Q') (λz=>by cases z) (λ_ Q2 hn _=>aR (hn _ _ (ret p S3 hp hpm f3 k3)))
  dsimp only[wS,wT,wE,wA,wV,wG];refine aU (d:=d+2) G.pick f2 #v[] #v[] λv S3 _ _ f3 k3=>?_
  dsimp only[lT,aV,wB];refine aj (Q0:=Q') (λ_ Q2 hn _=>?_) (λ_ Q2 hn _=>aR (hn _ _ (tl2 .non S3 (.inl rfl) f3 (k12.trans k3))))
  refine st ?_;left;refine jJ (d:=d) G P hM ha1 ha3 hN hn3 hu ∅ (k3.get _ _ hqr (k12.get _ _ hqr e)) hqr f3 λw S4 hw f4 k4=>aR (hn _ _ (tl2 w S4 ?_ f4 ((k12.trans k3).trans k4)))
  rcases hw with⟨h,_⟩|h
  ·exact .inl h
  ·exact .inr h
 dsimp only[wS,wT,wE,wV,wG];rcases hw with⟨rfl,hne⟩|⟨p,rfl,hp,hpm⟩
 ·refine ab (show aP .is .non .non S2=gV (.bl true,S2)from rfl) ?_
  dsimp only[wB];refine aj (Q0:=Q') (λ_ Q2 hn _=>?_) (λz=>by cases z)
  have hup:0 < u.length:=L7.mpr hne;have hlt:u.length - 1 < u.length:=∅
  have gl:=ak (d:=(0,[])) hlt;refine st ?_;dsimp only[wS,wE,wV,wG,wN,Jr];have el:(u.map ay).getLastD (.int 0)=ay (u.getD (u.length - 1) (0,[])):=by
   rw[Nw,Nx,Jb,Jl,gl]; rfl
  refine ab (yN (xs:=u.map ay) (by simpa using hne)) ?_
  rw[el];refine st ?_;dsimp only[wS,wE,wP,wV,wG,wN,Jr];refine ab (show lP (au u) td (gV (-1)) S2=gV (au u.dropLast,S2) by simp only[au,lP,yB,List.map_dropLast]) ?_
  refine aR (hn _ _ (tl u.dropLast (u.getD (u.length - 1) (0,[])) (by rw[Lv]; omega) (vc hu) hst.last.1 #[hu.mark _ _ gl,?_,hu.way _ _ gl] hst.last.2))
  rw[hu.len _ _ gl,Lv]
 ·refine ab (show aP .is (ay p) .non S2=gV (.bl false,S2)from rfl) ?_
  dsimp only[wB];exact aj (Q0:=Q') (λz=>by cases z) (λ_ Q2 hn _=>aR (hn _ _ (tl u p hul hu hst hp hpm)))
end
abbrev dj:Ss:=
 #v[.ret (.op .add (.v 1) (.tup #v[.v 2,.tup #v[.ix (.v 3) (.c (.int 0)),.op .add (.ix (.v 3) (.c (.int 1))) (.tup #v[.ix (.ix (.ix (.v 0) (.c (.int 1))) (.v 4)) (.c (.int 1))])]]))]
section
variable{defs:Ja (JG×Df)}{fuel d:Jg}{S:aa}{Q:QW}
def rD (hg:Is defs ("_law_both" : JG) 5 5 dj){m0 b0:W}{ns:Ja JG}{bs:Ja Jk}{u:Wd}{one other:Pt}{n:Jg}(hnl:ns.length=bs.length)(hn:n < bs.length)(hu:u.length<=900)(ho:other.2.length<=900)(k:Q (au (cR bs u one other n),S)) :
  wO (aF (ar defs fuel (d+1)) "_law_both" 5 [.tup [m0,.tup (JA aE ns bs),b0],au u,ay one,ay other,.int n] S) Q:=by
 refine aw hg rfl rfl λQ' hR=>?_
 replace k:=hR _ _ k;show wZ _ _ dj [gV (.tup [m0,.tup (JA aE ns bs),b0]),gV (au u),gV (ay one),gV (ay other),gV (.int n)] S Q';have hb:=ak (d:=0) hn;dsimp only[dj];refine st ?_;left;refine ae #v[] rfl (ae #v[] rfl ?_)
 refine ae #v[] rfl (ae (Jp n) (by rw[JC]; exact jr (Ju ∅) hb) (ae #v[] rfl ?_))
 refine ab (bO (eh ?_)) ?_
 ·rw[Je,Jb]; show _+1<=_; omega
 dsimp only;have ev:u.map ay++[ay one,.tup [.int other.1,.tup (other.2.map W.int++[.int (bs.getD n 0)])]]=(cR bs u one other n).map ay:=by
  unfold cR;simp[ay]
 unfold au at k ⊢;refine ab (bO (eh ?_)) ?_
 ·rw[Je,Jb]; show _+2<=_; omega
 dsimp only;rw[ev];exact k
end
abbrev gQ (u:Wd)(one other:Pt)(b:Jk)(p:Jg):Wd:=[((u.getD p (0,[])).1,[]),(one.1,[one.2.getD p 0]),(other.1,[other.2.getD p 0,b])]
def rE {bs:Ja Jk}{a k:Jg}{u:Wd}{one other:Pt}{n p:Jg}(h1:GoodP a k u.length one)(h2:GoodP a k u.length other)(hp:p < u.length):di (cR bs u one other n) p u.length (u.length+1)=gQ u one other (bs.getD n 0) p:=by
 have l1:(u++[one]).length=u.length+1:=by rw[Je]; rfl
 have g0:(cR bs u one other n).getD p (0,[])=u.getD p (0,[]):=by
  unfold cR;rw[aC ∅,aC hp]
 have g1:(cR bs u one other n).getD u.length (0,[])=one:=by
  unfold cR;rw[aC ∅,bR]
 have g2:(cR bs u one other n).getD (u.length+1) (0,[])=(other.1,other.2++[bs.getD n 0]):=by
  unfold cR;rw[<- l1,bR]
 unfold di gQ;rw[g0,g1,g2];dsimp only;rw[bc (by rw[h2.len]; exact hp)]
 have:(other.2++[bs.getD n 0]).getD u.length 0=bs.getD n 0:=by
  rw[<- h2.len,JD,J9 (Jo _),Mc]; rfl
 rw[this]
abbrev iW (X:Ja T)(bs:Ja Jk)(u:Wd)(one other:Pt)(i p:Jg):JL:=decide (cy (gQ u one other (bs.getD i 0) p)∈X)
abbrev lF (one other:Pt)(s:Jg):JL:=(one.1==other.1)&&(Jw s).all λp=>one.2.getD p 0==other.2.getD p 0
abbrev fK (B:Jg->Jg->JL)(sm:JL)(n s:Jg):Ja Jk:=((Jw n).filter λi=>(Jw s).all λp=>!B i p).map (λ(i:Jg)=>(i:Jk))++(if sm then[-1]else[])
def mQ {P:Jg->JL}{s:Jg}:Gv (bX P s)=(Jw s).all λp=>!P p:=by
 rw[KR,JB];unfold bX;constructor
 ·intro h p hp;cases hf:(Jw s).find? P with
  | none=>
   have:=LL.mp hf p hp
   simpa using this
  | some i=>rw[hf]at h; cases h
 ·intro h;have:(Jw s).find? P=td:=LL.mpr λp hp=>by simpa using h p hp
  rw[this]; rfl
def mR {B:Jg->Jg->JL}{sm:JL}{n s:Jg}{z:Jk}:z∈fK B sm n s↔(∃i:Jg,z=i/\i < n/\∀p < s,B i p=false)\/(z = -1/\sm=true):=by
 unfold fK;rw[JN,Jy];constructor
 ·rintro(⟨i,hi,rfl⟩|h)
  ·obtain⟨h1,h2⟩:=KG.mp hi;exact .inl #[i,rfl,Jt.mp h1,λp hp=>by simpa using JB.mp h2 p (Jt.mpr hp)]
  ·cases sm with
   | true=>exact .inr #[Jv.mp h,rfl]
   | false=>cases h
 ·rintro(⟨i,rfl,h1,h2⟩|⟨rfl,rfl⟩)
  ·exact .inl #[i,KG.mpr #[Jt.mpr h1,JB.mpr λp hp=>by simpa using h2 p (Jt.mp hp)],rfl]
  ·exact .inr (Jv.mpr rfl)
abbrev bq (p:Pt)(ps:Ja Jg):Pt:=(p.1,ps.map λk=>p.2.getD k 0)
def mS {a n s:Jg}{p:Pt}{ps:Ja Jg}(h:GoodP a n s p)(hps:∀k∈ps,k < s):GoodP a n ps.length (bq p ps):=by
 refine#[h.mark,by unfold bq; rw[Jb],λw hw=>?_]
 unfold bq at hw;obtain⟨k,hk,rfl⟩:=Jy.mp hw;exact h.way _ (Jq (ak (d:=0) (by rw[h.len]; exact hps k hk)))
def dW {p:Pt}{ps:Ja Jg}{i:Jg}(h:i < ps.length):(bq p ps).2.getD i 0=p.2.getD (ps.getD i 0) 0:=by
 unfold bq;rw[JD,Jl,ak (d:=0) h]; rfl
def qd {bs:Ja Jk}{u:Wd}{one other:Pt}{b:Jk}{ps:Ja Jg}{i:Jg}(h:i < ps.length):gQ (al bs u ps) (bq one ps) (bq other ps) b i=gQ u one other b (ps.getD i 0):=by
 unfold gQ;rw[eX h,dW h,dW h]; rfl
abbrev bM:Ss:=
 #v[.set 2 (.bi .list #v[.v 1]),.set 3 (.lst .nil),.whl (.cmp .ne (.v 2) (.lst .nil)) #v[.ex (.me .append (.v 3) #v[.me .pop (.v 2) #v[.own "_law_pick" 2 #v[.v 0,.bi .len #v[.v 2]]]])],.ret (.v 3)]
def BA {M:JG->FF}{fuel:Jg}{Z:Fm}{S:aa}{K:Fm->aa->Prop}{Q:QO}{tg:Tg}{a:E}{b:Ss}(xs:Ja W)(I:Jg->Fm->aa->Prop)(oa:dH a=true)(ok:fY b=true)(he:wE M a Z S λp=>GZ p.1=gV xs/\I 0 Z p.2)
  (hstep:∀(i:Jg) (x:W) (Z:Fm) (S:aa),xs[i]?=gV x->I i Z S->wO (eQ tg (.tup [.int i,x]) Z S) λq=>uO M fuel b q.1 q.2 (I (i+1)) Q) (hend:∀Z S,I xs.length Z S->K Z S):Wp (fM M fuel (.loop tg (.enu #v[a]) b) Z S) (pv K Q):=by
 obtain⟨x,S1,e1,h1,h0⟩:=bW oa he;have hl:(ji xs).length=xs.length:=by simp[ji]
 refine fZ (mi:=.its (ji xs)) (S1:=S1) (xs:=ji xs) I ok (by simp only[jQ,cX,dG,iG,xr,e1,h1]) (λ_ _ _ _=>rfl) rfl h0 (λi w Z S hw hI=>?_) λZ S hI=>hend Z S (hl ▸ hI)
 obtain⟨y,hy,rfl⟩:=kI hw;exact hstep i y Z S hy hI
def Ei {S:aa}{i j:Jg}{c:JL}(h:gU S 20 (.ref i) (.ref j)=gV c):aP .ne (.ref i) (.ref j) S=gV (.bl (!c),S):=by
 simp only[aP,dC,ud,h,J4]
def Gx {S:aa}{i j:Jg}{xs:Ja W}(h1:S[i]?=gV (.lst xs))(h2:S[j]?=gV (.lst [])):aP .ne (.ref i) (.ref j) S=gV (.bl (!xs.isEmpty),S):=by
 refine Ei ?_;simp only[gU,b6 h1,b6 h2];cases xs with
 | nil=>rfl
 | cons x xs=>rfl
section
variable{defs:Ja (JG×Df)}{fuel d:Jg}{S:aa}{r:Jg}{Q:QW}
def BB {i:Jg}{xs:Ja W}(h:S[i]?=gV (.lst xs))(q:Q (.ref S.length,S++[.lst xs])):wO (Bi.list.fn [.ref i] S) Q:=by
 refine ab ?_ q;have h1:wj S i=td:=by simp[wj,h]
 simp only[Bi.fn,EB,ko,h1,kC,jW h,gW,eN,aK h]
def rF (G:Gen defs)(hg:Is defs ("_law_shuffled" : JG) 2 4 bM){l:Jg}{ls:Ja Jg}(hf:Fl S r)(e:S[l]?=gV (.lst (az ls)))(hnd:ls.Nodup)(hl:ls.length<=900)(hfu:ls.length < fuel)
  (k:∀(q:Jg) (ps:Ja Jg) S',S'[q]?=gV (.lst (az ps))->ps.Nodup->(∀p∈ps,p∈ls)->ps.length=ls.length->S.length<=q->Fl S' r->Kp r S S'->Q (.ref q,S')) :
  wO (aF (ar defs fuel (d+2)) "_law_shuffled" 2 [.ref r,.ref l] S) Q:=by
 refine aw hg rfl rfl λQ' hR=>?_
 replace k:∀(q:Jg) (ps:Ja Jg) S',S'[q]?=gV (.lst (az ps))->ps.Nodup->(∀p∈ps,p∈ls)->ps.length=ls.length->S.length<=q->Fl S' r->Kp r S S'->Q' (.rt (.ref q),S'):=λa b c e f g h i j m=>hR _ _ (k a b c e f g h i j m)
 clear hR;show wZ _ _ bM [gV (.ref r),gV (.ref l),td,td] S Q';have hrt:=hf.lt;have nl:∀xs:Ja Jg,(az xs).length=xs.length:=λxs=>Jb ..
 dsimp only[bM];refine st ?_;left;refine BB e ?_;refine st ?_;dsimp only[wS,wE,wA,Jr];have l1:(S++[O.lst (az ls)]).length=S.length+1:=by simp
 nofun
 refine Ce (λm Z S'=>Z=[gV (.ref r),gV (.ref l),gV (.ref S.length),gV (.ref (S++[O.lst (az ls)]).length)]/\∃xs ps:Ja Jg,S'[S.length]?=gV (.lst (az xs))/\S'[(S++[O.lst (az ls)]).length]?=gV (.lst (az ps))/\(xs++ps).Nodup/\(∀p∈xs++ps,p∈ls)/\xs.length+ps.length=ls.length/\xs.length=m/\Fl S' r/\Kp r S S') ls.length rfl rfl hfu #[rfl,ls,[],aq ah,ah,by rw[Ky]; exact hnd,λp hp=>by rw[Ky]at hp; exact hp,by simp,rfl,(hf.ka .push).ka .push,Kp.push.trans .push] ?_
 rintro m Z S2 ⟨rfl,xs,ps,e2,e3,nd,lt,hsz,hm,f2,k2⟩;rw[l1]at e3;rw[l1];have h2:=bK e2;have h3:=bK e3;dsimp only[wT,wE,wA,wV,wG];refine ab (Gx (aq e2) ah) ?_;dsimp only[wB];have e2':=aq (u:=O.lst []) e2;have e3':=aq (u:=O.lst []) e3;have f2':=f2.ka (Ka.push (o:=O.lst []));have k2':=k2.trans (Kp.push (o:=O.lst []));clear e2 e3 f2 k2 h2 h3;generalize S2++[O.lst []]=S2 at e2' e3' f2' k2';refine#[λh=>?_,λh=>?_]
 ·have hx:xs≠[]:=λz=>by rw[z]at h; simp[az]at h
  have hx0:0 < xs.length:=L7.mpr hx;refine#[m - 1,∅,λQ2 hn _=>?_]
  clear hK k;refine st ?_;left;refine#[cK e3',cK e2',pz e2' ?_];rw[nl];refine aU (d:=d) G.pick f2' ∅ ∅ λv S3 v0 v1 f3 k3=>?_
  have e2'':=k3.get _ _ ∅ e2'
  have e3'':=k3.get _ _ ∅ e3'
  have hv:v.toNat < xs.length:=∅
  refine Gp e2'' v0 (nZ (Ju hv)) (by rw[nl]; omega) ?_
  have e3s:(S3.set S.length (.lst ((az xs).eraseIdx v.toNat)))[S.length+1]?=gV (.lst (az ps)):=by rw[aY ∅]; exact e3''
  have pm:(xs.eraseIdx v.toNat++(ps++[xs[v.toNat]])).Perm (xs++ps):=by
   have h1:xs.Perm (xs[v.toNat]::xs.eraseIdx v.toNat):=(oQ hv).symm;have h2:(ps++[xs[v.toNat]]).Perm (xs[v.toNat]::ps):=List.perm_append_singleton ..;refine(Ro _ h2).trans (NY.trans ?_);exact(Rm ps h1).symm
  refine kU e3s (by rw[nl]; omega) (aR (hn _ _ #[rfl,xs.eraseIdx v.toNat,ps++[xs[v.toNat]],?_,?_,pm.nodup_iff.mpr nd,λp hp=>lt p (pm.mem_iff.mp hp),?_,?_,(f3.own ∅).own ∅,((k2'.trans k3).late ∅).late ∅]))
  ·rw[aY ∅,bg e2'',pT]
  ·rw[bg e3s]; unfold az; rw[JI]; rfl
  ·rw[OF,JK hv,Je,JT]; omega
  ·rw[OF,JK hv]; omega
 ·have hx:xs=[]:=by
   cases xs with
   | nil=>rfl
   | cons x xs=>simp[az]at h
  subst hx;refine hK _ _ (st ?_);dsimp only[wS,wE,wV,wG];rw[Od]at nd lt;exact k _ ps S2 e3' nd lt (by simpa using hsz) ∅ f2' k2'
end
abbrev dB:Ss:=
 #v[.set 5 (.lst .nil),.loop (.nm 6) (.rng #v[.bi .len #v[.ix (.v 0) (.c (.int 1))]]) #v[.ite (.own "_law_last_may" 4 #v[.v 0,.v 1,.own "_law_both" 5 #v[.v 0,.v 2,.v 3,.v 4,.v 6],.op .add (.bi .len #v[.v 2]) (.c (.int 1))]) #v[.ex (.me .append (.v 5) #v[.v 6])] .nil],.ret (.op .add (.v 5) (.op .mul (.lst #v[.neg (.c (.int 1))]) (.bi .int #v[.cmp .eq (.v 3) (.v 4)])))]
def rG {xs:Ja Jk}{b:Jk}:(xs++[b]).getD xs.length 0=b:=by
 rw[JD,J9 (Jo _),Mc]; rfl
def yO {X:Ja T}{U:Ja (T×W)}{bs:Ja Jk}{a:Jg}{u:Wd}{one other:Pt}{n:Jg}(hk:∀t,(aJ U t).isSome=decide (t∈X))(h2:GoodP a bs.length u.length other)(hm:bu U u u.length other=true) :
  bu U (u++[one]) (u++[one]).length (other.1,other.2++[bs.getD n 0])=(Jw u.length).all λp=>!iW X bs u one other n p:=by
 have hl:(u++[one]).length=u.length+1:=by rw[Je]; rfl
 have key:∀p < u.length,bG U (u++[one]) (other.1,other.2++[bs.getD n 0]) p u.length=iW X bs u one other n p:=λp hp=>by
  unfold bG iW gQ;dsimp only;rw[aC hp,bR,bc (by rw[h2.len]; exact hp),hk]
  have:(other.2++[bs.getD n 0]).getD u.length 0=bs.getD n 0:=by rw[<- h2.len]; exact rG
  rw[this]
 rw[KR,ba,JB,hl];constructor
 ·intro h p hp;have hp:=Jt.mp hp;rw[<- key p hp,h u.length ∅ p hp]; rfl
 ·intro h q hq p hp
  by_cases e:q=u.length
  ·subst e;have:=h p (Jt.mpr hp);rw[key p hp]
   simpa using this
  ·have hq':q < u.length:=∅
   have:=ba.mp hm q hq' p hp;unfold bG at this ⊢;dsimp only;rw[aC (Lp hp hq'),aC hq',bc (by rw[h2.len]; omega),bc (by rw[h2.len]; omega)]
   exact this
def Gy {one other:Pt}{s:Jg}(h1:one.2.length=s)(h2:other.2.length=s):decide (one=other)=lF one other s:=by
 unfold lF;rw[KR,JP,Jj,beq_iff_eq,JB];constructor
 ·rintro rfl;exact#[rfl,λp _=>by rw[Kr]]
 ·rintro⟨e,h⟩;refine Rs e (NB λi=>?_)
  by_cases hi:i < s
  ·have:=eq_of_beq (h i (Jt.mpr hi));rw[ak (d:=0) ∅,ak (d:=0) ∅,this]
  ·rw[Mj ∅,Mj ∅]
def qe {P:Jg->JL}{n:Jg}:(((Jw n).filter P).map λ(i:Jg)=>(i:Jk)).length<=n:=by
 rw[Jb];exact JY (K4 _ _) (by rw[JS]; exact Jo _)
section
variable{defs:Ja (JG×Df)}{fuel d:Jg}{S:aa}{Q:QW}
def tB (hm:Is defs ("_law_last_may" : JG) 4 8 aH)(hbo:Is defs ("_law_both" : JG) 5 5 dj)(hg:Is defs ("_law_fills" : JG) 5 7 dB){m0 b0:W}{ns:Ja JG}{bs:Ja Jk}{a q:Jg}{X:Ja T}{u:Wd}{one other:Pt}{U:Ja (T×W)}(hb:GoodB bs)(hnl:ns.length=bs.length)(hu:GoodW a bs.length u)(h1:GoodP a bs.length u.length one)(h2:GoodP a bs.length u.length other)(hul:u.length<=800)(e:S[q]?=gV (.dic U))
  (hk:∀t,(aJ U t).isSome=decide (t∈X)) (hmay:bu U u u.length other=true)
  (k:∀(l:Jg) S',S'[l]?=gV (.lst (ac (fK (iW X bs u one other) (lF one other u.length) bs.length u.length)))->S.length<=l->Ka S S'->Q (.ref l,S')) :
  wO (aF (ar defs fuel (d+2)) "_law_fills" 5 [.tup [m0,.tup (JA aE ns bs),b0],.ref q,au u,ay one,ay other] S) Q:=by
 refine aw hg rfl rfl λQ' hR=>?_
 replace k:∀(l:Jg) S',S'[l]?=gV (.lst (ac (fK (iW X bs u one other) (lF one other u.length) bs.length u.length)))->S.length<=l->Ka S S'->Q' (.rt (.ref l),S'):=λl S' a b c=>hR _ _ (k l S' a b c)
 clear hR;show wZ _ _ dB [gV (.tup [m0,.tup (JA aE ns bs),b0]),gV (.ref q),gV (au u),gV (ay one),gV (ay other),td,td] S Q';have hb3:bs.length<=3:=by rcases hb with rfl|rfl|rfl|rfl|rfl|rfl <;> decide
 have ul:(u.map ay).length=u.length:=Jb ..;have sl:((u++[one]).length:Jk)=(u.length:Jk)+1:=by rw[Je,JT]; rfl
 have hul2:(u++[one]).length<=1000:=by rw[Je,JT]; omega
 have gu:GoodW a bs.length (u++[one]):=hu.snoc (m:=one.1) (ws:=one.2) h1.mark h1.len h1.way;generalize hR0:W.tup [m0,.tup (JA aE ns bs),b0]=R;have lw:∀(S:aa) (Q:QW),Q (.int (bs.length:Jk),S)->wO (jP R (.int 1) S) λp=>wO (Bi.len.fn [p.1] p.2) Q:=λS Q q=>by
  subst hR0;refine ae #v[] rfl (aD ?_)
  rw[KJ,hnl,LF]; exact q
 have lb:∀(n:Jg) (S:aa) (Q:QW),n < bs.length->Q (au (u++[one]++[(other.1,other.2++[bs.getD n 0])]),S)->wO (aF (ar defs fuel (d+1)) "_law_both" 5 [R,au u,ay one,ay other,.int n] S) Q:=λn S Q hn q=>by
  subst hR0;exact rD (d:=d) hbo hnl hn ∅ (by rw[h2.len]; omega) q
 clear hR0;have hP:=λn=>yO (n:=n) (one:=one) hk h2 hmay
 unfold fK at k;generalize hPd:(λi=>(Jw u.length).all λp=>!iW X bs u one other i p)=P at k
 have hP:∀n,bu U (u++[one]) (u++[one]).length (other.1,other.2++[bs.getD n 0])=P n:=λn=>by rw[hP n,<- hPd]
 clear hPd;dsimp only[dB];refine st ?_;dsimp only[wS,wE,wA,Jr];nofun
 refine bC (bs.length:Jk) (λi Z S'=>(∃a6,Z=[gV R,gV (.ref q),gV (au u),gV (ay one),gV (ay other),gV (.ref S.length),a6])/\S'[S.length]?=gV (.lst (ac (((Jw i).filter P).map λ(i:Jg)=>(i:Jk))))/\Ka S S') rfl rfl ∅ ?_ ?_ ?_
 ·dsimp only[wE,wA,wV,wG];exact lw _ _ #[rfl,#[_,rfl],ah,.push]
 ·rintro i Z S2 hi ⟨⟨a6,rfl⟩,e2,k2⟩ Q2 hn _;clear hK;have hib:i < bs.length:=∅
  dsimp only[Jr];nofun
  dsimp only[wS,wT,wE,wA,wV,wG];refine lb i _ _ hib (aD ?_);rw[ul];refine ab cO ?_;dsimp only;rw[<- sl];refine lv (d:=d) hm gu (by show(other.2++[_]).length=_; rw[Je,h2.len,Je]; rfl) hul2 (k2.get _ _ e) ?_
  rw[hP];refine ab (show cU S2 (.bl (P i))=gV (P i)from rfl) ?_
  refine aj (Q0:=Q2) (λhp Q3 hn3 _=>?_) (λhp Q3 hn3 _=>aR (hn3 _ _ (hK _ _ (aR (hn _ _ #[#[_,rfl],?_,k2])))))
  ·refine st ?_;left;refine#[cK e2,kU e2 ?_ (aR (hn3 _ _ (hK _ _ (aR (hn _ _ #[#[_,rfl],?_,k2.late (Jo _)])))))]
   ·have:=qe (P:=P) (n:=i);unfold ac;rw[Jb];omega
   ·rw[bg e2,KQ,Ln,JI,Qa,hp];unfold ac;rw[JI]; rfl
  ·rw[KQ,Ln,Qa,hp]
   simpa using e2
 ·rintro Z S2 ⟨⟨a6,rfl⟩,e2,k2⟩;rw[JC]at e2;refine hK _ _ ?_;clear hK K;refine st ?_;dsimp only[wS,wE,wA,wV,wG,wN];refine ab Gr ?_;rw[Gy h1.len h2.len];generalize lF one other u.length=c at k;obtain⟨g,hg,eg,er⟩ : ∃g:Jg,g<=1/\(∀S,Bi.int.fn [.bl c] S=gV (.int (g:Jk),S))/\ac (if c then[-1]else[])=Ke g (W.int (-1)):=by
   cases c
   ·exact#[0,#v[],λ_=>rfl,rfl]
   ·exact#[1,#v[],λ_=>rfl,rfl]
  refine ab (eg _) ?_;dsimp only;refine Ci ah ∅ ?_
  have hl:=qe (P:=P) (n:=bs.length);refine ab (nU (aq (aq e2)) ah (eh (by unfold ac; rw[Je,On,Jb]; omega))) (k _ _ ?_ ?_ (((k2.trans .push).trans .push).trans .push))
  ·unfold ac at er ⊢;rw[JI,er];exact ah
  ·have:=k2.len;simp; omega
end
abbrev bd (U:Ja (T×W))(w:Wd):JL:=(aJ U (cy w)).isSome
abbrev Cl (bs:Ja Jk)(U:Ja (T×W)):Prop:=∀(w:Wd) (t:Ja Jg),t∈am->bd U w=true->bd U (al bs w t)=true
def Gz {bs:Ja Jk}{a:Jg}{gs:Ja Wd}{U:Ja (T×W)}(hb:GoodB bs)(hgs:∀g∈gs,GoodW a bs.length g/\g.length=3)(h:HasD U (aM bs gs)):Cl bs U:=by
 intro w t ht hw;unfold bd at hw ⊢;rw[h.get,JP]at hw ⊢;obtain⟨w',hw',e⟩:=Jy.mp hw;have e:=dO e;subst e;refine Jy.mpr #[_,?_,rfl];unfold aM at hw' ⊢;obtain⟨g,hg,h⟩:=Kb.mp hw';obtain⟨s,hs,rfl⟩:=Jy.mp h;obtain⟨gg,g3⟩:=hgs g hg;obtain⟨s1,s2⟩:=bU.mp hs;refine Kb.mpr #[g,hg,?_];rw[dU hb gg (by rw[g3]; exact s1) (by rw[s2]; exact(bU.mp ht).1)]
 have:∀s∈am,∀t∈am,(t.map λi=>s.getD i 0)∈am:=by decide
 exact Jy.mpr #[_,this s hs t ht,rfl]
def mT {bs:Ja Jk}{u:Wd}{i j k:Jg}(h1:i < j)(h2:j < k):di u i j k=al bs u [i,j,k]:=by
 have e1:bH bs u j i=(u.getD j (0,[])).2.getD i 0:=by unfold bH; rw[JK h1]
 have e2:bH bs u k i=(u.getD k (0,[])).2.getD i 0:=by unfold bH; rw[JK (Lp h1 h2)]
 have e3:bH bs u k j=(u.getD k (0,[])).2.getD j 0:=by unfold bH; rw[JK h2]
 show _=[((u.getD i (0,[])).1,[]),((u.getD j (0,[])).1,[bH bs u j i]),((u.getD k (0,[])).1,[bH bs u k i,bH bs u k j])];rw[e1,e2,e3];rfl
def BC {bs:Ja Jk}{a:Jg}{U:Ja (T×W)}{u:Wd}{x y z:Jg}(hb:GoodB bs)(cl:Cl bs U)(hu:GoodW a bs.length u)(hs:Std U u)(hO:Ord u.length [x,y,z]):bd U (al bs u [x,y,z])=false:=by
 rw[Le];intro h;have go:∀(i j k:Jg) (t:Ja Jg),t∈am->(t.map λi=>[x,y,z].getD i 0)=[i,j,k]->i < j->j < k->k < u.length->KA:=λi j k t ht e h1 h2 h3=>by
  have:=cl _ t ht h;rw[dU hb hu hO (bU.mp ht).1,e,<- mT h1 h2]at this;have h4:=hs k h3 j h2 i h1;unfold cw at h4;unfold bd at this;rw[this]at h4; cases h4
 have lx:=hO.lt x (by simp)
 have ly:=hO.lt y (by simp)
 have lz:=hO.lt z (by simp)
 have nd:=hO.nd;simp only[K6,JR,Ks,LX,Rj]at nd;obtain⟨⟨n1,n2⟩,n3,_⟩:=nd;rcases Mf n1 with h1|h1
 ·rcases Mf n3 with h2|h2
  ·exact go x y z [0,1,2] #v[] rfl h1 h2 lz
  ·rcases Mf n2 with h3|h3
   ·exact go x z y [0,2,1] #v[] rfl h3 h2 ly
   ·exact go z x y [2,0,1] #v[] rfl h3 h1 ly
 ·rcases Mf n2 with h2|h2
  ·exact go y x z [1,0,2] #v[] rfl h1 h2 lz
  ·rcases Mf n3 with h3|h3
   ·exact go y z x [1,2,0] #v[] rfl h3 h2 lx
   ·exact go z y x [2,1,0] #v[] rfl h3 h1 lx
def rH {ps:Ja Jg}(h:ps.Nodup){i j:Jg}(hi:i < ps.length)(hj:j < ps.length)(e:ps.getD i 0=ps.getD j 0):i=j:=by
 rw[JD,JD,Ju hi,Ju hj]at e;exact(Lj h).mp e
def Std.part {bs:Ja Jk}{a:Jg}{U:Ja (T×W)}{u:Wd}{ps:Ja Jg}(hb:GoodB bs)(cl:Cl bs U)(hu:GoodW a bs.length u)(hs:Std U u)(hO:Ord u.length ps):Std U (al bs u ps):=by
 intro k hk j hj i hi;rw[aO]at hk;have hO3:Ord ps.length [i,j,k]:=#[by simp only[K6,JR,Ks,LX,Rj]; exact#[#[∅,∅],∅,by simp],λp hp=>by
  simp only[JR,Ks,LX]at hp;rcases hp with rfl|rfl|rfl <;> omega]
 show bd U (di (al bs u ps) i j k)=false;rw[mT (bs:=bs) hi hj,dU hb hu hO hO3];have gm:∀m,m < ps.length->ps.getD m 0∈ps:=λm hm=>Jq (ak (d:=0) hm)
 refine BC hb cl hu hs #[?_,λp hp=>?_]
 ·simp only[K6,JR,Ks,LX,Rj];exact#[#[λe=>by have:=rH hO.nd ∅ ∅ e; omega,λe=>by have:=rH hO.nd ∅ ∅ e; omega],λe=>by have:=rH hO.nd ∅ ∅ e; omega,by simp]
 ·simp only[JR,Ks,LX]at hp;rcases hp with rfl|rfl|rfl <;> exact hO.lt _ (gm _ ∅)
def Std.both {U:Ja (T×W)}{u:Wd}{p:Pt}:Std U (u++[p])↔Std U u/\bu U u u.length p=true:=by
 constructor
 ·intro h;have:=h.last;rw[OE,Je,JT,O8,bR]at this;exact this
 ·rintro⟨h1,h2⟩;exact h1.snoc (m:=p.1) (to:=p.2) (ba.mp h2)
def yP {bs:Ja Jk}{u:Wd}{p:Pt}{ps:Ja Jg}(h:∀k∈ps,k < u.length):al bs (u++[p]) ps=al bs u ps:=by
 unfold al;refine Kk λk hk=>?_
 have hk:=Jt.mp hk;have g1:=h _ (Jq (ak (d:=0) hk));rw[aC g1];congr 1;refine Kk λj hj=>?_
 have g2:=h j (Mt hj);unfold bH;rw[aC g1,aC g2]
def vf {bs:Ja Jk}{u:Wd}{p:Pt}{ps:Ja Jg}(h:∀k∈ps,k < u.length):al bs (u++[p]) (ps++[u.length])=al bs u ps++[bq p ps]:=by
 rw[dR,yP h];congr 2;unfold g6 bq;rw[bR];congr 1;refine Kk λj hj=>?_
 unfold bH;rw[JK (h j hj),bR]
structure Cf (a n:Jg)(U:Ja (T×W))(u:Wd)(p q:Pt):Prop where
 gu:GoodW a n u
 su:Std U u
 gp:GoodP a n u.length p
 mp:bu U u u.length p=true
 gq:GoodP a n u.length q
 mq:bu U u u.length q=true
def GoodP.snoc {a n:Jg}{u:Wd}{p:Pt}(hu:GoodW a n u)(h:GoodP a n u.length p):GoodW a n (u++[p]):=hu.snoc (m:=p.1) (ws:=p.2) h.mark h.len h.way
def BE {n:Jg}{ps:Ja Jg}(h:Ord n ps):Ord (n+1) (ps++[n]):=#[by
 rw[Mm];exact#[h.nd,by simp,λx hx y hy e=>by
  rw[Jv.mp hy]at e;have:=h.lt x hx; omega],λp hp=>by
 rcases JN.mp hp with h1|h1
 ·have:=h.lt p h1; omega
 ·rw[Jv.mp h1]; omega]
def Cf.part {bs:Ja Jk}{a:Jg}{U:Ja (T×W)}{u:Wd}{p q:Pt}{ps:Ja Jg}(hb:GoodB bs)(cl:Cl bs U)(h:Cf a bs.length U u p q)(hO:Ord u.length ps):Cf a bs.length U (al bs u ps) (bq p ps) (bq q ps):=by
 have pl:(al bs u ps).length=ps.length:=aO ..;have one:∀p:Pt,GoodP a bs.length u.length p->bu U u u.length p=true->bu U (al bs u ps) (al bs u ps).length (bq p ps)=true:=λp gp mp=>by
  have s1:Std U (u++[p]):=Std.both.mpr #[h.su,mp];have l1:(u++[p]).length=u.length+1:=by rw[Je]; rfl
  have s2:=s1.part hb cl (gp.snoc h.gu) (ps:=ps++[u.length]) (by rw[l1]; exact BE hO)
  rw[vf hO.lt]at s2;exact(Std.both.mp s2).2
 exact#[mO hb h.gu hO.lt hO.nd,h.su.part hb cl h.gu hO,by rw[pl]; exact mS h.gp hO.lt,one p h.gp h.mp,by rw[pl]; exact mS h.gq hO.lt,one q h.gq h.mq]
abbrev aT (U:Ja (T×W))(bs:Ja Jk)(u:Wd)(p q:Pt)(i:Jg):JL:=if i < bs.length then(Jw u.length).any λk=>bd U (gQ u p q (bs.getD i 0) k)else !lF p q u.length
abbrev Full (U:Ja (T×W))(bs:Ja Jk)(c:Jg)(u:Wd)(p q:Pt):Prop:=∀i < c,aT U bs u p q i=true
def eG {U:Ja (T×W)}{bs:Ja Jk}{u:Wd}{p q:Pt}{i:Jg}(hi:i < bs.length):aT U bs u p q i=true↔∃k < u.length,bd U (gQ u p q (bs.getD i 0) k)=true:=by
 unfold aT;rw[JK hi,Lm];exact#[λ#[k,h1,h2]=>#[k,Jt.mp h1,h2],λ#[k,h1,h2]=>#[k,Jt.mpr h1,h2]]
def yQ {p q:Pt}{s:Jg}:lF p q s=false↔p.1≠q.1\/∃k < s,p.2.getD k 0≠q.2.getD k 0:=by
 unfold lF;rw[MW,NA];constructor
 ·rintro(h|⟨k,h1,h2⟩)
  ·exact .inl (by simpa using h)
  ·exact .inr #[k,Jt.mp h1,by simpa using h2]
 ·rintro(h|⟨k,h1,h2⟩)
  ·exact .inl (by simpa using h)
  ·exact .inr #[k,Jt.mpr h1,by simpa using h2]
def gw {U:Ja (T×W)}{bs:Ja Jk}{u:Wd}{p q:Pt}{i:Jg}(hi:¬ i < bs.length):aT U bs u p q i=true↔p.1≠q.1\/∃k < u.length,p.2.getD k 0≠q.2.getD k 0:=by
 unfold aT;rw[JU hi,LY,yQ]
def tD {ps:Ja Jg}{k:Jg}:(ps++[k]).getD ps.length 0=k:=by
 rw[JD,J9 (Jo _),Mc]; rfl
def tF {ps:Ja Jg}{k:Jg}(h:k∈ps):∃j < ps.length,ps.getD j 0=k:=by
 obtain⟨j,hj,e⟩:=M8 h;exact#[j,hj,by rw[JD,Ju hj]; exact e]
def yR {U:Ja (T×W)}{bs:Ja Jk}{u:Wd}{p q:Pt}{ps:Ja Jg}{i:Jg}(h:aT U bs u p q i=true)(hn:aT U bs (al bs u ps) (bq p ps) (bq q ps) i=false):∃k < u.length,k∉ps/\aT U bs (al bs u (ps++[k])) (bq p (ps++[k])) (bq q (ps++[k])) i=true:=by
 have pl:∀ps,(al bs u ps).length=ps.length:=λps=>aO ..
 have no:¬ aT U bs (al bs u ps) (bq p ps) (bq q ps) i=true:=by rw[hn]; exact JF
 have el:∀k,ps.length < (ps++[k]).length:=λk=>by rw[Je,JT]; omega
 by_cases hi:i < bs.length
 ·rw[eG hi]at h no;obtain⟨k,hk,hb⟩:=h;refine#[k,hk,λz=>?_,?_]
  ·obtain⟨j,hj,e⟩:=tF z;exact no #[j,by rw[pl]; exact hj,by rw[qd hj,e]; exact hb]
  ·rw[eG hi];exact#[ps.length,by rw[pl]; exact el k,by rw[qd (el k),tD]; exact hb]
 ·rw[gw hi]at h no;rcases h with h|⟨k,hk,hb⟩
  ·exact absurd (.inl h) no
  refine#[k,hk,λz=>?_,?_]
  ·obtain⟨j,hj,e⟩:=tF z;exact no (.inr #[j,by rw[pl]; exact hj,by rw[dW hj,dW hj,e]; exact hb])
  ·rw[gw hi];exact .inr #[ps.length,by rw[pl]; exact el k,by rw[dW (el k),dW (el k),tD]; exact hb]
def yS {U:Ja (T×W)}{bs:Ja Jk}{u:Wd}{p q x:Pt}{v w:Jk}{i:Jg}(hp:p.2.length=u.length)(hq:q.2.length=u.length)(h:aT U bs u p q i=true):aT U bs (u++[x]) (p.1,p.2++[v]) (q.1,q.2++[w]) i=true:=by
 have l1:(u++[x]).length=u.length+1:=by rw[Je]; rfl
 by_cases hi:i < bs.length
 ·rw[eG hi]at h ⊢;obtain⟨k,hk,hb⟩:=h;refine#[k,∅,?_]
  unfold gQ at hb ⊢;dsimp only;rw[aC hk,bc ∅,bc ∅]
  exact hb
 ·rw[gw hi]at h ⊢;rcases h with h|⟨k,hk,hb⟩
  ·exact .inl h
  ·refine .inr #[k,∅,?_]
   dsimp only;rw[bc ∅,bc ∅]
   exact hb
abbrev tH (U:Ja (T×W))(bs:Ja Jk)(c:Jg)(u:Wd)(p q:Pt):Jg:=((Jw c).filter λi=>!aT U bs u p q i).length
def BF {c i:Jg}{f g:Jg->JL}(hi:i < c)(h:∀j,f j=true->g j=true)(h1:f i=false)(h2:g i=true):((Jw c).filter λj=>!g j).length < ((Jw c).filter λj=>!f j).length:=by
 have e:(Jw c).filter (λj=>!g j)=((Jw c).filter λj=>!f j).filter λj=>!g j:=by
  rw[List.filter_filter];refine NC λj _=>?_
  cases hf:f j with
  | true=>rw[h j hf]; rfl
  | false=>simp
 rw[e];exact List.length_filter_lt_length_iff_exists.mpr #[i,KG.mpr #[Jt.mpr hi,by rw[h1]; rfl],by rw[h2]; exact JF]
abbrev ie (U:Ja (T×W))(v:Wd)(n:Jg)(p:Pt):Ja Pt:=((Jw n).map λ(w:Jg)=>(p.1,p.2++[(w:Jk)])).filter λh=>gP U (v++[h])
abbrev gR (U:Ja (T×W))(a n:Jg)(u:Wd)(p q:Pt):Ja (Wd×Pt×Pt):=(g7 U u a n).flatMap λx=>(ie U (u++[x]) n p).flatMap λh=>(ie U (u++[x]) n q).map λh'=>(u++[x],h,h')
def oq {U:Ja (T×W)}{u:Wd}{x p h:Pt}{n:Jg}:h∈ie U (u++[x]) n p↔∃w:Jg,w < n/\h=(p.1,p.2++[(w:Jk)])/\∀i < u.length,bG U (u++[x]) h i u.length=false:=by
 have l1:(u++[x]).length=u.length+1:=by rw[Je]; rfl
 have key:∀h:Pt,gP U (u++[x]++[h])=true↔∀i < u.length,bG U (u++[x]) h i u.length=false:=λh=>by
  rw[lq (s:=u.length) (by rw[Je,l1]; rfl)]
  constructor <;> intro z i hi
  ·have:=z i hi;rw[<- l1,lh hi ∅]at this; exact this
  ·rw[<- l1,lh hi ∅]; exact z i hi
 unfold ie;rw[KG,key,Jy];exact#[λ#[#[w,hw,e],z]=>#[w,Jt.mp hw,e.symm,z],λ#[w,hw,e,z]=>#[#[w,Jt.mpr hw,e.symm],z]]
def Cj {U:Ja (T×W)}{u:Wd}{x p h:Pt}{a n:Jg}(gp:GoodP a n u.length p)(mp:bu U u u.length p=true)(hh:h∈ie U (u++[x]) n p):GoodP a n (u++[x]).length h/\bu U (u++[x]) (u++[x]).length h=true:=by
 have l1:(u++[x]).length=u.length+1:=by rw[Je]; rfl
 obtain⟨w,hw,rfl,hb⟩:=oq.mp hh;have gl:=gp.len;refine#[#[gp.mark,?_,λz hz=>?_],ba.mpr λq hq i hi=>?_]
 ·rw[l1,Je,gl]; rfl
 ·rcases JN.mp hz with z1|z1
  ·exact gp.way z z1
  ·rw[Jv.mp z1]; omega
 ·by_cases e:q=u.length
  ·subst e; exact hb i hi
  ·have hq':q < u.length:=∅
   have:=ba.mp mp q hq' i hi;unfold bG at this ⊢;dsimp only;rw[aC (Lp hi hq'),aC hq',bc ∅,bc ∅]
   exact this
def BG {bs:Ja Jk}{U:Ja (T×W)}{u:Wd}{p q:Pt}{a n:Jg}{c:Wd×Pt×Pt}(h:Cf a n U u p q)(hc:c∈gR U a n u p q):Cf a n U c.1 c.2.1 c.2.2/\c.1.length=u.length+1/\∀i,aT U bs u p q i=true->aT U bs c.1 c.2.1 c.2.2 i=true:=by
 unfold gR at hc;obtain⟨x,hx,hc⟩:=Kb.mp hc;obtain⟨h1,hh1,hc⟩:=Kb.mp hc;obtain⟨h2,hh2,rfl⟩:=Jy.mp hc;obtain⟨g1,g2,g3,g4⟩:=ln.mp hx;obtain⟨p1,p2⟩:=Cj h.gp h.mp hh1;obtain⟨q1,q2⟩:=Cj h.gq h.mq hh2;refine#[#[h.gu.snoc (m:=x.1) (ws:=x.2) g1 g2 g3,Std.both.mpr #[h.su,ba.mpr λj hj i hi=>g4 i j hi hj],p1,p2,q1,q2],by rw[Je]; rfl,λi hi=>?_]
 obtain⟨w1,_,rfl,_⟩:=oq.mp hh1;obtain⟨w2,_,rfl,_⟩:=oq.mp hh2;exact yS h.gp.len h.gq.len hi
def vg {p:Pt}{ps:Ja Jg}{k:Jg}:bq p (ps++[k])=((bq p ps).1,(bq p ps).2++[p.2.getD k 0]):=by
 unfold bq;rw[JI]; rfl
def yT {bs:Ja Jk}{U:Ja (T×W)}{u:Wd}{p q:Pt}{a:Jg}{ps:Ja Jg}{k:Jg}(hb:GoodB bs)(cl:Cl bs U)(h:Cf a bs.length U u p q)(hO:Ord u.length (ps++[k])):(al bs u (ps++[k]),bq p (ps++[k]),bq q (ps++[k]))∈gR U a bs.length (al bs u ps) (bq p ps) (bq q ps):=by
 have C:=h.part hb cl hO;have hk:k < u.length:=hO.lt k (by simp)
 rw[dR]at C ⊢;generalize g6 bs u ps k=x at C;generalize al bs u ps=v at C;have l1:(v++[x]).length=v.length+1:=by rw[Je]; rfl
 have hx:(v++[x])[v.length]?=gV x:=by rw[J9 (Jo _),Mc]; rfl
 obtain⟨_,mx⟩:=Std.both.mp C.su;have one:∀r:Pt,GoodP a bs.length u.length r->bu U (v++[x]) (v++[x]).length (bq r (ps++[k]))=true->bq r (ps++[k])∈ie U (v++[x]) bs.length (bq r ps):=λr gr mr=>by
  obtain⟨w0,w1⟩:=gr.way _ (Jq (ak (d:=0) (by rw[gr.len]; exact hk)))
  refine oq.mpr #[(r.2.getD k 0).toNat,∅,?_,λi hi=>ba.mp mr v.length ∅ i hi]
  rw[vg,L6 w0]
 unfold gR;refine Kb.mpr #[x,ln.mpr #[C.gu.mark _ _ hx,C.gu.len _ _ hx,C.gu.way _ _ hx,λi j hi hj=>ba.mp mx j hj i hi],Kb.mpr #[_,one p h.gp C.mp,Jy.mpr #[_,one q h.gq C.mq,rfl]]]
abbrev Sub (bs:Ja Jk)(Uq:Wd)(P Q:Pt)(u:Wd)(p q:Pt):Prop:=∃ps,Ord Uq.length ps/\u=al bs Uq ps/\p=bq P ps/\q=bq Q ps
abbrev gx (a:Jg)(bs:Ja Jk)(U:Ja (T×W))(c:Jg)(u:Wd)(p q:Pt):Prop:=∀Uq P Q,Cf a bs.length U Uq P Q->Full U bs c Uq P Q->¬ Sub bs Uq P Q u p q
def Ej {bs:Ja Jk}{U:Ja (T×W)}{u:Wd}{p q:Pt}{a c i:Jg}(hb:GoodB bs)(cl:Cl bs U)(hi:i < c)(hn:aT U bs u p q i=false)(h:∀x∈gR U a bs.length u p q,aT U bs x.1 x.2.1 x.2.2 i=true->gx a bs U c x.1 x.2.1 x.2.2):gx a bs U c u p q:=by
 rintro Uq P Q hC hF ⟨ps,hO,rfl,rfl,rfl⟩;obtain⟨k,hk,hkp,hh⟩:=yR (hF i hi) hn;have hO':Ord Uq.length (ps++[k]):=#[by
  rw[Mm];exact#[hO.nd,by simp,λx hx y hy e=>by rw[Jv.mp hy]at e; exact hkp (e ▸ hx)],λx hx=>by
  rcases JN.mp hx with h1|h1
  ·exact hO.lt x h1
  ·rw[Jv.mp h1]; exact hk]
 exact h _ (yT hb cl hC hO') hh Uq P Q hC hF #[_,hO',rfl,rfl,rfl]
def vh {bs:Ja Jk}{u:Wd}{one other:Pt}{b:Jk}{p:Jg}:al bs (gQ u one other b p) [0,2,1]=gQ u other one (bs.getD b.toNat 0) p:=rfl
def Full.turn {bs:Ja Jk}{U:Ja (T×W)}{u:Wd}{p q:Pt}{c:Jg}(hb:GoodB bs)(cl:Cl bs U)(hc:bs.length<=c)(h:Full U bs c u p q):Full U bs c u q p:=by
 intro i hi
 by_cases hn:i < bs.length
 ·obtain⟨b,hb1,hb2,hb3⟩:=hb.rng i hn;have hj:(bs.getD i 0).toNat < bs.length:=by rw[getD_some hb1]; omega
  obtain⟨k,hk,hh⟩:=(eG hj).mp (h _ (JW hj hc));rw[hb.inv i hn]at hh;refine(eG hn).mpr #[k,hk,?_];have:=cl _ [0,2,1] #v[] hh
  rw[vh,JC]at this;exact this
 ·refine(gw hn).mpr ?_;rcases(gw hn).mp (h i hi)with z|⟨k,hk,z⟩
  ·exact .inl λe=>z e.symm
  ·exact .inr #[k,hk,λe=>z e.symm]
def Cf.turn {a n:Jg}{U:Ja (T×W)}{u:Wd}{p q:Pt}(h:Cf a n U u p q):Cf a n U u q p:=#[h.gu,h.su,h.gq,h.mq,h.gp,h.mp]
def BH {bs:Ja Jk}{Uq:Wd}{P Q:Pt}:Sub bs Uq P Q [] (P.1,[]) (Q.1,[]):=#[[],#[.nil,λ_ h=>nomatch h],rfl,rfl,rfl]
abbrev ou (a:Jg)(bs:Ja Jk)(U:Ja (T×W))(c:Jg):Prop:=∃Uq P Q,Cf a bs.length U Uq P Q/\Full U bs c Uq P Q
def GB {bs:Ja Jk}{U:Ja (T×W)}{a c:Jg}(hb:GoodB bs)(cl:Cl bs U)(hc:bs.length<=c)(h:∀i j:Jg,i < a->i<=j->j < a->gx a bs U c [] ((i:Jk),[]) ((j:Jk),[])):¬ ou a bs U c:=by
 rintro⟨Uq,P,Q,hC,hF⟩;have go:∀P Q:Pt,Cf a bs.length U Uq P Q->Full U bs c Uq P Q->P.1<=Q.1->KA:=λP Q hC hF hle=>by
  obtain⟨p0,p1⟩:=hC.gp.mark;obtain⟨q0,q1⟩:=hC.gq.mark;have:=h P.1.toNat Q.1.toNat ∅ ∅ ∅ Uq P Q hC hF
  rw[L6 p0,L6 q0]at this;exact this BH
 rcases Int.le_total P.1 Q.1 with hle|hle
 ·exact go P Q hC hF hle
 ·exact go Q P hC.turn (hF.turn hb cl hc) hle
abbrev bD:Ss:=
 #v[.set 4 (.comp (.tup #v[.ix (.v 2) (.c (.int 0)),.op .add (.ix (.v 2) (.c (.int 1))) (.tup #v[.v 1])]) (.nm 1) (.rng #v[.bi .len #v[.ix (.v 0) (.c (.int 1))]]) .nil [td,td,gV 3]),.ret (.comp (.v 1) (.nm 1) (.seq (.v 4)) #v[.cmp .is (.own "first_bar" 2 #v[.v 2,.op .add (.v 3) (.tup #v[.v 1])]) (.c .non)] [td,td,gV 1,gV 2])]
abbrev bI:Ss:=
 #v[.set 3 (.lst .nil),.loop (.nm 4) (.seq (.own "wishes_over" 3 #v[.v 0,.v 1,.ix (.v 2) (.c (.int 0))])) #v[.set 5 (.op .add (.ix (.v 2) (.c (.int 0))) (.tup #v[.v 4])),.set 6 (.own "longer_by_a_way" 4 #v[.v 0,.v 1,.v 5,.ix (.v 2) (.c (.int 2))]),.loop (.nm 7) (.seq (.own "longer_by_a_way" 4 #v[.v 0,.v 1,.v 5,.ix (.v 2) (.c (.int 1))])) #v[.ex (.me .extend (.v 3) #v[.comp (.tup #v[.v 2,.v 3,.v 1]) (.nm 1) (.seq (.v 6)) .nil [td,td,gV 5,gV 7]])]],.ret (.v 3)]
abbrev cW (c:Wd×Pt×Pt):W:=.tup [au c.1,ay c.2.1,ay c.2.2]
def ow {U:Ja (T×W)}{v:Wd}{n:Jg}{p:Pt}:(ie U v n p).length<=n:=by
 unfold ie;exact JY (K4 _ _) (by rw[Jb,JS]; exact Jo _)
def iX {α β:Type}{m:Jg}{F:α->Ja β}(h:∀x,(F x).length<=m):∀xs:Ja α,(xs.flatMap F).length<=xs.length*m
 | []=>by simp
 | x::xs=>by
  rw[KH,Je,J2,Nat.add_mul,Nat.one_mul];have:=iX h xs;have:=h x;omega
def yU {U:Ja (T×W)}{u:Wd}{a n:Jg}(ha:a<=3)(hn:n<=3)(hu:u.length<=3):(g7 U u a n).length<=81:=by
 have h1:n ^ u.length<=27:=JY (OQ hn _) (OD (n:=3) #v[] hu)
 have:=iX (F:=λ(m:Jg)=>cb U u n (m:Jk) u.length) (λm=>JY (eW u.length) h1) (Jw a)
 rw[JS]at this;exact JY this ∅
section
variable{defs:Ja (JG×Df)}{fuel d:Jg}{S:aa}{Q:QW}
def yV (h3:Is defs ("three_at" : JG) 4 6 bF)(hfb:Is defs ("first_bar" : JG) 2 4 aX)(hg:Is defs ("longer_by_a_way" : JG) 4 5 bD){m0 b0:W}{N:Ja W}{a n q:Jg}{v:Wd}{p:Pt}{U:Ja (T×W)}(hN:N.length=n)(hn3:n<=3)(hv:GoodW a n v)(hv1:1<=v.length)(hvl:v.length<=10)(hp0:0<=p.1/\p.1 < a)(hpl:p.2.length+1=v.length)(hpw:∀w∈p.2,0<=w/\w < (n:Jk))(e:S[q]?=gV (.dic U))
  (k:∀(l:Jg) S',S'[l]?=gV (.lst ((ie U v n p).map ay))->S.length<=l->Ka S S'->Q (.ref l,S')) :
  wO (aF (ar defs fuel (d+3)) "longer_by_a_way" 4 [.tup [m0,.tup N,b0],.ref q,au v,ay p] S) Q:=by
 refine aw hg rfl rfl λQ' hR=>?_
 replace k:∀(l:Jg) S',S'[l]?=gV (.lst ((ie U v n p).map ay))->S.length<=l->Ka S S'->Q' (.rt (.ref l),S'):=λl S' a b c=>hR _ _ (k l S' a b c)
 clear hR;show wZ _ _ bD [gV (.tup [m0,.tup N,b0]),gV (.ref q),gV (au v),gV (ay p),td] S Q';dsimp only[bD];refine st ?_;dsimp only[wS,wE,Jr];refine om n (λ_=>true) (λ(w:Jg)=>ay (p.1,p.2++[(w:Jk)])) [gV (ay p)] rfl rfl rfl rfl ∅ ?_ (λw hw S2 k2=>?_) λS2 k2=>?_
 ·dsimp only[wE,wA,wV,wG];refine ae #v[] rfl (aD ?_)
  rw[hN];exact#[rfl,.refl]
 ·dsimp only[ig,wC,wE,wA,wV,wG];refine#[λ_=>?_,λz=>by cases z]
  refine ae #v[] rfl (ae #v[] rfl ?_)
  refine ab (bO (eh (by rw[Je,Jb]; show _+1<=_; omega))) ?_
  refine#[rfl,?_,.refl];unfold ay;dsimp only;rw[JI]; rfl
 ·rw[gk];refine st ?_;dsimp only[wS,wE];have em:((Jw n).map λ(w:Jg)=>ay (p.1,p.2++[(w:Jk)]))=(((Jw n).map λ(w:Jg)=>((p.1,p.2++[(w:Jk)]):Pt)).map ay):=by rw[KU]; rfl
  rw[em];refine rh ((Jw n).map λ(w:Jg)=>((p.1,p.2++[(w:Jk)]):Pt)) ay (λh=>gP U (v++[h])) ay [gV (.ref q),gV (au v)] rfl rfl rfl rfl (by rw[Jb,JS]; omega) #[_,rfl,ah,.refl] (λh hh S3 k3=>?_) λS3 k3=>?_
  ·obtain⟨w,hw,rfl⟩:=Jy.mp hh;have hw:=Jt.mp hw;have gv:GoodW a n (v++[(p.1,p.2++[(w:Jk)])]):=hv.snoc hp0 (by rw[Je]; exact hpl) λx hx=>by
    rcases JN.mp hx with z|z
    ·exact hpw x z
    ·rw[Jv.mp z]; omega
   generalize((p.1,p.2++[(w:Jk)]):Pt)=h at gv;have vl:(v++[h]).length=v.length+1:=by rw[Je]; rfl
   dsimp only[ig,wC,wT,wE,wA,wV,wG,au];have ev:v.map ay++[ay h]=(v++[h]).map ay:=by rw[JI]; rfl
   refine ab (bO (eh (by rw[ev,Jb]; omega))) ?_
   dsimp only;rw[ev];have fb:=λ(Q:QW)=>jG (fuel:=fuel) (d:=d) (Q:=Q) h3 hfb gv ∅ ∅ ((k2.trans (Ka.push.trans k3)).get _ _ e)
   unfold au at fb;refine fb _ λz hz=>?_
   rcases hz with⟨rfl,hz⟩|⟨i,rfl,hz⟩
   ·refine ab (show aP .is .non .non S3=gV (.bl true,S3)from rfl) ?_
    dsimp only[wB];exact#[λ_=>#[hz,rfl,.refl],λz=>by cases z]
   ·refine ab (show aP .is (.int i) .non S3=gV (.bl false,S3)from rfl) ?_
    dsimp only[wB];exact#[λz=>(by cases z),λ_=>#[hz,.refl]]
  ·refine k _ _ ah ?_ ((k2.trans (Ka.push.trans k3)).trans .push);have:=(k2.trans (Ka.push.trans k3)).len;exact this
structure Sea (defs:Ja (JG×Df)):Prop where
 three:Is defs ("three_at" : JG) 4 6 bF
 fbar:Is defs ("first_bar" : JG) 2 4 aX
 lwish:Is defs ("longer_wishes" : JG) 2 5 bz
 wover:Is defs ("wishes_over" : JG) 3 7 cC
 byway:Is defs ("longer_by_a_way" : JG) 4 5 bD
 bypt:Is defs ("longer_by_a_point" : JG) 3 8 bI
def rJ (X:Sea defs){tx N:Ja W}{b0:W}{a n q:Jg}{u:Wd}{p r:Pt}{U:Ja (T×W)}(hM:tx.length=a)(hN:N.length=n)(ha3:a<=3)(hn3:n<=3)(hC:Cf a n U u p r)(hul:u.length<=3)(e:S[q]?=gV (.dic U))
  (k:∀(l:Jg) S',S'[l]?=gV (.lst ((gR U a n u p r).map cW))->S.length<=l->Ka S S'->Q (.ref l,S')) :
  wO (aF (ar defs fuel (d+4)) "longer_by_a_point" 3 [.tup [.tup tx,.tup N,b0],.ref q,.tup [au u,ay p,ay r]] S) Q:=by
 refine aw X.bypt rfl rfl λQ' hR=>?_
 replace k:∀(l:Jg) S',S'[l]?=gV (.lst ((gR U a n u p r).map cW))->S.length<=l->Ka S S'->Q' (.rt (.ref l),S'):=λl S' a b c=>hR _ _ (k l S' a b c)
 clear hR;show wZ _ _ bI [gV (.tup [.tup tx,.tup N,b0]),gV (.ref q),gV (.tup [au u,ay p,ay r]),td,td,td,td,td] S Q';have wl:=yU (U:=U) (u:=u) ha3 hn3 hul;have ww:=λ(S:aa) (Q:QW) e=>lX (defs:=defs) (fuel:=fuel) (d:=d) (S:=S) (Q:=Q) (tx:=tx) (N:=N) (b0:=b0) (q:=q) X.three X.fbar X.lwish X.wover hM hN ha3 hn3 hC.gu (JY hul #v[]) (U:=U) e
 have bw:=λ(v:Wd) (p:Pt) (S:aa) (Q:QW) hv hv1 hvl hp0 hpl hpw e=>yV (defs:=defs) (fuel:=fuel) (d:=d) (S:=S) (Q:=Q) (m0:=.tup tx) (N:=N) (b0:=b0) (q:=q) (a:=a) (n:=n) (U:=U) (v:=v) (p:=p) X.three X.fbar X.byway hN hn3 hv hv1 hvl hp0 hpl hpw e
 generalize W.tup [.tup tx,.tup N,b0]=R at ww bw;have hF:∀x:Pt,((ie U (u++[x]) n p).flatMap λh=>(ie U (u++[x]) n r).map λh'=>(u++[x],h,h')).length<=9:=λx=>by
  have h1:=iX (F:=λh=>(ie U (u++[x]) n r).map λh'=>(u++[x],h,h')) (m:=3) (λh=>by rw[Jb]; exact JY ow hn3) (ie U (u++[x]) n p)
  have h2:=ow (U:=U) (v:=u++[x]) (n:=n) (p:=p);omega
 unfold gR at k;generalize hwF:g7 U u a n=ws at k wl ww;dsimp only[bI];refine st ?_;dsimp only[wS,wE,wA,Jr];nofun
 refine c9 rfl rfl ?_;dsimp only[wE,wA,wV,wG];refine ae #v[] rfl (ww _ _ (aq e) λt S2 e2 ht k2=>?_)
 have hSt:S.length < t:=by
  have h1:(S++[O.lst []]).length=S.length+1:=by simp
  have h2:(S++[O.lst []]).length<=t:=ht;omega
 refine#[t,ws.map ay,λi Z S'=>(∃a4 a5 a6 a7,Z=[gV R,gV (.ref q),gV (.tup [au u,ay p,ay r]),gV (.ref S.length),a4,a5,a6,a7])/\S'[S.length]?=gV (.lst (((ws.take i).flatMap λx=>(ie U (u++[x]) n p).flatMap λh=>(ie U (u++[x]) n r).map λh'=>(u++[x],h,h')).map cW))/\S'[t]?=gV (.lst (ws.map ay))/\Ka S S',rfl,#[#[_,_,_,_,rfl],k2.get _ _ ah,e2,Ka.push.trans k2],λ_ _ _ h=>h.2.2.1,?_,?_]
 ·rintro i w Z S3 hw ⟨⟨a4,a5,a6,a7,rfl⟩,e3,t3,k3⟩;clear hK;rw[Jl,Jf]at hw;obtain⟨x,hx,rfl⟩:=hw;have hxm:=Jq hx;rw[<- hwF]at hxm;obtain⟨g1,g2,g3,_⟩:=ln.mp hxm;have gv:GoodW a n (u++[x]):=hC.gu.snoc (m:=x.1) (ws:=x.2) g1 g2 g3;have vl:(u++[x]).length=u.length+1:=by rw[Je]; rfl
  have hil:i < ws.length:=(Jz.mp hx).1;refine ab (show eQ (.nm 4) (ay x) [gV R,gV (.ref q),gV (.tup [au u,ay p,ay r]),gV (.ref S.length),a4,a5,a6,a7] S3=gV ([gV R,gV (.ref q),gV (.tup [au u,ay p,ay r]),gV (.ref S.length),gV (ay x),a5,a6,a7],S3)from rfl) ?_
  intro Q3 hn _;refine st ?_;left;refine ae #v[] rfl ?_
  dsimp only[au];have ev:u.map ay++[ay x]=(u++[x]).map ay:=by rw[JI]; rfl
  refine ab (bO (eh (by rw[ev,Jb]; omega))) ?_
  dsimp only;rw[ev];have hs:∀xs:Wd,W.tup (xs.map ay)=au xs:=λ_=>rfl
  rw[hs,hs];refine st ?_;left;refine ae #v[] rfl (bw (u++[x]) r _ _ gv ∅ ∅ hC.gq.mark (by rw[hC.gq.len,vl]) hC.gq.way (k3.get _ _ e) λt6 S4 e6 ht6 k4=>?_)
  have t4:=k4.get _ _ t3;have e4:=k4.get _ _ e3;have hS3:=bK t3;nofun
  refine c9 rfl rfl ?_;dsimp only[wE,wA,wV,wG];refine ae #v[] rfl (bw (u++[x]) p _ _ gv ∅ ∅ hC.gp.mark (by rw[hC.gp.len,vl]) hC.gp.way ((k3.trans k4).get _ _ e) λt7 S5 e7 ht7 k5=>?_)
  have lp:=ow (U:=U) (v:=u++[x]) (n:=n) (p:=p);have lr:=ow (U:=U) (v:=u++[x]) (n:=n) (p:=r);have hF':=hF x;have eD:ws.take (i+1)=ws.take i++[x]:=by rw[JV,hx]; rfl
  have fl:=iX (F:=λx=>(ie U (u++[x]) n p).flatMap λh=>(ie U (u++[x]) n r).map λh'=>(u++[x],h,h')) hF (ws.take i)
  rw[JQ]at fl;have h46:=bK e6;have h4:S.length < t6:=by have:S3.length<=t6:=ht6; omega
  have h7:S.length < t7:=by have:S4.length<=t7:=ht7; have:=k4.len; omega
  refine#[t7,(ie U (u++[x]) n p).map ay,λj Z S'=>(∃a7,Z=[gV R,gV (.ref q),gV (.tup [au u,ay p,ay r]),gV (.ref S.length),gV (ay x),gV (au (u++[x])),gV (.ref t6),a7])/\S'[S.length]?=gV (.lst (((ws.take i).flatMap (λx=>(ie U (u++[x]) n p).flatMap λh=>(ie U (u++[x]) n r).map λh'=>(u++[x],h,h'))++((ie U (u++[x]) n p).take j).flatMap λh=>(ie U (u++[x]) n r).map λh'=>(u++[x],h,h')).map cW))/\S'[t7]?=gV (.lst ((ie U (u++[x]) n p).map ay))/\S'[t6]?=gV (.lst ((ie U (u++[x]) n r).map ay))/\S'[t]?=gV (.lst (ws.map ay))/\Ka S S',rfl,#[#[_,rfl],by rw[OC,P8,Ky]; exact k5.get _ _ e4,e7,k5.get _ _ e6,k5.get _ _ t4,(k3.trans k4).trans k5],λ_ _ _ h=>h.2.2.1,?_,?_]
  ·rintro j w Z S6 hw ⟨⟨a7,rfl⟩,e8,f7,f6,ft,k8⟩;clear hK hn;rw[Jl,Jf]at hw;obtain⟨h,hh,rfl⟩:=hw;have hjl:j < (ie U (u++[x]) n p).length:=(Jz.mp hh).1;refine ab (show eQ (.nm 7) (ay h) [gV R,gV (.ref q),gV (.tup [au u,ay p,ay r]),gV (.ref S.length),gV (ay x),gV (au (u++[x])),gV (.ref t6),a7] S6=gV ([gV R,gV (.ref q),gV (.tup [au u,ay p,ay r]),gV (.ref S.length),gV (ay x),gV (au (u++[x])),gV (.ref t6),gV (ay h)],S6)from rfl) ?_
   intro Q4 hn4 _;refine st ?_;left;refine#[cK e8,?_];refine rh (ie U (u++[x]) n r) ay (λ_=>true) (λh'=>cW (u++[x],h,h')) [gV (au (u++[x])),gV (ay h)] rfl rfl rfl rfl ∅ #[t6,rfl,f6,.refl] (λh' _ S7 k7=>?_) λS7 k7=>?_
   ·dsimp only[ig,wC,wE,wA,wV,wG];exact#[λ_=>#[rfl,rfl,.refl],λz=>by cases z]
   ·rw[gk];have kk:=k7.trans (Ka.push (o:=O.lst ((ie U (u++[x]) n r).map λh'=>cW (u++[x],h,h'))))
    have gl:=iX (F:=λh=>(ie U (u++[x]) n r).map λh'=>(u++[x],h,h')) (m:=3) (λh=>by rw[Jb]; omega) ((ie U (u++[x]) n p).take j)
    rw[JQ]at gl;refine Gq (kk.get _ _ e8) ah ?_ (aR (hn4 _ _ #[#[_,rfl],?_,?_,?_,?_,(k8.trans kk).late (Jo _)]))
    ·rw[Jb,Je,Jb];omega
    ·rw[bg (kk.get _ _ e8),JV,hh];simp[LB,JI,cW,PK]
    ·rw[aY ∅]; exact kk.get _ _ f7
    ·rw[aY ∅]; exact kk.get _ _ f6
    ·rw[aY ∅]; exact kk.get _ _ ft
  ·rintro Z S6 ⟨⟨a7,rfl⟩,e8,f7,f6,ft,k8⟩;rw[Jb,J5]at e8;refine hK _ _ (aR (hn _ _ #[#[_,_,_,_,rfl],?_,ft,k8]));rw[eD,LB,List.flatMap_singleton];exact e8
 ·rintro Z S3 ⟨⟨a4,a5,a6,a7,rfl⟩,e3,t3,k3⟩;rw[Jb,J5]at e3;refine hK _ _ (st ?_);dsimp only[wS,wE,wV,wG];exact k _ _ e3 (Jo _) k3
end
abbrev bE:Ss:=
 #v[.set 4 (.sl (.own "all_bars" 5 #v[.v 0,.v 1,.ix (.v 2) (.c (.int 0)),.ix (.v 2) (.c (.int 1)),.ix (.v 2) (.c (.int 2))]) .no (.yes (.v 3))),.ite (.cmp .notin (.c .non) (.v 4)) #v[.ret (.v 2)] .nil,.set 5 (.me .index (.v 4) #v[.c .non]),.loop (.nm 6) (.seq (.own "longer_by_a_point" 3 #v[.v 0,.v 1,.v 2])) #v[.ite (.cmp .isnot (.ix (.own "all_bars" 5 #v[.v 0,.v 1,.ix (.v 6) (.c (.int 0)),.ix (.v 6) (.c (.int 1)),.ix (.v 6) (.c (.int 2))]) (.v 5)) (.c .non)) #v[.set 7 (.own "unfilled_behind" 4 #v[.v 0,.v 1,.v 6,.v 3]),.ite (.cmp .isnot (.v 7) (.c .non)) #v[.ret (.v 7)] .nil] .nil],.ret (.c .non)]
abbrev cp:Ss:=
 #v[.set 2 (.own "barred_threes" 1 #v[.v 0]),.loop (.nm 3) (.rng #v[.bi .len #v[.ix (.v 0) (.c (.int 0))]]) #v[.loop (.nm 4) (.rng2 #v[.v 3,.bi .len #v[.ix (.v 0) (.c (.int 0))]]) #v[.set 5 (.own "unfilled_behind" 4 #v[.v 0,.v 2,.tup #v[.tup .nil,.tup #v[.v 3,.tup .nil],.tup #v[.v 4,.tup .nil]],.v 1]),.ite (.cmp .isnot (.v 5) (.c .non)) #v[.ret (.v 5)] .nil]],.ret (.c .non)]
abbrev iY:Ss:=
 #v[.ret (.own "first_unfilled" 2 #v[.v 0,.op .add (.bi .len #v[.ix (.v 0) (.c (.int 1))]) (.c (.int 1))])]
abbrev gy:Ss:=
 #v[.ret (.own "first_unfilled" 2 #v[.v 0,.bi .len #v[.ix (.v 0) (.c (.int 1))]])]
def qf {U:Ja (T×W)}{bs:Ja Jk}{a k:Jg}{u:Wd}{p q:Pt}{i:Jg}(h1:GoodP a k u.length p)(h2:GoodP a k u.length q)(hi:i<=bs.length):∃w,(fJ (λv p=>cw U v p u.length (u.length+1)) bs u p q)[i]?=gV w/\NI w/\Gv w = !aT U bs u p q i:=by
 by_cases hn:i < bs.length
 ·refine#[bX (λk=>cw U (cR bs u p q i) k u.length (u.length+1)) u.length,?_,jI _ _,?_]
  ·unfold fJ;rw[JZ (by rw[Jb,JS]; exact hn),Jl,LA hn]; rfl
  ·unfold aT;rw[JK hn,mQ,List.not_any_eq_all_not];rw[KR,JB,JB];have key:∀k∈Jw u.length,cw U (cR bs u p q i) k u.length (u.length+1)=bd U (gQ u p q (bs.getD i 0) k):=λk hk=>by
    unfold cw bd;rw[rE h1 h2 (Jt.mp hk)]
   exact#[λh k hk=>by rw[<- key k hk]; exact h k hk,λh k hk=>by rw[key k hk]; exact h k hk]
 ·obtain rfl:i=bs.length:=∅
  refine#[iV p q,?_,rA _ _,?_]
  ·unfold fJ;rw[J9 (by rw[Jb,JS]; exact Jo _),Jb,JS,Mc]; rfl
  ·unfold aT;rw[JU hn,PM];unfold iV lF
   by_cases e:p.1=q.1
   ·rw[JK e,mQ,h1.len,e,Kr,LI];congr 1
    funext p
    rw[PM]
   ·rw[JU e,show(p.1==q.1)=false by simpa using e]; rfl
def ox {w:W}(h:NI w):jz w .non=Gv w:=by
 rcases h with rfl|⟨i,rfl⟩ <;> rfl
def vk {Yq:Ja W}{c:Jg}{f:Jg->JL}(hl:Yq.length=c)(h:∀i < c,∃w,Yq[i]?=gV w/\NI w/\Gv w = !f i):(∀w∈Yq,NI w)/\(((Yq.any λz=>jz z .non)=false/\∀i < c,f i=true)\/∃i < c,(Yq.any λz=>jz z .non)=true/\(Yq.findIdx? λz=>jz z .non)=gV i/\f i=false/\∀j < i,f j=true):=by
 have ni:∀w∈Yq,NI w:=λw hw=>by
  obtain⟨i,hi,e⟩:=M8 hw;obtain⟨w',h1,h2,_⟩:=h i ∅
  rw[Ju hi,e]at h1;cases h1; exact h2
 refine#[ni,?_];cases hf:Yq.findIdx? λz=>jz z .non with
 | none=>
  rw[List.findIdx?_eq_none_iff]at hf;refine .inl #[PL.mpr λx hx=>by rw[hf x hx]; exact JF,λi hi=>?_]
  obtain⟨w,h1,h2,h3⟩:=h i hi;have:=hf w (Jq h1);rw[ox h2,h3]at this
  simpa using this
 | some i=>
  obtain⟨hi,h1,h0⟩:=LN.mp hf;obtain⟨w,h2,h3,h4⟩:=h i ∅
  rw[Ju hi]at h2;cases h2;rw[ox h3,h4]at h1;refine .inr #[i,∅,Lm.mpr #[_,Kg hi,by rw[ox h3,h4]; exact h1],rfl,by simpa using h1,λj hj=>?_]
  obtain⟨w,w2,w3,w4⟩:=h j ∅
  have:=h0 j hj;rw[Ju ∅]at w2
  cases w2;rw[ox w3,w4]at this
  simpa using this
def tJ {Yq:Ja W}(h:∀w∈Yq,NI w):Yq.all bB=true:=JB.mpr λw hw=>by
 rcases h w hw with rfl|⟨i,rfl⟩ <;> rfl
def yW {S:aa}{Yq:Ja W}(h:∀w∈Yq,NI w):aP .notin .non (.tup Yq) S=gV (.bl (!(Yq.any λz=>jz z .non)),S):=by
 have hf:(bB .non&&Yq.all bB)=true:=by rw[tJ h]; rfl
 simp only[aP,dC,ud,Ae,eN,hf,LV,J4]
def yX {S:aa}{w:W}(h:NI w):aP .isnot w .non S=gV (.bl (!Gv w),S):=by
 rcases h with rfl|⟨i,rfl⟩ <;> rfl
def BI {S:aa}{Yq:Ja W}{i:Jg}{Q:QW}(h:∀w∈Yq,NI w)(hi:(Yq.findIdx? λz=>jz z .non)=gV i)(q:Q (.int (i:Jk),S)):wO (Me.index.fn (.tup Yq) [.non] S) Q:=by
 refine ab ?_ q;show iB (.tup Yq) [.non] S=_;simp only[iB,tJ h,LV,hi,J4]
abbrev dk (U:Ja (T×W))(bs:Ja Jk)(a c:Jg):Jg->Wd×Pt×Pt->Ji (Wd×Pt×Pt)
 | 0,x=>match (Jw c).find? λi=>!aT U bs x.1 x.2.1 x.2.2 i with
  | none=>gV x
  | some _=>td
 | m+1,x=>match (Jw c).find? λi=>!aT U bs x.1 x.2.1 x.2.2 i with
  | none=>gV x
  | some i=>(gR U a bs.length x.1 x.2.1 x.2.2).findSome? λy=>if aT U bs y.1 y.2.1 y.2.2 i then dk U bs a c m y else td
abbrev GC:Ji (Wd×Pt×Pt)->W
 | none=>.non
 | some x=>cW x
def qg {U:Ja (T×W)}{bs:Ja Jk}{a c m:Jg}{u:Wd}{p r:Pt}(h:∀i < c,aT U bs u p r i=true):dk U bs a c m (u,p,r)=gV (u,p,r):=by
 have e:((Jw c).find? λi=>!aT U bs u p r i)=td:=LL.mpr λi hi=>by rw[h i (Jt.mp hi)]; exact JF
 cases m <;> (unfold dk; dsimp only; rw[e])
def yY {U:Ja (T×W)}{bs:Ja Jk}{a c m i:Jg}{u:Wd}{p r:Pt}(hi:i < c)(h:aT U bs u p r i=false)(h0:∀j < i,aT U bs u p r j=true):dk U bs a c (m+1) (u,p,r)=(gR U a bs.length u p r).findSome? λy=>if aT U bs y.1 y.2.1 y.2.2 i then dk U bs a c m y else td:=by
 have e:((Jw c).find? λi=>!aT U bs u p r i)=gV i:=ic (P:=λi=>!aT U bs u p r i) hi (by rw[h]; rfl) λj hj=>by rw[h0 j hj]; rfl
 rw[dk];dsimp only;rw[e]
def BJ {α β:Type}{L:Ja α}{G:α->Ji β}{j:Jg}{x:α}{z:β}(hx:L[j]?=gV x)(h0:∀y∈L.take j,G y=td)(h1:G x=gV z):L.findSome? G=gV z:=by
 obtain⟨hj,e⟩:=Jz.mp hx;have:L=L.take j++x::L.drop (j+1):=by
  conv=>lhs; rw[<- Mk j L]
  rw[List.drop_eq_getElem_cons hj,e]
 rw[this,List.findSome?_append,Np.mpr h0,List.findSome?_cons,h1]; rfl
abbrev IA (a:Jg)(bs:Ja Jk)(U:Ja (T×W))(c:Jg)(u:Wd)(p q:Pt)(w:W):Prop:=(w=.non/\gx a bs U c u p q)\/∃x:Wd×Pt×Pt,w=cW x/\Cf a bs.length U x.1 x.2.1 x.2.2/\Full U bs c x.1 x.2.1 x.2.2/\x.1.length<=c
section
variable{defs:Ja (JG×Df)}{fuel:Jg}
def rK (F:Fil defs)(X:Sea defs)(hg:Is defs ("unfilled_behind" : JG) 4 8 bE){ms:Ja W}{b0:W}{ns:Ja JG}{bs:Ja Jk}{a q c:Jg}{U:Ja (T×W)}(hb:GoodB bs)(hnl:ns.length=bs.length)(hml:ms.length=a)(ha3:a<=3)(cl:Cl bs U)(hc1:c<=bs.length+1) :
  ∀(m d:Jg) (S:aa) (Q:QW) (u:Wd) (p r:Pt),Cf a bs.length U u p r->tH U bs c u p r<=m->u.length+m<=c->S[q]?=gV (.dic U)->(∀w S',IA a bs U c u p r w->w=GC (dk U bs a c m (u,p,r))->Ka S S'->Q (w,S'))->
  wO (aF (ar defs fuel (d+m+5)) "unfilled_behind" 4 [.tup [.tup ms,.tup (JA aE ns bs),b0],.ref q,.tup [au u,ay p,ay r],.int (c:Jk)] S) Q:=by
 have hb3:bs.length<=3:=by rcases hb with rfl|rfl|rfl|rfl|rfl|rfl <;> decide
 have zl:(JA aE ns bs).length=bs.length:=by rw[KJ,hnl]; omega
 intro m
 induction m with
 | zero=>?_
 | succ m ih=>?_
 all_goals
  intro d S Q u p r hC hleft hlen e k;refine aw hg rfl rfl λQ' hR=>?_
  replace k:=λw S' x z y=>hR _ _ (k w S' x z y)
  clear hR;show wZ _ _ bE [gV (.tup [.tup ms,.tup (JA aE ns bs),b0]),gV (.ref q),gV (.tup [au u,ay p,ay r]),gV (.int (c:Jk)),td,td,td,td] S Q';dsimp only[bE];nofun
  dsimp only[wS,wE,wA,wP,wV,wG,Jr];refine ae #v[] rfl (ae #v[] rfl (ae #v[] rfl ?_))
  have bl:(fJ (λv p=>cw U v p u.length (u.length+1)) bs u p r).length=bs.length+1:=ve
  have lk:=vk (c:=c) (Yq:=(fJ (λv p=>cw U v p u.length (u.length+1)) bs u p r).take c) (f:=aT U bs u p r) (by rw[JQ]; omega) (λi hi=>by rw[Pe,JK hi]; exact qf hC.gp hC.gq ∅)
  refine lE F hb hnl hC.gu hC.gp hC.gq ∅ e λS1 k1=>?_
  dsimp only[wN];refine ab (show lP (.tup (fJ (λv p=>cw U v p u.length (u.length+1)) bs u p r)) td (gV (c:Jk)) S1=gV (.tup ((fJ (λv p=>cw U v p u.length (u.length+1)) bs u p r).take c),S1) by simp only[lP,d8]) ?_
  refine hK _ _ ?_;clear hK K;generalize(fJ (λv p=>cw U v p u.length (u.length+1)) bs u p r).take c=Yq at lk
  clear bl;obtain⟨ni,lk⟩:=lk;nofun
  dsimp only[wS,wT,wE,wV,wG];refine ab (yW ni) ?_;dsimp only[wB]
 ·rcases lk with⟨h1,h2⟩|⟨i,hi,_,_,h4,_⟩
  ·rw[h1];refine aj (Q0:=Q') (λ_ Q2 _ hr=>?_) (λz=>by cases z)
   refine st ?_;dsimp only[wS,wE,wV,wG];exact hr _ _ (k _ _ (.inr #[(u,p,r),rfl,hC,h2,by show u.length<=c; omega]) (by rw[qg h2]; rfl) k1)
  ·have:0 < tH U bs c u p r:=N7 (KG.mpr #[Jt.mpr hi,by rw[h4]; rfl])
   omega
 ·rcases lk with⟨h1,h2⟩|⟨i,hi,h1,h3,h4,h5⟩
  ·rw[h1];refine aj (Q0:=Q') (λ_ Q2 _ hr=>?_) (λz=>by cases z)
   refine st ?_;dsimp only[wS,wE,wV,wG];exact hr _ _ (k _ _ (.inr #[(u,p,r),rfl,hC,h2,by show u.length<=c; omega]) (by rw[qg h2]; rfl) k1)
  ·rw[h1];refine aj (Q0:=Q') (λz=>by cases z) (λ_ Q2 hn _=>aR (hn _ _ (hK _ _ ?_)))
   clear hn hK K;nofun
   left;refine#[rfl,BI ni h3 (hK _ _ ?_)];clear hK K;nofun
   refine c9 rfl rfl ?_;dsimp only[wE,wA,wV,wG];refine rJ (d:=d+m+1) X hml zl ha3 hb3 hC ∅ (k1.get _ _ e) λl S2 e2 hl2 k2=>?_
   have ho:=λ(x:Wd×Pt×Pt) (hx:x∈gR U a bs.length u p r)=>BG (bs:=bs) hC hx
   have hns:(∀x∈gR U a bs.length u p r,aT U bs x.1 x.2.1 x.2.2 i=true->gx a bs U c x.1 x.2.1 x.2.2)->gx a bs U c u p r:=Ej hb cl hi h4;rw[yY hi h4 h5]at k;generalize gR U a bs.length u p r=L at e2 ho hns k;refine#[l,L.map cW,λj Z S'=>(∃a6 a7,Z=[gV (.tup [.tup ms,.tup (JA aE ns bs),b0]),gV (.ref q),gV (.tup [au u,ay p,ay r]),gV (.int (c:Jk)),gV (.tup Yq),gV (.int (i:Jk)),a6,a7])/\(∀x∈L.take j,aT U bs x.1 x.2.1 x.2.2 i=true->gx a bs U c x.1 x.2.1 x.2.2/\dk U bs a c m x=td)/\S'[l]?=gV (.lst (L.map cW))/\Ka S S',rfl,#[#[_,_,rfl],(λx hx=>by cases hx),e2,k1.trans k2],λ_ _ _ h=>h.2.2.1,?_,?_]
   ·rintro j w Z S3 hw ⟨⟨a6,a7,rfl⟩,hno,e3,k3⟩;clear hK;rw[Jl,Jf]at hw;obtain⟨x,hx,rfl⟩:=hw;obtain⟨xC,xl,xh⟩:=ho x (Jq hx);have more:(aT U bs x.1 x.2.1 x.2.2 i=true->gx a bs U c x.1 x.2.1 x.2.2/\dk U bs a c m x=td)->∀y∈L.take (j+1),aT U bs y.1 y.2.1 y.2.2 i=true->gx a bs U c y.1 y.2.1 y.2.2/\dk U bs a c m y=td:=λh y hy=>by
     rw[JV,hx]at hy;rcases JN.mp hy with z|z
     ·exact hno y z
     ·obtain rfl:y=x:=by simpa using z
      exact h
    refine ab (show eQ (.nm 6) (cW x) [gV (.tup [.tup ms,.tup (JA aE ns bs),b0]),gV (.ref q),gV (.tup [au u,ay p,ay r]),gV (.int (c:Jk)),gV (.tup Yq),gV (.int (i:Jk)),a6,a7] S3=gV ([gV (.tup [.tup ms,.tup (JA aE ns bs),b0]),gV (.ref q),gV (.tup [au u,ay p,ay r]),gV (.int (c:Jk)),gV (.tup Yq),gV (.int (i:Jk)),gV (.tup [au x.1,ay x.2.1,ay x.2.2]),a7],S3)from rfl) ?_
    intro Q3 hn3 hr3;nofun
    dsimp only[wS,wT,wE,wA,wV,wG];refine ae #v[] rfl (ae #v[] rfl (ae #v[] rfl ?_))
    refine lE (d:=d+m+2) F hb hnl xC.gu xC.gp xC.gq ∅ (k3.get _ _ e) λS4 k4=>?_
    obtain⟨w,w1,w2,w3⟩:=qf (bs:=bs) (i:=i) (U:=U) xC.gp xC.gq ∅
    refine ae (Jp i) (by rw[JC]; exact w1) (ab (yX w2) ?_)
    dsimp only[wB];rw[w3,PM];refine aj (Q0:=Q3) (λhh Q5 hn5 hr5=>?_) (λhh Q5 hn5 _=>aR (hn5 _ _ (hK _ _ (aR (hn3 _ _ #[#[_,_,rfl],more (λz=>by rw[z]at hh; cases hh),k4.get _ _ e3,k3.trans k4])))))
    refine st ?_;left;refine ih d _ _ x.1 x.2.1 x.2.2 xC ?_ ∅ ((k3.trans k4).get _ _ e) λw S5 hw hwe k5=>?_
    ·have:=BF (c:=c) hi xh h4 hh;unfold tH at hleft ⊢;omega
    refine aG λK2 hK2=>?_
    dsimp only[wS,wT,wE,wV,wG];have hun:∀z,dk U bs a c m x=gV z->w=cW z:=λz hz=>by rw[hwe,hz]; rfl
    rcases hw with⟨rfl,hw⟩|⟨y,rfl,y1⟩
    ·refine ab (show aP .isnot .non .non S5=gV (.bl false,S5)from rfl) ?_
     dsimp only[wB];exact aj (Q0:=Q5) (λz=>by cases z) (λ_ Q6 hn6 _=>aR (hn6 _ _ (hK2 _ _ (aR (hn5 _ _ (hK _ _ (aR (hn3 _ _ #[#[_,_,rfl],more λ_=>#[hw,by cases hz:dk U bs a c m x with|none=>rfl|some z=>exact nomatch hun z hz],(k4.trans k5).get _ _ e3,(k3.trans k4).trans k5]))))))))
    ·refine ab (show aP .isnot (cW y) .non S5=gV (.bl true,S5)from rfl) ?_
     dsimp only[wB];refine aj (Q0:=Q5) (λ_ Q6 _ hr6=>?_) (λz=>by cases z)
     refine st ?_;dsimp only[wS,wE,wV,wG];exact hr6 _ _ (hr5 _ _ (hr3 _ _ (k _ _ (.inr #[y,rfl,y1]) (by
      rw[hwe];cases hz:dk U bs a c m x with
      | none=>rw[hz]at hwe; cases hwe
      | some z=>rw[BJ hx (λy' hy'=>by cases hq:aT U bs y'.1 y'.2.1 y'.2.2 i with|true=>rw[JK rfl]; exact(hno y' hy' hq).2|false=>rfl) (by rw[hh,JK rfl]; exact hz)]) ((k3.trans k4).trans k5))))
   ·rintro Z S3 ⟨⟨a6,a7,rfl⟩,hno,e3,k3⟩;rw[Jb,J5]at hno;refine hK _ _ (st ?_);dsimp only[wS,wE];exact k _ _ (.inl #[rfl,hns λx hx hq=>(hno x hx hq).1]) (by rw[Np.mpr λy' hy'=>by cases hq:aT U bs y'.1 y'.2.1 y'.2.2 i with|true=>rw[JK rfl]; exact(hno y' hy' hq).2|false=>rfl]; rfl) k3
end
abbrev vB (a:Jg)(bs:Ja Jk)(U:Ja (T×W))(c:Jg)(w:W):Prop:=(w=.non/\¬ ou a bs U c)\/∃x:Wd×Pt×Pt,w=cW x/\Cf a bs.length U x.1 x.2.1 x.2.2/\Full U bs c x.1 x.2.1 x.2.2/\x.1.length<=c
abbrev BK (a:Jg)(bs:Ja Jk)(U:Ja (T×W))(c:Jg)(w:W):Prop:=(w=.non/\∀i j:Jg,i<=j->j < a->dk U bs a c c ([],((i:Jk),[]),((j:Jk),[]))=td)\/∃i j:Jg,i<=j/\j < a/\(∃y,w=cW y/\dk U bs a c c ([],((i:Jk),[]),((j:Jk),[]))=gV y)/\∀i' j':Jg,i'<=j'->j' < a->(i' < i\/(i'=i/\j' < j))->dk U bs a c c ([],((i':Jk),[]),((j':Jk),[]))=td
def vm {U U':Ja (T×W)}{a n:Jg}{u:Wd}{p q:Pt}(hn:0 < n)(h:∀t,(aJ U t).isSome=(aJ U' t).isSome):gR U a n u p q=gR U' a n u p q:=by
 unfold gR ie gP cw;rw[rm hn h];simp only[h]
def eZ {U U':Ja (T×W)}{bs:Ja Jk}{u:Wd}{p q:Pt}{i:Jg}(h:∀t,(aJ U t).isSome=(aJ U' t).isSome):aT U bs u p q i=aT U' bs u p q i:=by
 unfold aT bd;simp only[h]
def mU {U U':Ja (T×W)}{a c:Jg}{bs:Ja Jk}(hn:0 < bs.length)(h:∀t,(aJ U t).isSome=(aJ U' t).isSome):∀(m:Jg) (x:Wd×Pt×Pt),dk U bs a c m x=dk U' bs a c m x
 | 0,x=>by
  have e:(λi=>!aT U bs x.1 x.2.1 x.2.2 i)=λi=>!aT U' bs x.1 x.2.1 x.2.2 i:=funext λi=>by rw[eZ h]
  rw[dk,dk,e]
 | m+1,x=>by
  have e:(λi=>!aT U bs x.1 x.2.1 x.2.2 i)=λi=>!aT U' bs x.1 x.2.1 x.2.2 i:=funext λi=>by rw[eZ h]
  rw[dk,dk,e];cases(Jw c).find? λi=>!aT U' bs x.1 x.2.1 x.2.2 i with
  | none=>rfl
  | some i=>
   dsimp only;rw[vm hn h];congr 1
   funext y
   rw[eZ h,mU hn h m y]
def qh {U U':Ja (T×W)}{a c:Jg}{bs:Ja Jk}{w w':W}(hn:0 < bs.length)(h:∀t,(aJ U t).isSome=(aJ U' t).isSome)(h1:BK a bs U c w)(h2:BK a bs U' c w'):w=w':=by
 have e:=mU (a:=a) (c:=c) hn h c;rcases h1 with⟨rfl,h1⟩|⟨i,j,ij,ja,⟨y,rfl,hy⟩,h1⟩
 ·rcases h2 with⟨rfl,_⟩|⟨i,j,ij,ja,⟨y,rfl,hy⟩,_⟩
  ·rfl
  ·rw[<- e,h1 i j ij ja]at hy; cases hy
 ·rcases h2 with⟨rfl,h2⟩|⟨i',j',ij',ja',⟨y',rfl,hy'⟩,h2⟩
  ·rw[e,h2 i j ij ja]at hy; cases hy
  ·by_cases lt:i < i'\/(i=i'/\j < j')
   ·rw[e,h2 i j ij ja lt]at hy; cases hy
   ·by_cases gt:i' < i\/(i'=i/\j' < j)
    ·rw[<- e,h1 i' j' ij' ja' gt]at hy'; cases hy'
    ·obtain rfl:i=i':=∅
     obtain rfl:j=j':=∅
     rw[e,hy']at hy;rw[Ku hy]
def tK {u v:Wd}(h:au u=au v):u=v:=by
 have:=congrArg W.t h;rw[xS,xS]at this;exact dO (Ku this)
def tL {p q:Pt}(h:ay p=ay q):p=q:=by
 have:au [p]=au [q]:=by
  show W.tup [ay p]=W.tup [ay q];rw[h]
 exact R9 (tK this) |>.1
def Ek {x y:Wd×Pt×Pt}(h:cW x=cW y):x=y:=by
 obtain⟨u,p,q⟩:=x;obtain⟨u',p',q'⟩:=y;unfold cW at h;simp only[W.tup.injEq,Om,Rz]at h;obtain⟨h1,h2,h3⟩:=h;rw[tK h1,tL h2,tL h3]
def El {a n i j:Jg}{U:Ja (T×W)}(hi:i < a)(hj:j < a):Cf a n U [] ((i:Jk),[]) ((j:Jk),[]):=
 #[.nil,λk hk=>(by cases hk),#[#[Jp _,by show(i:Jk) < a; omega],rfl,λw hw=>nomatch hw],rfl,#[#[Jp _,by show(j:Jk) < a; omega],rfl,λw hw=>nomatch hw],rfl]
section
variable{defs:Ja (JG×Df)}{fuel d:Jg}{S:aa}{Q:QW}
structure Unl (defs:Ja (JG×Df)):Prop where
 fil:Fil defs
 sea:Sea defs
 behind:Is defs ("unfilled_behind" : JG) 4 8 bE
 first:Is defs ("first_unfilled" : JG) 2 6 cp
 unlaid:Is defs ("unlaid" : JG) 1 1 iY
def fe (hfu:20 < fuel)(L:Unl defs){ms:Ja W}{ns:Ja JG}{bs:Ja Jk}{a c:Jg}{gs:Ja Wd}(hb:GoodB bs)(hnl:ns.length=bs.length)(hml:ms.length=a)(ha3:a<=3)(hgs:∀g∈gs,GoodW a bs.length g/\g.length=3)(h64:gs.length<=100)(hc:bs.length<=c)(hc1:c<=bs.length+1)
  (k:∀w U S',HasD U (aM bs gs)->vB a bs U c w->BK a bs U c w->Ka S S'->Q (w,S')) :
  wO (aF (ar defs fuel (d+c+6)) "first_unfilled" 2 [.tup [.tup ms,.tup (JA aE ns bs),.tup (gs.map au)],.int (c:Jk)] S) Q:=by
 refine aw L.first rfl rfl λQ' hR=>?_
 replace k:∀w U S',HasD U (aM bs gs)->vB a bs U c w->BK a bs U c w->Ka S S'->Q' (.rt w,S'):=λw x S' h1 h2 h3 h4=>hR _ _ (k w x S' h1 h2 h3 h4)
 clear hR;show wZ _ _ cp [gV (.tup [.tup ms,.tup (JA aE ns bs),.tup (gs.map au)]),gV (.int (c:Jk)),td,td,td,td] S Q';dsimp only[cp];nofun
 left;refine yE (d:=d+c+1) hfu L.fil.parts L.fil.part L.fil.longer L.fil.barred hb hnl hgs h64 λq U S1 e1 h1 _ k1=>hK _ _ ?_
 clear hK K;have cl:=Gz hb hgs h1;have hk:∀w S',vB a bs U c w->BK a bs U c w->Ka S S'->Q' (.rt w,S'):=λw S'=>k w U S' h1
 have un:∀(i j:Jg) (S:aa) (Q:QW),i < a->j < a->S[q]?=gV (.dic U)->(∀w S',IA a bs U c [] ((i:Jk),[]) ((j:Jk),[]) w->w=GC (dk U bs a c c ([],((i:Jk),[]),((j:Jk),[])))->Ka S S'->Q (w,S'))->wO (aF (ar defs fuel (d+c+5)) "unfilled_behind" 4 [.tup [.tup ms,.tup (JA aE ns bs),.tup (gs.map au)],.ref q,.tup [.tup [],.tup [.int i,.tup []],.tup [.int j,.tup []]],.int (c:Jk)] S) Q:=λi j S Q hi hj e h=>rK L.fil L.sea L.behind hb hnl hml ha3 cl hc1 c d S Q [] ((i:Jk),[]) ((j:Jk),[]) (El hi hj) (by
  unfold tH;exact JY (K4 _ _) (by rw[JS]; exact Jo _)) (by simp) e h
 have la:∀(S:aa) (Q:QW),Q (.int (a:Jk),S)->wO (jP (.tup [.tup ms,.tup (JA aE ns bs),.tup (gs.map au)]) (.int 0) S) λp=>wO (Bi.len.fn [p.1] p.2) Q:=λS Q q=>by
  refine ae #v[] rfl (aD ?_)
  rw[hml]; exact q
 clear k;generalize W.tup [.tup ms,.tup (JA aE ns bs),.tup (gs.map au)]=R at un la;nofun
 refine bC (a:Jk) (λi Z S'=>(∃a3 a4 a5,Z=[gV R,gV (.int (c:Jk)),gV (.ref q),a3,a4,a5])/\(∀i' j',i' < i->i'<=j'->j' < a->gx a bs U c [] ((i':Jk),[]) ((j':Jk),[])/\dk U bs a c c ([],((i':Jk),[]),((j':Jk),[]))=td)/\S'[q]?=gV (.dic U)/\Ka S S') rfl rfl ∅ ?_ ?_ ?_
 ·dsimp only[wE,wA,wV,wG];exact la _ _ #[rfl,#[_,_,_,rfl],(λi' j' h=>∅),e1,k1]
 ·rintro i Z S2 hi ⟨⟨a3,a4,a5,rfl⟩,hno,e2,k2⟩ Q2 hn2 hr2;clear hK;have hia:i < a:=∅
  dsimp only[Jr];nofun
  refine dw (i:Jk) (a:Jk) (λm Z S'=>(∃a4 a5,Z=[gV R,gV (.int (c:Jk)),gV (.ref q),gV (.int i),a4,a5])/\(∀j',i<=j'->j' < i+m->gx a bs U c [] ((i:Jk),[]) ((j':Jk),[])/\dk U bs a c c ([],((i:Jk),[]),((j':Jk),[]))=td)/\S'[q]?=gV (.dic U)/\Ka S S') rfl rfl rfl ∅ ?_ ?_ ?_
  ·dsimp only[wE,wA,wV,wG];exact#[rfl,la _ _ #[rfl,#[_,_,rfl],(λj' h1 h2=>∅),e2,k2]]
  ·rintro m Z S3 hm ⟨⟨a4,a5,rfl⟩,hno3,e3,k3⟩ Q3 hn3 hr3;clear hK;rw[show(i:Jk)+m=((i+m:Jg):Jk) by omega]
   have hja:i+m < a:=∅
   generalize hj:i+m=j at hja;dsimp only[Jr];refine st ?_;left;refine un i j _ _ hia hja e3 λw S4 hw hwe k4=>?_
   nofun
   dsimp only[wS,wT,wE,wV,wG];rcases hw with⟨rfl,hw⟩|⟨y,rfl,y1⟩
   ·refine ab (show aP .isnot .non .non S4=gV (.bl false,S4)from rfl) ?_
    dsimp only[wB];refine aj (Q0:=Q3) (λz=>by cases z) (λ_ Q6 hn6 _=>aR (hn6 _ _ (hK _ _ (aR (hn3 _ _ #[#[_,_,rfl],λj' h1 h2=>?_,k4.get _ _ e3,k3.trans k4])))))
    by_cases ej:j'=j
    ·rw[ej];refine#[hw,?_];cases hz:dk U bs a c c ([],((i:Jk),[]),((j:Jk),[]))with
     | none=>rfl
     | some z=>rw[hz]at hwe; cases hwe
    ·exact hno3 j' h1 ∅
   ·refine ab (show aP .isnot (cW y) .non S4=gV (.bl true,S4)from rfl) ?_
    dsimp only[wB];refine aj (Q0:=Q3) (λ_ Q6 _ hr6=>?_) (λz=>by cases z)
    refine st ?_;dsimp only[wS,wE,wV,wG];exact hr6 _ _ (hr3 _ _ (hr2 _ _ (hk _ _ (.inr #[y,rfl,y1]) (.inr #[i,j,∅,hja,#[y,rfl,by
     cases hz:dk U bs a c c ([],((i:Jk),[]),((j:Jk),[]))with
     | none=>rw[hz]at hwe; cases hwe
     | some z=>rw[hz]at hwe; rw[Ek hwe]],λi' j' h1 h2 h3=>by
     rcases h3 with h3|⟨rfl,h3⟩
     ·exact(hno i' j' h3 h1 h2).2
     ·exact(hno3 j' h1 ∅).2]) (k3.trans k4))))
  ·rintro Z S3 ⟨⟨a4,a5,rfl⟩,hno3,e3,k3⟩;refine hK _ _ (aR (hn2 _ _ #[#[_,_,_,rfl],λi' j' h1 h2 h3=>?_,e3,k3]))
   by_cases ei:i'=i
   ·subst ei;exact hno3 j' h2 ∅
   ·exact hno i' j' ∅ h2 h3
 ·rintro Z S2 ⟨⟨a3,a4,a5,rfl⟩,hno,e2,k2⟩;refine hK _ _ (st ?_);dsimp only[wS,wE];refine hk _ _ (.inl #[rfl,GB hb cl hc λi j h1 h2 h3=>(hno i j ∅ h2 h3).1]) (.inl #[rfl,λi j h1 h2=>(hno i j ∅ h1 h2).2]) k2
def yZ (hfu:20 < fuel)(L:Unl defs){ms:Ja W}{ns:Ja JG}{bs:Ja Jk}{a:Jg}{gs:Ja Wd}(hb:GoodB bs)(hnl:ns.length=bs.length)(hml:ms.length=a)(ha3:a<=3)(hgs:∀g∈gs,GoodW a bs.length g/\g.length=3)(h64:gs.length<=100)
  (k:∀w U S',HasD U (aM bs gs)->vB a bs U (bs.length+1) w->BK a bs U (bs.length+1) w->Ka S S'->Q (w,S')) :
  wO (aF (ar defs fuel (d+11)) "unlaid" 1 [.tup [.tup ms,.tup (JA aE ns bs),.tup (gs.map au)]] S) Q:=by
 refine aw L.unlaid rfl rfl λQ' hR=>?_
 show wZ _ _ iY [gV (.tup [.tup ms,.tup (JA aE ns bs),.tup (gs.map au)])] S Q';have hb3:bs.length<=3:=by rcases hb with rfl|rfl|rfl|rfl|rfl|rfl <;> decide
 dsimp only[iY];refine st ?_;left;refine ae #v[] rfl (aD ?_)
 rw[KJ,hnl,LF];refine ab cO ?_;dsimp only;rw[show(bs.length:Jk)+1=((bs.length+1:Jg):Jk) by omega,show d+10=(d+3 - bs.length)+(bs.length+1)+6 by omega]
 exact fe hfu L hb hnl hml ha3 hgs h64 ∅ ∅ λw U S' h1 h2 h3 h4=>hR _ _ (k w U S' h1 h2 h3 h4)
def y4 (hfu:20 < fuel)(L:Unl defs)(hpo:Is defs ("put_on" : JG) 1 1 gy){ms:Ja W}{ns:Ja JG}{bs:Ja Jk}{a:Jg}{gs:Ja Wd}(hb:GoodB bs)(hnl:ns.length=bs.length)(hml:ms.length=a)(ha3:a<=3)(hgs:∀g∈gs,GoodW a bs.length g/\g.length=3)(h64:gs.length<=100)
  (k:∀w U S',HasD U (aM bs gs)->vB a bs U bs.length w->BK a bs U bs.length w->Ka S S'->Q (w,S')) :
  wO (aF (ar defs fuel (d+11)) "put_on" 1 [.tup [.tup ms,.tup (JA aE ns bs),.tup (gs.map au)]] S) Q:=by
 refine aw hpo rfl rfl λQ' hR=>?_
 show wZ _ _ gy [gV (.tup [.tup ms,.tup (JA aE ns bs),.tup (gs.map au)])] S Q';have hb3:bs.length<=3:=by rcases hb with rfl|rfl|rfl|rfl|rfl|rfl <;> decide
 dsimp only[gy];refine st ?_;left;refine ae #v[] rfl (aD ?_)
 rw[KJ,hnl,LF,show d+10=(d+4 - bs.length)+bs.length+6 by omega]
 exact fe hfu L hb hnl hml ha3 hgs h64 ∅ ∅ λw U S' h1 h2 h3 h4=>hR _ _ (k w U S' h1 h2 h3 h4)
end
def Ck {S:aa}{x y:Jk}(h0:0<=x)(h1:x < y):ud .le (.int 0) (.int x) S=gV true/\dC .lt (.int x) (.int y) S=gV (.bl true,S):=by
 refine#[?_,?_]
 ·show gV (decide (0<=x))=_;rw[Kf h0]
 ·show gV (W.bl (decide (x < y)),S)=_;rw[Kf h1]
section
variable{defs:Ja (JG×Df)}{fuel d:Jg}{S:aa}{Q:QW}
def GoodW.pt {a n k:Jg}{u:Wd}{p:Pt}(h:GoodW a n u)(hp:u[k]?=gV p):GoodP a n k p:=#[h.mark k p hp,h.len k p hp,h.way k p hp]
end
abbrev ff:Ss:=
 #v[.loop (.nm 3) (.rng2 #v[.c (.int 2),.bi .len #v[.v 2]]) #v[.ite (.not (.own "_law_last_may" 4 #v[.v 0,.v 1,.v 2,.v 3])) #v[.ret (.c (.bl false))] .nil],.ret (.c (.bl true))]
abbrev ce:Ss:=
 #v[.loop (.tp [2,3]) (.enu #v[.v 1]) #v[.ite (.or (.not (.isi "tuple" (.v 3))) (.or (.cmp .ne (.bi .len #v[.v 3]) (.c (.int 2))) (.or (.not (.isi "tuple" (.ix (.v 3) (.c (.int 1))))) (.cmp .ne (.bi .len #v[.ix (.v 3) (.c (.int 1))]) (.v 2))))) #v[.ret (.c (.bl false))] .nil,.set 5 (.op .add (.lst #v[.tup #v[.ix (.v 3) (.c (.int 0)),.bi .len #v[.ix (.v 0) (.c (.int 0))]]]) (.comp (.tup #v[.v 1,.bi .len #v[.ix (.v 2) (.c (.int 1))]]) (.nm 1) (.seq (.ix (.v 3) (.c (.int 1)))) .nil [td,td,gV 0])),.loop (.tp [4,6]) (.seq (.v 5)) #v[.ite (.or (.isi "bool" (.v 4)) (.or (.not (.isi "int" (.v 4))) (.not (.chn .le .lt (.c (.int 0)) (.v 4) (.v 6))))) #v[.ret (.c (.bl false))] .nil]],.ret (.c (.bl true))]
section
variable{defs:Ja (JG×Df)}{fuel d:Jg}{S:aa}{Q:QW}
def rL (hg:Is defs ("_law_last_may" : JG) 4 8 aH){R:W}{a n q k:Jg}{u:Wd}{U:Ja (T×W)}(hu:GoodW a n u)(hk:k < u.length)(hl:u.length<=1000)(e:S[q]?=gV (.dic U))(hm:bu U u k (u.getD k (0,[]))=true)(kk:Q (.bl true,S)) :
  wO (aF (ar defs fuel (d+1)) "_law_last_may" 4 [R,.ref q,au u,.int (k:Jk)] S) Q:=by
 refine aw hg rfl rfl λQ' hR=>?_
 replace kk:=hR _ _ kk;clear hR;show wZ _ _ aH [gV R,gV (.ref q),gV (au u),gV (.int (k:Jk)),td,td,td,td] S Q';have hh:(u.getD k (0,[])).2.length=k:=hu.len k _ (ak (d:=(0,[])) hk);have at':∀p < k,((u.map ay)[((p:Jg):Jk).toNat]?=gV (ay (u.getD p (0,[])))):=λp hp=>c8 ∅
 have hw:∀p < k,(ac (u.getD k (0,[])).2)[((p:Jg):Jk).toNat]?=gV (.int ((u.getD k (0,[])).2.getD p 0)):=λp hp=>by
  rw[JC]; unfold ac; rw[Jl,ak (d:=0) ∅]; rfl
 have hm:=ba.mp hm;dsimp only[aH];refine st ?_;dsimp only[wS,wE,wV,wG];refine ae (Jp _) (c8 hk) ?_;generalize u.getD k (0,[])=h at hh hw hm;dsimp only[wU,ay];refine ab (show c7 [4,5] [.int h.1,.tup (h.2.map W.int)] [gV R,gV (.ref q),gV (au u),gV (.int (k:Jk)),td,td,td,td]=gV [gV R,gV (.ref q),gV (au u),gV (.int (k:Jk)),gV (.int h.1),gV (.tup (ac h.2)),td,td]from rfl) ?_
 nofun
 refine dw 1 (k:Jk) (λm Z S'=>(∃a6 a7,Z=[gV R,gV (.ref q),gV (au u),gV (.int (k:Jk)),gV (.int h.1),gV (.tup (ac h.2)),a6,a7])/\S'=S) rfl rfl rfl ∅ #[rfl,rfl,#[_,_,rfl],rfl] ?_ ?_
 ·rintro m Z S1 hm1 ⟨⟨a6,a7,rfl⟩,rfl⟩ Q2 hn2 hr2;clear hK;rw[show(1:Jk)+m=((m+1:Jg):Jk) by omega]
  have hmu:m+1 < k:=∅
  generalize hj:m+1=j at hmu hn2;dsimp only[Jr];nofun
  refine bC (j:Jk) (λi Z S'=>(∃a7,Z=[gV R,gV (.ref q),gV (au u),gV (.int (k:Jk)),gV (.int h.1),gV (.tup (ac h.2)),gV (.int (j:Jk)),a7])/\S'=S1) rfl rfl ∅ #[rfl,#[_,rfl],rfl] ?_ ?_
  ·rintro i Z S2 hi ⟨⟨a7,rfl⟩,rfl⟩ Q3 hn3 hr3;clear hK;have hij:i < j:=∅
   have lj:i < (u.getD j (0,[])).2.length:=by rw[hu.len j _ (ak (d:=(0,[])) ∅)]; exact hij
   dsimp only[Jr];nofun
   dsimp only[wS,wT,wE,wA,wV,wG];refine ae (Jp i) (at' i ∅) (ae #v[] rfl (ae (Jp j) (at' j hmu) (ae #v[] rfl (ae (Jp j) (at' j hmu) (ae #v[] rfl (ae (w:=.int ((u.getD j (0,[])).2.getD i 0)) (Jp i) (by rw[JC,Jl,ak (d:=0) lj]; rfl) (ae (Jp i) (hw i ∅) (ae (Jp j) (hw j hmu) ?_))))))))
   refine ab (show aP .isin (au [((u.getD i (0,[])).1,[]),((u.getD j (0,[])).1,[(u.getD j (0,[])).2.getD i 0]),(h.1,[h.2.getD i 0,h.2.getD j 0])]) (.ref q) S2=gV (.bl (bG U u h i j),S2) by simp only[aP,bP e,jq]; rfl) ?_
   dsimp only[wB];rw[hm j hmu i hij];exact aj (Q0:=Q3) (λz=>by cases z) (λ_ Q5 hn5 _=>aR (hn5 _ _ (hK _ _ (aR (hn3 _ _ #[#[_,rfl],rfl])))))
  ·rintro Z S2 ⟨⟨a7,rfl⟩,rfl⟩;exact hK _ _ (aR (hn2 _ _ #[#[_,_,rfl],rfl]))
 ·rintro Z S1 ⟨⟨a6,a7,rfl⟩,rfl⟩;refine hK _ _ (st ?_);dsimp only[wS,wE];exact kk
def vn (hlm:Is defs ("_law_last_may" : JG) 4 8 aH)(hg:Is defs ("_law_may" : JG) 3 4 ff){R:W}{a n q:Jg}{u:Wd}{U:Ja (T×W)}(hu:GoodW a n u)(hl:u.length<=1000)(e:S[q]?=gV (.dic U))(hs:Std U u)(k:Q (.bl true,S)) :
  wO (aF (ar defs fuel (d+2)) "_law_may" 3 [R,.ref q,au u] S) Q:=by
 refine aw hg rfl rfl λQ' hR=>?_
 show wZ _ _ ff [gV R,gV (.ref q),gV (au u),td] S Q';have ul:(u.map ay).length=u.length:=Jb ..;dsimp only[ff];nofun
 refine dw 2 (u.length:Jk) (λm Z S'=>(∃a3,Z=[gV R,gV (.ref q),gV (au u),a3])/\S'=S) rfl rfl rfl ∅ ?_ ?_ ?_
 ·dsimp only[wE,wA,wV,wG];refine#[rfl,aD ?_];rw[ul];exact#[rfl,#[_,rfl],rfl]
 ·rintro m Z S1 hm ⟨⟨a3,rfl⟩,rfl⟩ Q2 hn2 _;clear hK;rw[show(2:Jk)+m=((m+2:Jg):Jk) by omega]
  have hmu:m+2 < u.length:=∅
  generalize hj:m+2=j at hmu hn2;dsimp only[Jr];nofun
  dsimp only[wS,wT,wE,wA,wV,wG];refine rL (d:=d) hlm hu hmu hl e (ba.mpr λy hy x hx=>hs j hmu y hy x hx) ?_
  refine ab (show cU S1 (.bl true)=gV true from rfl) ?_
  exact aj (Q0:=Q2) (λz=>by cases z) (λ_ Q5 hn5 _=>aR (hn5 _ _ (hK _ _ (aR (hn2 _ _ #[#[_,rfl],rfl])))))
 ·rintro Z S1 ⟨⟨a3,rfl⟩,rfl⟩;refine hK _ _ (st ?_);dsimp only[wS,wE];exact hR _ _ k
def lG (hg:Is defs ("_law_is_world" : JG) 2 7 ce){tx N:Ja W}{b0:W}{a n:Jg}{u:Wd}(hM:tx.length=a)(hN:N.length=n)(hu:GoodW a n u)(hl:u.length<=500)(k:∀S',Ka S S'->Q (.bl true,S')) :
  wO (aF (ar defs fuel (d+1)) "_law_is_world" 2 [.tup [.tup tx,.tup N,b0],au u] S) Q:=by
 refine aw hg rfl rfl λQ' hR=>?_
 replace k:∀S',Ka S S'->Q' (.rt (.bl true),S'):=λS' a=>hR _ _ (k S' a)
 clear hR;show wZ _ _ ce [gV (.tup [.tup tx,.tup N,b0]),gV (au u),td,td,td,td,td] S Q';have l0:∀(S:aa) (Q:QW),Q (.int (a:Jk),S)->wO (jP (.tup [.tup tx,.tup N,b0]) (.int 0) S) λp=>wO (Bi.len.fn [p.1] p.2) Q:=λS Q q=>by
  refine ae #v[] rfl (aD ?_)
  rw[hM]; exact q
 have l1:∀(S:aa) (Q:QW),Q (.int (n:Jk),S)->wO (jP (.tup [.tup tx,.tup N,b0]) (.int 1) S) λp=>wO (Bi.len.fn [p.1] p.2) Q:=λS Q q=>by
  refine ae #v[] rfl (aD ?_)
  rw[hN]; exact q
 generalize W.tup [.tup tx,.tup N,b0]=R at l0 l1;dsimp only[ce];nofun
 refine BA (u.map ay) (λi Z S'=>(∃a2 a3 a4 a5 a6,Z=[gV R,gV (au u),a2,a3,a4,a5,a6])/\Ka S S') rfl rfl #[rfl,#[_,_,_,_,_,rfl],.refl] ?_ ?_
 ·rintro i x Z S1 hx ⟨⟨a2,a3,a4,a5,a6,rfl⟩,k1⟩;clear hK;rw[Jl,Jf]at hx;obtain⟨p,hp,rfl⟩:=hx;have hi:i < u.length:=(Jz.mp hp).1;have gp:=hu.pt hp;refine ab (show eQ (.tp [2,3]) (.tup [.int i,ay p]) [gV R,gV (au u),a2,a3,a4,a5,a6] S1=gV ([gV R,gV (au u),gV (.int i),gV (.tup [.int p.1,.tup (p.2.map W.int)]),a4,a5,a6],S1)from rfl) ?_
  intro Q2 hn2 hr2;nofun
  dsimp only[wS,wT,wE,wA,wV,wG];refine ab (show uE S1 (.tup [.int p.1,.tup (p.2.map W.int)]) "tuple" = gV true from rfl) #[λz=>(by cases z),λ_=>?_]
  refine aD (ab uN #[λz=>(by cases z),λ_=>?_])
  refine ae #v[] rfl ?_
  refine ab (show uE S1 (.tup (p.2.map W.int)) "tuple" = gV true from rfl) #[λz=>(by cases z),λ_=>?_]
  refine ae #v[] rfl (aD (ab uN ?_))
  rw[Jb,gp.len,Kr];dsimp only[wB];refine aj (Q0:=Q2) (λz=>by cases z) (λ_ Q5 hn5 _=>aR (hn5 _ _ (hK _ _ ?_)))
  clear hn5 hK K;refine st ?_;left;refine ae #v[] rfl (l0 _ _ ?_)
  refine D8 p.2 W.int (λ_=>true) (λz=>.tup [.int z,.int (n:Jk)]) [gV R] rfl rfl rfl rfl (by rw[gp.len]; omega) ?_ (λz hz S3 k3=>?_) λS3 k3=>?_
  ·dsimp only[wE,wV,wG];exact ae #v[] rfl #[rfl,.refl]
  ·dsimp only[ig,wC,wE,wA,wV,wG];exact#[λ_=>l1 _ _ #[rfl,rfl,.refl],λz=>by cases z]
  rw[gk];dsimp only;have k3':=k1.trans (Ka.push.trans k3);have e1:=k3.get _ _ (ah (S:=S1) (o:=O.lst [.tup [.int p.1,.int (a:Jk)]]));refine ab (nU (aq e1) ah (eh (by rw[Je,Jb,gp.len]; show 1+_<=_; omega))) ?_
  have kk:=(k3'.trans (Ka.push (o:=O.lst (p.2.map λz=>W.tup [.int z,.int (n:Jk)])))).trans (Ka.push (o:=O.lst ([.tup [.int p.1,.int (a:Jk)]]++p.2.map λz=>W.tup [.int z,.int (n:Jk)])))
  have e5:(S3++[O.lst (p.2.map λz=>W.tup [.int z,.int (n:Jk)])]++[O.lst ([.tup [.int p.1,.int (a:Jk)]]++p.2.map λz=>W.tup [.int z,.int (n:Jk)])])[(S3++[O.lst (p.2.map λz=>W.tup [.int z,.int (n:Jk)])]).length]?=gV (O.lst ([.tup [.int p.1,.int (a:Jk)]]++p.2.map λz=>W.tup [.int z,.int (n:Jk)])):=ah
  generalize S3++[O.lst (p.2.map λz=>W.tup [.int z,.int (n:Jk)])]++[O.lst ([.tup [.int p.1,.int (a:Jk)]]++p.2.map λz=>W.tup [.int z,.int (n:Jk)])]=S5 at kk e5
  generalize(S3++[O.lst (p.2.map λz=>W.tup [.int z,.int (n:Jk)])]).length=t5 at e5
  nofun
  refine jX t5 ([.tup [.int p.1,.int (a:Jk)]]++p.2.map λz=>W.tup [.int z,.int (n:Jk)]) (λj Z S'=>(∃a4 a6,Z=[gV R,gV (au u),gV (.int i),gV (.tup [.int p.1,.tup (p.2.map W.int)]),a4,gV (.ref t5),a6])/\S'=S5) rfl rfl #[rfl,#[_,_,rfl],rfl] (λ_ _ _ h=>by rw[h.2]; exact e5) ?_ ?_
  ·rintro j w Z S6 hw ⟨⟨a4,a6,rfl⟩,rfl⟩;clear hK;obtain⟨z,y,rfl,z0,z1⟩ : ∃z y:Jk,w=.tup [.int z,.int y]/\0<=z/\z < y:=by
    rcases JN.mp (Jq hw)with h|h
    ·exact#[_,_,Jv.mp h,gp.mark.1,gp.mark.2]
    ·obtain⟨z,hz,rfl⟩:=Jy.mp h;exact#[_,_,rfl,(gp.way z hz).1,(gp.way z hz).2]
   refine ab (show eQ (.tp [4,6]) (.tup [.int z,.int y]) [gV R,gV (au u),gV (.int i),gV (.tup [.int p.1,.tup (p.2.map W.int)]),a4,gV (.ref t5),a6] S6=gV ([gV R,gV (au u),gV (.int i),gV (.tup [.int p.1,.tup (p.2.map W.int)]),gV (.int z),gV (.ref t5),gV (.int y)],S6)from rfl) ?_
   intro Q3 hn3 _;nofun
   dsimp only[wS,wT,wE,wA,wV,wG];refine ab (show uE S6 (.int z) "bool" = gV false from rfl) #[λz=>(by cases z),λ_=>?_]
   refine ab (show uE S6 (.int z) "int" = gV true from rfl) #[λz=>(by cases z),λ_=>?_]
   refine ab (Ck z0 z1).1 #[λ_=>ab (Ck z0 z1).2 ?_,λz=>by cases z]
   dsimp only[wB];exact aj (Q0:=Q3) (λz=>by cases z) (λ_ Q5 hn5 _=>aR (hn5 _ _ (hK _ _ (aR (hn3 _ _ #[#[_,_,rfl],rfl])))))
  ·rintro Z S6 ⟨⟨a4,a6,rfl⟩,rfl⟩;exact hK _ _ (aR (hn2 _ _ #[#[_,_,_,_,_,rfl],kk]))
 ·rintro Z S1 ⟨⟨a2,a3,a4,a5,a6,rfl⟩,k1⟩;refine hK _ _ (st ?_);dsimp only[wS,wE];exact k _ k1
end
abbrev da:Ss:=
 #v[.ite (.or (.not (.isi "tuple" (.v 2))) (.or (.cmp .ne (.bi .len #v[.v 2]) (.c (.int 3))) (.not (.isi "tuple" (.ix (.v 2) (.c (.int 0))))))) #v[.ret (.c (.bl false))] .nil,.asg [4,5,6] (.v 2),.loop (.nm 7) (.seq (.tup #v[.v 5,.v 6])) #v[.ite (.or (.not (.own "_law_is_world" 2 #v[.v 0,.op .add (.v 4) (.tup #v[.v 7])])) (.not (.own "_law_may" 3 #v[.v 0,.v 1,.op .add (.v 4) (.tup #v[.v 7])]))) #v[.ret (.c (.bl false))] .nil],.set 8 (.own "_law_fills" 5 #v[.v 0,.v 1,.v 4,.v 5,.v 6]),.ret (.or (.cmp .eq (.v 8) (.lst .nil)) (.and (.v 3) (.cmp .eq (.v 8) (.lst #v[.neg (.c (.int 1))]))))]
abbrev cq:Ss:=
 #v[.set 4 (.op .sub (.op .add (.bi .len #v[.ix (.v 0) (.c (.int 1))]) (.c (.int 1))) (.bi .int #v[.v 3])),.ret (.or (.cmp .is (.v 2) (.c .non)) (.and (.own "_law_unfilled" 4 #v[.v 0,.v 1,.v 2,.v 3]) (.cmp .le (.bi .len #v[.ix (.v 2) (.c (.int 0))]) (.v 4))))]
abbrev br:Ss:=
 #v[.loop (.nm 5) (.rng #v[.v 3]) #v[.asg [6,7,8] (.own "_law_pair" 4 #v[.v 0,.v 1,.v 2,.op .add (.c (.int 1)) (.own "_law_pick" 2 #v[.v 0,.c (.int 6)])]),.set 9 (.own "_law_fills" 5 #v[.v 1,.v 2,.v 6,.v 7,.v 8]),.ite (.or (.cmp .eq (.v 9) (.lst .nil)) (.and (.v 4) (.cmp .eq (.v 9) (.lst #v[.neg (.c (.int 1))])))) #v[.ret (.c (.bl false))] .nil],.ret (.c (.bl true))]
abbrev y6 (n:Jg)(bw:JL):Jg:=if bw then n else n+1
def rM {X:Ja T}{U:Ja (T×W)}{bs:Ja Jk}{u:Wd}{p q:Pt}{i k:Jg}(hk:∀t,(aJ U t).isSome=decide (t∈X)):iW X bs u p q i k=bd U (gQ u p q (bs.getD i 0) k):=(hk _).symm
def qi {X:Ja T}{U:Ja (T×W)}{bs:Ja Jk}{u:Wd}{p q:Pt}{bw:JL}(hk:∀t,(aJ U t).isSome=decide (t∈X)):Full U bs (y6 bs.length bw) u p q↔(fK (iW X bs u p q) (lF p q u.length) bs.length u.length=[]\/(bw=true/\fK (iW X bs u p q) (lF p q u.length) bs.length u.length=[-1])):=by
 have key:∀i < bs.length,((i:Jk)∈fK (iW X bs u p q) (lF p q u.length) bs.length u.length↔aT U bs u p q i=false):=λi hi=>by
  rw[mR];constructor
  ·rintro(⟨j,e,_,h⟩|⟨e,_⟩)
   ·obtain rfl:i=j:=∅
    rw[Le];intro z;obtain⟨k,hk1,hk2⟩:=(eG hi).mp z;have:=h k hk1;rw[rM hk,hk2]at this; cases this
   ·omega
  ·intro h;refine .inl #[i,rfl,hi,λk hk1=>?_]
   rw[Le];intro z;rw[rM hk]at z;rw[(eG hi).mpr #[k,hk1,z]]at h; cases h
 have keyS:((-1:Jk)∈fK (iW X bs u p q) (lF p q u.length) bs.length u.length↔aT U bs u p q bs.length=false):=by
  rw[mR];have:aT U bs u p q bs.length = !lF p q u.length:=by unfold aT; rw[JU (KC _)]
  rw[this];constructor
  ·rintro(⟨j,e,_,_⟩|⟨_,h⟩)
   ·omega
   ·rw[h]; rfl
  ·intro h;exact .inr #[rfl,by simpa using h]
 have ways:(∀i < bs.length,aT U bs u p q i=true)->fK (iW X bs u p q) (lF p q u.length) bs.length u.length=if lF p q u.length then[-1]else[]:=λh=>by
  have e:(Jw bs.length).filter (λi=>(Jw u.length).all λk=>!iW X bs u p q i k)=[]:=N9.mpr λi hi=>by
   have hi:=Jt.mp hi;obtain⟨k,hk1,hk2⟩:=(eG hi).mp (h i hi);intro z;have:=JB.mp z k (Jt.mpr hk1);rw[rM hk,hk2]at this; cases this
  unfold fK;rw[e]; rfl
 generalize hL:fK (iW X bs u p q) (lF p q u.length) bs.length u.length=L at key keyS ways;unfold Full y6;cases bw with
 | true=>
  rw[JK rfl];constructor
  ·intro h;rw[ways h];cases lF p q u.length
   ·exact .inl rfl
   ·exact .inr #[rfl,rfl]
  ·intro h i hi;cases hh:aT U bs u p q i with
   | true=>rfl
   | false=>
    have:=(key i hi).mpr hh;rcases h with h|⟨_,h⟩
    ·rw[h]at this; cases this
    ·rw[h]at this;have:=Jv.mp this;omega
 | false=>
  rw[JU JF];constructor
  ·intro h;have hw:=ways λi hi=>h i ∅
   have hs:lF p q u.length=false:=by
    have:=h bs.length (Lk _);unfold aT at this;rw[JU (KC _)]at this
    simpa using this
   rw[hs]at hw;exact .inl hw
  ·intro h i hi;have h:L=[]:=by
    rcases h with h|⟨z,_⟩
    ·exact h
    ·cases z
   cases hh:aT U bs u p q i with
   | true=>rfl
   | false=>
    by_cases hn:i < bs.length
    ·have:=(key i hn).mpr hh;rw[h]at this; cases this
    ·obtain rfl:i=bs.length:=∅
     have:=keyS.mpr hh;rw[h]at this; cases this
section
variable{defs:Ja (JG×Df)}{fuel d:Jg}{S:aa}{Q:QW}
def BL {M:JG->FF}{Z:Fm}{i j l:Jg}{bw:JL}{L:Ja Jk}(e:S[l]?=gV (.lst (ac L)))(hi:∀P:W->Prop,P (.ref l)->wV Z i P)(hj:∀P:W->Prop,P (.bl bw)->wV Z j P)
  (k:∀(c:JL) S',(c=true↔(L=[]\/(bw=true/\L=[-1])))->Ka S S'->Q (.bl c,S')) :
  wE M (.or (.cmp .eq (.v i) (.lst .nil)) (.and (.v j) (.cmp .eq (.v i) (.lst #v[.neg (.c (.int 1))])))) Z S Q:=by
 dsimp only[wE,wA,wN];refine hi _ (ab (sZ (aq e) ah) ?_);dsimp only[wB];have e0:(ac L).isEmpty=L.isEmpty:=by cases L <;> rfl
 rw[e0];refine#[λh=>k true _ #[λ_=>.inl (M1.mp h),λ_=>rfl] .push,λh=>?_]
 have hne:L≠[]:=λz=>by rw[z]at h; cases h
 refine hj _ ?_;dsimp only[wB];refine#[λhb=>hi _ (ab (yD (xs:=L) (ys:=[-1]) (aq (aq e)) ah) ?_),λhb=>k false _ #[λz=>(by cases z),λz=>?_] .push]
 ·refine k _ _ #[λz=>.inr #[hb,J8 z],λz=>?_] (Ka.push.trans .push)
  rcases z with z|⟨_,z⟩
  ·exact absurd z hne
  ·exact Kf z
 ·rcases z with z|⟨z,_⟩
  ·exact absurd z hne
  ·rw[hb]at z; cases z
def y8 {M:JG->FF}{Z:Fm}{i j l:Jg}{bw:JL}{L:Ja Jk}{Q:QB}(e:S[l]?=gV (.lst (ac L)))(hi:∀P:W->Prop,P (.ref l)->wV Z i P)(hj:∀P:W->Prop,P (.bl bw)->wV Z j P)
  (hno:¬ (L=[]\/(bw=true/\L=[-1]))) (k:∀S',Ka S S'->Q (false,S')) :
  wT M (.or (.cmp .eq (.v i) (.lst .nil)) (.and (.v j) (.cmp .eq (.v i) (.lst #v[.neg (.c (.int 1))])))) Z S Q:=by
 dsimp only[wT,wE,wA,wN];refine hi _ (ab (sZ (aq e) ah) ?_);dsimp only[wB];have e0:(ac L).isEmpty=L.isEmpty:=by cases L <;> rfl
 rw[e0];refine#[λh=>absurd (.inl (M1.mp h)) hno,λh=>?_]
 refine hj _ (ab (show cU _ (.bl bw)=gV bw from rfl) ?_)
 refine#[λhb=>hi _ (ab (yD (xs:=L) (ys:=[-1]) (aq (aq e)) ah) ?_),λhb=>k _ .push]
 dsimp only[wB];rw[JX λz=>hno (.inr #[hb,z])]
 exact k _ (Ka.push.trans .push)
structure Tol (defs:Ja (JG×Df)):Prop where
 lmay:Is defs ("_law_last_may" : JG) 4 8 aH
 both:Is defs ("_law_both" : JG) 5 5 dj
 fills:Is defs ("_law_fills" : JG) 5 7 dB
 may:Is defs ("_law_may" : JG) 3 4 ff
 isw:Is defs ("_law_is_world" : JG) 2 7 ce
 unf:Is defs ("_law_unfilled" : JG) 4 9 da
 told:Is defs ("_law_told_right" : JG) 4 5 cq
def lH (V:Tol defs){ms:Ja W}{b0:W}{ns:Ja JG}{bs:Ja Jk}{a q:Jg}{bw:JL}{X:Ja T}{U:Ja (T×W)}{x:Wd×Pt×Pt}(hb:GoodB bs)(hnl:ns.length=bs.length)(hml:ms.length=a)(hk:∀t,(aJ U t).isSome=decide (t∈X))(e:S[q]?=gV (.dic U))(hC:Cf a bs.length U x.1 x.2.1 x.2.2)(hF:Full U bs (y6 bs.length bw) x.1 x.2.1 x.2.2)(hxl:x.1.length<=400)
  (k:∀S',Ka S S'->Q (.bl true,S')) :
  wO (aF (ar defs fuel (d+3)) "_law_unfilled" 4 [.tup [.tup ms,.tup (JA aE ns bs),b0],.ref q,cW x,.bl bw] S) Q:=by
 refine aw V.unf rfl rfl λQ' hR=>?_
 replace k:∀S',Ka S S'->Q' (.rt (.bl true),S'):=λS' a=>hR _ _ (k S' a)
 clear hR;obtain⟨u,p,r⟩:=x;dsimp only at hC hF hxl;show wZ _ _ da [gV (.tup [.tup ms,.tup (JA aE ns bs),b0]),gV (.ref q),gV (.tup [au u,ay p,ay r]),gV (.bl bw),td,td,td,td,td] S Q';have zl:(JA aE ns bs).length=bs.length:=by rw[KJ,hnl,LF]
 have ul:(u.map ay).length=u.length:=Jb ..;have fl:=λ(S:aa) (Q:QW) e=>tB (defs:=defs) (fuel:=fuel) (d:=d) (S:=S) (Q:=Q) (m0:=.tup ms) (b0:=b0) (q:=q) V.lmay V.both V.fills hb hnl hC.gu hC.gp hC.gq ∅ e hk hC.mq
 have iw:=λ(h:Pt) (gh:GoodP a bs.length u.length h) (S:aa) (Q:QW)=>lG (defs:=defs) (fuel:=fuel) (d:=d+1) (S:=S) (Q:=Q) (b0:=b0) V.isw hml zl (gh.snoc hC.gu) (by rw[Je,JT]; omega)
 have im:=λ(R:W) (h:Pt) (gh:GoodP a bs.length u.length h) (mh:bu U u u.length h=true) (S:aa) (Q:QW) e=>vn (defs:=defs) (fuel:=fuel) (d:=d) (S:=S) (Q:=Q) (R:=R) (q:=q) V.lmay V.may (gh.snoc hC.gu) (by rw[Je,JT]; omega) e (Std.both.mpr #[hC.su,mh])
 generalize W.tup [.tup ms,.tup (JA aE ns bs),b0]=R at fl iw;dsimp only[da];nofun
 dsimp only[wS,wT,wE,wA,wV,wG];refine ab (show uE S (.tup [au u,ay p,ay r]) "tuple" = gV true from rfl) #[λz=>(by cases z),λ_=>?_]
 refine aD (ab uN #[λz=>(by cases z),λ_=>?_])
 refine ae #v[] rfl ?_
 refine ab (show uE S (au u) "tuple" = gV true from rfl) ?_
 refine aj (Q0:=Q') (λz=>by cases z) (λ_ Q2 hn _=>aR (hn _ _ (hK _ _ ?_)))
 clear hn hK K;refine st ?_;dsimp only[wS,wE,wV,wG,wU];refine ab (show c7 [4,5,6] [au u,ay p,ay r] [gV R,gV (.ref q),gV (.tup [au u,ay p,ay r]),gV (.bl bw),td,td,td,td,td]=gV [gV R,gV (.ref q),gV (.tup [au u,ay p,ay r]),gV (.bl bw),gV (au u),gV (ay p),gV (ay r),td,td]from rfl) ?_
 nofun
 refine for_tup [ay p,ay r] (λi Z S'=>(∃a7,Z=[gV R,gV (.ref q),gV (.tup [au u,ay p,ay r]),gV (.bl bw),gV (au u),gV (ay p),gV (ay r),a7,td])/\Ka S S') rfl rfl #[rfl,#[_,rfl],.refl] ?_ ?_
 ·rintro i w Z S1 hw ⟨⟨a7,rfl⟩,k1⟩;clear hK;obtain⟨h,rfl,gh,mh⟩ : ∃h,w=ay h/\GoodP a bs.length u.length h/\bu U u u.length h=true:=by
   rcases JR.mp (Jq hw)with rfl|hw
   ·exact#[p,rfl,hC.gp,hC.mp]
   ·cases Jv.mp hw; exact#[r,rfl,hC.gq,hC.mq]
  refine ab (show eQ (.nm 7) (ay h) [gV R,gV (.ref q),gV (.tup [au u,ay p,ay r]),gV (.bl bw),gV (au u),gV (ay p),gV (ay r),a7,td] S1=gV ([gV R,gV (.ref q),gV (.tup [au u,ay p,ay r]),gV (.bl bw),gV (au u),gV (ay p),gV (ay r),gV (ay h),td],S1)from rfl) ?_
  intro Q2 hn2 _;nofun
  dsimp only[wS,wT,wE,wA,wV,wG,au];have ev:u.map ay++[ay h]=(u++[h]).map ay:=by rw[JI]; rfl
  have fw:(u.map ay++[ay h]).length<=1000000:=by rw[Je,ul]; show _+1<=_; omega
  refine ab (bO (eh fw)) ?_;dsimp only;rw[ev];have iw1:=λ(Q:QW)=>iw h gh S1 Q
  unfold au at iw1;refine iw1 _ λS2 k2=>?_
  refine ab (show cU S2 (.bl true)=gV true from rfl) #[λz=>(by cases z),λ_=>?_]
  refine ab (bO (eh fw)) ?_;dsimp only;rw[ev];have im1:=λ(Q:QW)=>im R h gh mh S2 Q ((k1.trans k2).get _ _ e)
  unfold au at im1;refine im1 _ ?_;refine ab (show cU S2 (.bl true)=gV true from rfl) ?_
  exact aj (Q0:=Q2) (λz=>by cases z) (λ_ Q5 hn5 _=>aR (hn5 _ _ (hK _ _ (aR (hn2 _ _ #[#[_,rfl],k1.trans k2])))))
 rintro Z S1 ⟨⟨a7,rfl⟩,k1⟩;refine hK _ _ ?_;clear hK K;nofun
 left;refine fl _ _ (k1.get _ _ e) λl8 S2 e8 _ k2=>hK _ _ ?_
 clear hK K;refine st ?_;dsimp only[wS];refine BL e8 (λ_ h=>h) (λ_ h=>h) λc S3 hc k3=>?_
 rw[hc.mpr ((qi hk).mp hF)];exact k _ ((k1.trans k2).trans k3)
def y9 (V:Tol defs){ms:Ja W}{b0:W}{ns:Ja JG}{bs:Ja Jk}{a q:Jg}{bw:JL}{X:Ja T}{U:Ja (T×W)}{w:W}(hb:GoodB bs)(hnl:ns.length=bs.length)(hml:ms.length=a)(hk:∀t,(aJ U t).isSome=decide (t∈X))(e:S[q]?=gV (.dic U))(hw:vB a bs U (y6 bs.length bw) w)
  (k:∀S',Ka S S'->Q (.bl true,S')) :
  wO (aF (ar defs fuel (d+4)) "_law_told_right" 4 [.tup [.tup ms,.tup (JA aE ns bs),b0],.ref q,w,.bl bw] S) Q:=by
 refine aw V.told rfl rfl λQ' hR=>?_
 replace k:∀S',Ka S S'->Q' (.rt (.bl true),S'):=λS' a=>hR _ _ (k S' a)
 clear hR;show wZ _ _ cq [gV (.tup [.tup ms,.tup (JA aE ns bs),b0]),gV (.ref q),gV w,gV (.bl bw),td] S Q';have hb3:bs.length<=3:=by rcases hb with rfl|rfl|rfl|rfl|rfl|rfl <;> decide
 have zl:(JA aE ns bs).length=bs.length:=by rw[KJ,hnl,LF]
 dsimp only[cq];nofun
 left;refine ae #v[] rfl (aD ?_)
 rw[zl];refine ab cO ?_;have ei:Bi.int.fn [.bl bw] S=gV (.int (if bw then 1 else 0),S):=rfl
 refine ab ei (ab gZ (hK _ _ ?_));clear hK K;have ec:(bs.length:Jk)+1 - (if bw then 1 else 0)=((y6 bs.length bw:Jg):Jk):=by
  unfold y6;cases bw
  ·show(bs.length:Jk)+1 - 0=((bs.length+1:Jg):Jk); omega
  ·show(bs.length:Jk)+1 - 1=((bs.length:Jg):Jk); omega
 rw[ec];have hc4:y6 bs.length bw<=4:=by unfold y6; split <;> omega
 refine st ?_;left;rcases hw with⟨rfl,_⟩|⟨x,rfl,hC,hF,hxl⟩
 ·exact ab (show aP .is .non .non S=gV (.bl true,S)from rfl) #[λ_=>k _ .refl,λz=>by cases z]
 ·refine ab (show aP .is (cW x) .non S=gV (.bl false,S)from rfl) #[λz=>(by cases z),λ_=>?_]
  refine lH (d:=d) V hb hnl hml hk e hC hF ∅ λS1 k1=>#[λ_=>?_,λz=>by cases z]
  obtain⟨u,p,r⟩:=x;dsimp only[cW,au];dsimp only at hxl;refine ae #v[] rfl (aD ?_)
  rw[Jb];refine ab (show aP .le (.int (u.length:Jk)) (.int ((y6 bs.length bw:Jg):Jk)) S1=gV (.bl (decide ((u.length:Jk)<=((y6 bs.length bw:Jg):Jk))),S1)from rfl) ?_
  rw[Kf ∅]
  exact k _ k1
def zb (G:Gen defs)(P:Pai defs)(V:Tol defs)(hg:Is defs ("_law_drawn_filled" : JG) 5 10 br){ms:Ja W}{b0:W}{ns:Ja JG}{bs:Ja Jk}{a q r:Jg}{bw:JL}{N:Jk}{X:Ja T}{U:Ja (T×W)}(hb:GoodB bs)(hnl:ns.length=bs.length)(hml:ms.length=a)(ha1:0 < a)(ha3:a<=3)(hk:∀t,(aJ U t).isSome=decide (t∈X))(e:S[q]?=gV (.dic U))(hqr:q≠r)(hf:Fl S r)(hno:¬ ou a bs U (y6 bs.length bw))(hN:0<=N/\N<=10)
  (k:∀S',Fl S' r->Kp r S S'->Q (.bl true,S')) :
  wO (aF (ar defs fuel (d+5)) "_law_drawn_filled" 5 [.ref r,.tup [.tup ms,.tup (JA aE ns bs),b0],.ref q,.int N,.bl bw] S) Q:=by
 refine aw hg rfl rfl λQ' hR=>?_
 replace k:∀S',Fl S' r->Kp r S S'->Q' (.rt (.bl true),S'):=λS' a b=>hR _ _ (k S' a b)
 clear hR;show wZ _ _ br [gV (.ref r),gV (.tup [.tup ms,.tup (JA aE ns bs),b0]),gV (.ref q),gV (.int N),gV (.bl bw),td,td,td,td,td] S Q';have hb3:1<=bs.length/\bs.length<=3:=by rcases hb with rfl|rfl|rfl|rfl|rfl|rfl <;> decide
 have zl:(JA aE ns bs).length=bs.length:=by rw[KJ,hnl,LF]
 dsimp only[br];nofun
 refine bC N (λi Z S'=>(∃a5 a6 a7 a8 a9,Z=[gV (.ref r),gV (.tup [.tup ms,.tup (JA aE ns bs),b0]),gV (.ref q),gV (.int N),gV (.bl bw),a5,a6,a7,a8,a9])/\Fl S' r/\Kp r S S') rfl rfl ∅ #[rfl,#[_,_,_,_,_,rfl],hf,.refl] ?_ ?_
 ·rintro i Z S1 hi ⟨⟨a5,a6,a7,a8,a9,rfl⟩,f1,k1⟩ Q2 hn2 _;clear hK;dsimp only[Jr];nofun
  left;refine aU (d:=d+3) G.pick f1 #v[] #v[] λv S2 v0 v1 f2 k2=>?_
  refine ab cO ?_;dsimp only;obtain⟨m,rfl⟩ : ∃m:Jg,v=m:=#[v.toNat,∅]
  rw[show(1:Jk)+(m:Jk)=((m+1:Jg):Jk) by omega]
  refine Eh (d:=d) G P hml ha1 ha3 zl hb3.1 hb3.2 ∅ ((k1.trans k2).get _ _ hqr e) hqr f2 λu p w S3 hul hu hst gp mp gq mq f3 k3=>?_
  dsimp only[wU];refine ab (show c7 [6,7,8] [au u,ay p,ay w] [gV (.ref r),gV (.tup [.tup ms,.tup (JA aE ns bs),b0]),gV (.ref q),gV (.int N),gV (.bl bw),gV (.int i),a6,a7,a8,a9]=gV [gV (.ref r),gV (.tup [.tup ms,.tup (JA aE ns bs),b0]),gV (.ref q),gV (.int N),gV (.bl bw),gV (.int i),gV (au u),gV (ay p),gV (ay w),a9]from rfl) (hK _ _ ?_)
  clear hK K;have k13:=(k1.trans k2).trans k3;nofun
  left;refine tB (d:=d+2) V.lmay V.both V.fills hb hnl hu gp gq ∅ (k13.get _ _ hqr e) hk mq λl9 S4 e9 _ k4=>hK _ _ ?_
  clear hK K;nofun
  dsimp only[wS];refine y8 e9 (λ_ h=>h) (λ_ h=>h) (λz=>hno #[u,p,w,#[hu,hst,gp,mp,gq,mq],(qi hk).mpr z]) λS5 k5=>?_
  have k45:=k4.trans k5;exact aj (Q0:=Q2) (λz=>by cases z) (λ_ Q5 hn5 _=>aR (hn5 _ _ (hK _ _ (aR (hn2 _ _ #[#[_,_,_,_,_,rfl],f3.ka k45,k13.trans (k45.kp r)])))))
 ·rintro Z S1 ⟨⟨a5,a6,a7,a8,a9,rfl⟩,f1,k1⟩;refine hK _ _ (st ?_);dsimp only[wS,wE];exact k _ f1 k1
end
abbrev lY (n:Jg)(brk:Jk->Jk->Jk->JL)(A D:Jk×Jk):JL:=decide (A=D)||(cM n).any λw=>(!brk w A.1 D.1 && !brk w A.2 D.2)||(!brk w D.1 A.1 && !brk w D.2 A.2)
abbrev BM (n:Jg):Ja (Jk×Jk):=(cM n).flatMap λx=>(cM n).map λy=>(x,y)
abbrev tM (n:Jg)(bs:Ja Jk)(brk:Jk->Jk->Jk->JL)(fin:Ja (Jk×Jk)->JL):Ja Jg->Ja (Jk×Jk)->JL
 | [],C=>fin C
 | i::is,C=>(BM n).all λA=>!(brk A.1 A.2 (bs.getD i 0)&&C.all λD=>lY n brk A D)||tM n bs brk fin is (A::C)
abbrev GD (n:Jg)(brk:Jk->Jk->Jk->JL)(one:JL)(C:Ja (Jk×Jk)):JL:=one&&(BM n).all λD=>decide (D.1=D.2) || !(C.all λA=>lY n brk A D)
abbrev GF (bs:Ja Jk)(brk:Jk->Jk->Jk->JL)(one:JL):JL:=tM bs.length bs brk (GD bs.length brk one) (Jw bs.length) []
def zd {n:Jg}{bs:Ja Jk}{brk:Jk->Jk->Jk->JL}{fin:Ja (Jk×Jk)->JL}{R:Jk×Jk->Prop}(hR:∀A D,R A->R D->lY n brk A D=true)(hm:∀A,R A->A∈BM n):∀(is:Ja Jg) (C:Ja (Jk×Jk)),(∀i∈is,∃A,R A/\brk A.1 A.2 (bs.getD i 0)=true)->(∀D∈C,R D)->tM n bs brk fin is C=true->∃C',(∀D∈C',R D)/\fin C'=true
 | [],C,_,hC,h=>#[C,hC,h]
 | i::is,C,hi,hC,h=>by
  obtain⟨A,hA,hb⟩:=hi i (by simp)
  unfold tM at h;have:=JB.mp h A (hm A hA);rw[hb,LI,show(C.all λD=>lY n brk A D)=true from JB.mpr λD hD=>hR A D hA (hC D hD)]at this
  exact zd hR hm is (A::C) (λj hj=>hi j (by simp[hj])) (λD hD=>by
   rcases JR.mp hD with rfl|hD
   ·exact hA
   ·exact hC D hD) (by simpa using this)
def GoodP.at {a n s k:Jg}{p:Pt}(h:GoodP a n s p)(hk:k < s):0<=p.2.getD k 0/\p.2.getD k 0 < (n:Jk):=h.way _ (Jq (ak (d:=0) (by rw[h.len]; exact hk)))
abbrev Em (a n:Jg)(U:Ja (T×W))(brk:Jk->Jk->Jk->JL):Prop:=∀m0 m1 m2 x y z:Jk,(0<=m0/\m0 < a)->(0<=m1/\m1 < a)->(0<=m2/\m2 < a)->(0<=x/\x < n)->(0<=y/\y < n)->(0<=z/\z < n)->bd U [(m0,[]),(m1,[x]),(m2,[y,z])]=brk x y z
def BN {a:Jg}{bs:Ja Jk}{U:Ja (T×W)}{brk:Jk->Jk->Jk->JL}{one:JL}(hb:∀b∈bs,0<=b/\b < (bs.length:Jk))(hB:Em a bs.length U brk)(hone:one=true->a=1)(h:GF bs brk one=true):¬ ou a bs U (bs.length+1):=by
 rintro⟨Uq,P,Q,hC,hF⟩;have um:∀k,k < Uq.length->0<=(Uq.getD k (0,[])).1/\(Uq.getD k (0,[])).1 < (a:Jk):=λk hk=>hC.gu.mark k _ (ak (d:=(0,[])) hk)
 have uw:∀k j,k < Uq.length->j < k->0<=(Uq.getD k (0,[])).2.getD j 0/\(Uq.getD k (0,[])).2.getD j 0 < (bs.length:Jk):=λk j hk hj=>hC.gu.way k _ (ak (d:=(0,[])) hk) _ (Jq (ak (d:=0) (by rw[hC.gu.len k _ (ak (d:=(0,[])) hk)]; exact hj)))
 have cm:∀k l,k < l->l < Uq.length->lY bs.length brk (P.2.getD k 0,Q.2.getD k 0) (P.2.getD l 0,Q.2.getD l 0)=true/\lY bs.length brk (P.2.getD l 0,Q.2.getD l 0) (P.2.getD k 0,Q.2.getD k 0)=true:=λk l hkl hl=>by
  have hk:k < Uq.length:=Lp hkl hl;have h1:=ba.mp hC.mp l hl k hkl;have h2:=ba.mp hC.mq l hl k hkl;have e1:bG U Uq P k l=brk ((Uq.getD l (0,[])).2.getD k 0) (P.2.getD k 0) (P.2.getD l 0):=hB _ _ _ _ _ _ (um k hk) (um l hl) hC.gp.mark (uw l k hl hkl) (hC.gp.at hk) (hC.gp.at hl);have e2:bG U Uq Q k l=brk ((Uq.getD l (0,[])).2.getD k 0) (Q.2.getD k 0) (Q.2.getD l 0):=hB _ _ _ _ _ _ (um k hk) (um l hl) hC.gq.mark (uw l k hl hkl) (hC.gq.at hk) (hC.gq.at hl);rw[h1]at e1;rw[h2]at e2;have hw:=uw l k hl hkl;unfold lY;constructor
  all_goals
   rw[K7];refine .inr (Lm.mpr #[_,aL hw.1 hw.2,?_]);dsimp only;rw[<- e1,<- e2];simp
 have hR:∀A D:Jk×Jk,(∃k < Uq.length,A=(P.2.getD k 0,Q.2.getD k 0))->(∃k < Uq.length,D=(P.2.getD k 0,Q.2.getD k 0))->lY bs.length brk A D=true:=by
  rintro A D ⟨k,hk,rfl⟩ ⟨l,hl,rfl⟩;rcases Nat.lt_trichotomy k l with h|rfl|h
  ·exact(cm k l h hl).1
  ·unfold lY; simp
  ·exact(cm l k h hk).2
 have hm:∀A:Jk×Jk,(∃k < Uq.length,A=(P.2.getD k 0,Q.2.getD k 0))->A∈BM bs.length:=by
  rintro A ⟨k,hk,rfl⟩;have g1:=hC.gp.at hk;have g2:=hC.gq.at hk;exact Kb.mpr #[_,aL g1.1 g1.2,Jy.mpr #[_,aL g2.1 g2.2,rfl]]
 obtain⟨C,hCR,hfin⟩:=zd (R:=λA=>∃k < Uq.length,A=(P.2.getD k 0,Q.2.getD k 0)) hR hm (Jw bs.length) [] (λi hi=>by
  have hi:=Jt.mp hi;have:=hF i ∅
  unfold aT at this;rw[JK hi]at this;obtain⟨k,hk,hh⟩:=Lm.mp this;have hk:=Jt.mp hk;refine#[_,#[k,hk,rfl],?_];rw[<- hh];exact(hB _ _ _ _ _ _ (um k hk) hC.gp.mark hC.gq.mark (hC.gp.at hk) (hC.gq.at hk) (hb _ (Jq (ak (d:=0) hi)))).symm) (λD hD=>nomatch hD) h
 unfold GD at hfin;rw[Jj]at hfin;have ha:=hone hfin.1;subst ha;have:=hF bs.length ∅
 unfold aT at this;rw[JU ∅]at this
 have m1:=hC.gp.mark;have m2:=hC.gq.mark;have em:P.1=Q.1:=∅
 have hne:lF P Q Uq.length=false:=by simpa using this
 unfold lF at hne;rw[em,Kr,LI,NA]at hne;obtain⟨k,hk,hd⟩:=hne;have hk:=Jt.mp hk;have hD:=JB.mp hfin.2 _ (hm _ #[k,hk,rfl]);rw[K7]at hD;rcases hD with hD|hD
 ·have:=J8 hD;dsimp only at this;rw[this]at hd;simp at hd
 ·rw[show(C.all λA=>lY bs.length brk A (P.2.getD k 0,Q.2.getD k 0))=true from JB.mpr λA hA=>hR A _ (hCR A hA) #[k,hk,rfl]]at hD
  cases hD
def iZ {a f:Jg}{bs:Ja Jk}{U:Ja (T×W)}(hf:f < bs.length)(hh:∀m0 m1 m2 x y:Jk,bd U [(m0,[]),(m1,[x]),(m2,[y,bs.getD f 0])]=false):¬ ou a bs U (bs.length+1):=by
 rintro⟨Uq,P,Q,hC,hF⟩;have:=hF f ∅
 unfold aT at this;rw[JK hf]at this;obtain⟨k,hk,h1⟩:=Lm.mp this;have h2:=hh (Uq.getD k (0,[])).1 P.1 Q.1 (P.2.getD k 0) (Q.2.getD k 0);unfold gQ at h1;rw[h2]at h1;cases h1
def qj {a:Jg}{U:Ja (T×W)}(hh:∀m0 m1 m2:Jk,bd U [(m0,[]),(m1,[0]),(m2,[0,0])]=true->m1=m2):¬ ou a [0] U 2:=by
 rintro⟨Uq,P,Q,hC,hF⟩;have z:∀ {p:Pt} {k:Jg},GoodP a 1 Uq.length p->k < Uq.length->p.2.getD k 0=0:=λh hk=>by
  have:=h.at hk; omega
 have h0:=hF 0 ∅
 have h1:=hF 1 ∅
 unfold aT at h0 h1;rw[JK #v[]]at h0
 rw[JU #v[]]at h1
 obtain⟨k,hk,hk1⟩:=Lm.mp h0;have hk:=Jt.mp hk;unfold gQ at hk1;rw[z hC.gp hk,z hC.gq hk]at hk1;have em:=hh _ _ _ hk1;have:lF P Q Uq.length=true:=by
  unfold lF;rw[em,Kr,LI];refine JB.mpr λj hj=>?_
  have hj:=Jt.mp hj;rw[z hC.gp hj,z hC.gq hj]; rfl
 rw[this]at h1;cases h1
def ze {bs:Ja Jk}{a:Jg}{u:Wd}{t:Ja Jg}(hb:GoodB bs)(hu:GoodW a bs.length u)(hl:u.length=3)(ht:t∈am):cj bs (al bs u t)=cj bs u:=by
 obtain⟨t1,t2⟩:=bU.mp ht;rw[gI hl,gI (by rw[aO,t2]),lC hb hu (by rw[hl]; exact t1) (by rw[t2,hl])]
abbrev qk (bs:Ja Jk)(x y z:Jk):Ja (Jk×Jk×Jk):=[(x,y,z),(y,x,bs.getD z.toNat 0),(bs.getD x.toNat 0,z,y),(z,bs.getD x.toNat 0,bs.getD y.toNat 0),(bs.getD y.toNat 0,bs.getD z.toNat 0,x),(bs.getD z.toNat 0,bs.getD y.toNat 0,bs.getD x.toNat 0)]
def j4 {bs:Ja Jk}{t:Jk×Jk×Jk}{x y z:Jk}{s:Ja Jg}(hs:s∈am):∃t' p,p∈qk bs x y z/\al bs (w3 t x y z) s=w3 t' p.1 p.2.1 p.2.2:=by
 obtain⟨m0,m1,m2⟩:=t;have hs:s=[0,1,2]\/s=[0,2,1]\/s=[1,0,2]\/s=[1,2,0]\/s=[2,0,1]\/s=[2,1,0]:=by simpa [am]using hs
 rcases hs with rfl|rfl|rfl|rfl|rfl|rfl
 ·exact#[(m0,m1,m2),(x,y,z),by simp[qk],rfl]
 ·exact#[(m0,m2,m1),(y,x,bs.getD z.toNat 0),by simp[qk],rfl]
 ·exact#[(m1,m0,m2),(bs.getD x.toNat 0,z,y),by simp[qk],rfl]
 ·exact#[(m1,m2,m0),(z,bs.getD x.toNat 0,bs.getD y.toNat 0),by simp[qk],rfl]
 ·exact#[(m2,m0,m1),(bs.getD y.toNat 0,bs.getD z.toNat 0,x),by simp[qk],rfl]
 ·exact#[(m2,m1,m0),(bs.getD z.toNat 0,bs.getD y.toNat 0,bs.getD x.toNat 0),by simp[qk],rfl]
def zf {t t':Jk×Jk×Jk}{x y z x' y' z':Jk}(h:w3 t x y z=w3 t' x' y' z'):x=x'/\y=y'/\z=z':=by
 unfold w3 at h;simp only[Om,MG,Rz,true_and]at h;obtain⟨_,⟨_,h1⟩,_,h2,h3⟩:=h;exact#[h1,h2,h3]
abbrev vo (k:Gj)(nm:Ja Jk):Ja Jk:=cQ k.1 nm k.1.length
def BO:∀k∈KT,∀nm∈gf k.1,∀x∈cM k.1.length,∀y∈cM k.1.length,∀z∈cM k.1.length,∀p∈qk (vo k nm) x y z,pQ (vo k nm) (k.2.1.map (ib nm)) p.1 p.2.1 p.2.2=pQ (vo k nm) (k.2.1.map (ib nm)) x y z:=by decide +kernel
def En:∀k∈KT,∀nm∈gf k.1,GF (vo k nm) (pQ (vo k nm) (k.2.1.map (ib nm))) (decide (k.2.2=1))=true:=by decide +kernel
def rN {bs:Ja Jk}{P:Jk->Prop}{x y z:Jk}{p:Jk×Jk×Jk}(hP:∀v,P v->P (bs.getD v.toNat 0))(hx:P x)(hy:P y)(hz:P z)(hp:p∈qk bs x y z):P p.1/\P p.2.1/\P p.2.2:=by
 have hp:p=(x,y,z)\/p=(y,x,bs.getD z.toNat 0)\/p=(bs.getD x.toNat 0,z,y)\/p=(z,bs.getD x.toNat 0,bs.getD y.toNat 0)\/p=(bs.getD y.toNat 0,bs.getD z.toNat 0,x)\/p=(bs.getD z.toNat 0,bs.getD y.toNat 0,bs.getD x.toNat 0):=by simpa [qk]using hp
 rcases hp with rfl|rfl|rfl|rfl|rfl|rfl <;> refine#[?_,?_,?_] <;> first|assumption|(apply hP; assumption)
def GoodB.bk {bs:Ja Jk}(h:GoodB bs):∀v∈cM bs.length,(0<=bs.getD v.toNat 0/\bs.getD v.toNat 0 < (bs.length:Jk))/\bs.getD (bs.getD v.toNat 0).toNat 0=v:=by
 rcases h with rfl|rfl|rfl|rfl|rfl|rfl <;> decide
def Eo {l:Ja Jk}(h:l.length=2):∃y w,l=[y,w]:=match l,h with
 | [y,w],_=>#[y,w,rfl]
def Ik {m0 m1 m2:Jk}:(m0<=m1/\m1<=m2)\/(m0<=m2/\m2<=m1)\/(m1<=m0/\m0<=m2)\/(m1<=m2/\m2<=m0)\/(m2<=m0/\m0<=m1)\/(m2<=m1/\m1<=m0):=∅
def vp {bs:Ja Jk}{a:Jg}{m0 m1 m2 x y z:Jk}(h0:0<=m0/\m0 < a)(h1:0<=m1/\m1 < a)(h2:0<=m2/\m2 < a):∃s∈am,∃t p,Ris a t/\p∈qk bs x y z/\al bs (w3 (m0,m1,m2) x y z) s=w3 t p.1 p.2.1 p.2.2:=by
 rcases Ik (m0:=m0) (m1:=m1) (m2:=m2)with⟨g1,g2⟩|⟨g1,g2⟩|⟨g1,g2⟩|⟨g1,g2⟩|⟨g1,g2⟩|⟨g1,g2⟩
 ·exact#[[0,1,2],#v[],(m0,m1,m2),(x,y,z),#[h0.1,g1,g2,h2.2],by simp[qk],rfl]
 ·exact#[[0,2,1],#v[],(m0,m2,m1),(y,x,bs.getD z.toNat 0),#[h0.1,g1,g2,h1.2],by simp[qk],rfl]
 ·exact#[[1,0,2],#v[],(m1,m0,m2),(bs.getD x.toNat 0,z,y),#[h1.1,g1,g2,h2.2],by simp[qk],rfl]
 ·exact#[[1,2,0],#v[],(m1,m2,m0),(z,bs.getD x.toNat 0,bs.getD y.toNat 0),#[h1.1,g1,g2,h0.2],by simp[qk],rfl]
 ·exact#[[2,0,1],#v[],(m2,m0,m1),(bs.getD y.toNat 0,bs.getD z.toNat 0,x),#[h2.1,g1,g2,h1.2],by simp[qk],rfl]
 ·exact#[[2,1,0],#v[],(m2,m1,m0),(bs.getD z.toNat 0,bs.getD y.toNat 0,bs.getD x.toNat 0),#[h2.1,g1,g2,h0.2],by simp[qk],rfl]
def oy {bs:Ja Jk}{gs:Ja Wd}{U:Ja (T×W)}{w:Wd}(hd:HasD U (aM bs gs)):bd U w=true↔w∈aM bs gs:=by
 unfold bd;rw[hd.get,JP];exact#[λh=>by
  obtain⟨w',h1,e⟩:=Jy.mp h;exact dO e ▸ h1,λh=>Jy.mpr #[w,h,rfl]]
section
variable{a:Jg}{bs:Ja Jk}{ms ns:Ja JG}{gs:Ja Wd}{U:Ja (T×W)}
def vt (hR:RuleAt a bs ms ns gs)(hd:HasD U (aM bs gs))(h:yu a bs gs):¬ ou a bs U (bs.length+1):=by
 have hb:=hR.size.good;obtain⟨bs0,L,most,nm,hkt,hnm,ebs,ham,hgs⟩:=h;have hn:bs.length=bs0.length:=by rw[ebs]; exact gH ..
 have kt:=BO (bs0,L,most) hkt nm hnm;have kl:=En (bs0,L,most) hkt nm hnm;dsimp only[vo]at kt kl;rw[<- ebs]at kt kl;rw[<- hn]at kt;refine BN (brk:=pQ bs (L.map (ib nm))) (λb hb'=>?_) ?_ (λe=>?_) kl
 ·obtain⟨i,hi,e⟩:=M8 hb';have:=(hb.bk (i:Jk) (aL ∅ ∅)).1
  rw[JC,JD,Ju hi,NV,e]at this;exact this
 ·intro m0 m1 m2 x y z h0 h1 h2 hx hy hz;have hu:GoodW a bs.length (w3 (m0,m1,m2) x y z):=tm h0 h1 h2 hx hy hz;rw[KR];show bd U (w3 (m0,m1,m2) x y z)=true↔_;rw[oy hd,<- Ee hb hR.mem hu rfl,hgs];have kx:=kt x (aL hx.1 hx.2) y (aL hy.1 hy.2) z (aL hz.1 hz.2);constructor
  ·rintro⟨x',y',z',hx',hy',hz',hb',t,ht,e⟩;have kx':=kt x' (aL hx'.1 hx'.2) y' (aL hy'.1 hy'.2) z' (aL hz'.1 hz'.2);obtain⟨s1,hs1,e1⟩:=iP bs (w3 (m0,m1,m2) x y z);obtain⟨s2,hs2,e2⟩:=iP bs (w3 t x' y' z');obtain⟨t1,p1,hp1,q1⟩:=j4 (bs:=bs) (t:=(m0,m1,m2)) (x:=x) (y:=y) (z:=z) hs1;obtain⟨t2,p2,hp2,q2⟩:=j4 (bs:=bs) (t:=t) (x:=x') (y:=y') (z:=z') hs2;rw[e1,e2,q1,q2]at e;obtain⟨i1,i2,i3⟩:=zf e;rw[<- kx p1 hp1,i1,i2,i3,kx' p2 hp2];exact hb'
  ·intro hbr;obtain⟨s,hs,t,p,hris,hp,e⟩:=vp (bs:=bs) (x:=x) (y:=y) (z:=z) h0 h1 h2;obtain⟨r1,r2,r3⟩:=rN (P:=λv=>0<=v/\v < (bs.length:Jk)) (λv hv=>(hb.bk v (aL hv.1 hv.2)).1) hx hy hz hp
   refine#[p.1,p.2.1,p.2.2,r1,r2,r3,(kx p hp).trans hbr,t,hris,?_];rw[<- e,ze hb hu rfl hs]
 ·have:=J8 e;have:=hR.size.pos;omega
def zh (hd:HasD U (aM bs gs))(h:Bn a bs gs):¬ ou a bs U (bs.length+1):=by
 obtain⟨rfl,hg⟩:=h;refine qj λm0 m1 m2 hw=>?_
 rw[oy hd]at hw;obtain⟨g,hgm,hw⟩:=Kb.mp hw;obtain⟨k,rfl⟩:=hg g hgm;obtain⟨s,hs,e⟩:=Jy.mp hw;have hs:s=[0,1,2]\/s=[0,2,1]\/s=[1,0,2]\/s=[1,2,0]\/s=[2,0,1]\/s=[2,1,0]:=by simpa [am]using hs
 have e':([(k,[]),(k,[0]),(k,[0,0])]:Wd)=[(m0,[]),(m1,[0]),(m2,[0,0])]:=by rcases hs with rfl|rfl|rfl|rfl|rfl|rfl <;> exact e
 simp only[Om,MG,Rz,true_and]at e';omega
def vw (hR:RuleAt a bs ms ns gs)(hd:HasD U (aM bs gs))(h:pJ a bs gs):¬ ou a bs U (bs.length+1):=by
 have hb:=hR.size.good;have hn:=hR.size.n3;rcases h with rfl|⟨f,hf,ef,hg⟩
 ·refine iZ (f:=0) hn.1 λm0 m1 m2 x y=>?_
  rw[Le];intro h;rw[oy hd]at h;simp[aM]at h
 ·refine iZ (f:=f.toNat) ∅ λm0 m1 m2 x y=>?_
  rw[Le,ef];intro h;rw[oy hd]at h;obtain⟨g,hgm,h⟩:=Kb.mp h;obtain⟨p0,n1,w1,p2,hu,rfl,hw1,hp2⟩:=hg g hgm;obtain⟨s,hs,e⟩:=Jy.mp h;obtain⟨n0,l0⟩:=p0;obtain⟨n2,l2⟩:=p2;have z0:l0.length=0:=hu.len 0 _ rfl;have z2:l2.length=2:=hu.len 2 _ rfl;obtain rfl:l0=[]:=KY z0;obtain⟨y2,w2,rfl⟩:=Eo z2;have g1:=hu.way 1 _ rfl w1 (by simp)
  have g2:=hu.way 2 _ rfl y2 (by simp)
  have g3:=hu.way 2 _ rfl w2 (by simp)
  have cl:∀v,((0<=v/\v < (bs.length:Jk))/\v≠f)->(0<=bs.getD v.toNat 0/\bs.getD v.toNat 0 < (bs.length:Jk))/\bs.getD v.toNat 0≠f:=λv hv=>by
   obtain⟨i1,i2⟩:=hb.bk v (aL hv.1.1 hv.1.2);refine#[i1,λe=>?_]
   rw[e,ef]at i2;exact hv.2 i2.symm
  obtain⟨s1,hs1,e1⟩:=iP bs (w3 (n0,n1,n2) w1 y2 w2);obtain⟨t1,p1,hp1,q1⟩:=j4 (bs:=bs) (t:=(n0,n1,n2)) (x:=w1) (y:=y2) (z:=w2) hs1;obtain⟨r1,r2,r3⟩:=rN (P:=λv=>(0<=v/\v < (bs.length:Jk))/\v≠f) cl #[g1,hw1] #[g2,λe=>hp2 (by simp[e])] #[g3,λe=>hp2 (by simp[e])] hp1
  obtain⟨t2,p2,hp2',q2⟩:=j4 (bs:=bs) (t:=t1) (x:=p1.1) (y:=p1.2.1) (z:=p1.2.2) hs;obtain⟨_,_,r⟩:=rN (P:=λv=>(0<=v/\v < (bs.length:Jk))/\v≠f) cl r1 r2 r3 hp2'
  have e':al bs (cj bs (w3 (n0,n1,n2) w1 y2 w2)) s=w3 (m0,m1,m2) x y f:=e;rw[e1,q1,q2]at e';exact r.2 (zf e').2.2
def Il (hR:RuleAt a bs ms ns gs)(hd:HasD U (aM bs gs))(h:yv a bs gs):¬ ou a bs U (bs.length+1):=by
 rcases h with h|h|h
 ·exact zh hd h
 ·exact vw hR hd h
 ·exact vt hR hd h
end
abbrev lI (a n k:Jg)(p:Pt):JL:=decide (0<=p.1/\p.1 < (a:Jk))&&decide (p.2.length=k)&&p.2.all λw=>decide (0<=w/\w < (n:Jk))
def oz {a n k:Jg}{p:Pt}(h:lI a n k p=true):GoodP a n k p:=by
 unfold lI at h;rw[Jj,Jj,JB]at h;exact#[J8 h.1.1,J8 h.1.2,λw hw=>J8 (h.2 w hw)]
abbrev zj (a n:Jg)(u:Wd):JL:=(Jw u.length).all λk=>lI a n k (u.getD k (0,[]))
def BP {a n:Jg}{u:Wd}(h:zj a n u=true):GoodW a n u:=by
 have g:∀k p,u[k]?=gV p->GoodP a n k p:=λk p hp=>by
  obtain⟨hk,e⟩:=Jz.mp hp;have:=JB.mp h k (Jt.mpr hk);rw[JD,hp]at this;exact oz this
 exact#[λk p hp=>(g k p hp).mark,λk p hp=>(g k p hp).len,λk p hp=>(g k p hp).way]
abbrev GH (U:Ja (T×W))(u:Wd):JL:=(Jw u.length).all λk=>(Jw k).all λj=>(Jw j).all λi=>!cw U u i j k
def GJ {U:Ja (T×W)}{u:Wd}(h:GH U u=true):Std U u:=λk hk j hj i hi=>by
 have:=JB.mp (JB.mp (JB.mp h k (Jt.mpr hk)) j (Jt.mpr hj)) i (Jt.mpr hi)
 simpa using this
abbrev jK (bs:Ja Jk)(gs:Ja Wd):Ja (T×W):=(aM bs gs).map λw=>(cy w,W.bl true)
abbrev rO (a:Jg)(bs:Ja Jk)(U:Ja (T×W))(c:Jg)(u:Wd)(p q:Pt):JL:=zj a bs.length u&&GH U u&&lI a bs.length u.length p&&bu U u u.length p&&lI a bs.length u.length q&&bu U u u.length q&&(Jw c).all (aT U bs u p q)
def vx {bs:Ja Jk}{gs:Ja Wd}{U:Ja (T×W)}(hd:HasD U (aM bs gs))(t:T):(aJ (jK bs gs) t).isSome=(aJ U t).isSome:=by
 rw[hd.get,KR,iS,JP];unfold jK;rw[KU];exact PJ
def ql {U U':Ja (T×W)}{u:Wd}{h:Pt}{p q:Jg}(hk:∀t,(aJ U t).isSome=(aJ U' t).isSome):bG U u h p q=bG U' u h p q:=hk _
def Er {a c:Jg}{bs:Ja Jk}{U U':Ja (T×W)}(e:∀t,(aJ U' t).isSome=(aJ U t).isSome)(u:Wd)(p q:Pt)(h:rO a bs U' c u p q=true):ou a bs U c:=by
 unfold rO at h;simp only[Jj]at h;obtain⟨⟨⟨⟨⟨⟨h1,h2⟩,h3⟩,h4⟩,h5⟩,h6⟩,h7⟩:=h;have hm:∀p:Pt,bu U' u u.length p=true->bu U u u.length p=true:=λp h=>by
  rw[ba]at h ⊢;intro q hq p' hp;rw[<- ql e]; exact h q hq p' hp
 refine#[u,p,q,#[BP h1,λk hk j hj i hi=>?_,oz h3,hm p h4,oz h5,hm q h6],λi hi=>?_]
 ·have:=GJ h2 k hk j hj i hi;unfold cw at this ⊢;rw[<- e]; exact this
 ·rw[<- eZ e];exact JB.mp h7 i (Jt.mpr hi)
def oA {a c:Jg}{bs:Ja Jk}{gs gs':Ja Wd}{U:Ja (T×W)}(hd:HasD U (aM bs gs))(hg:∀g,g∈gs↔g∈gs')(u:Wd)(p q:Pt)(h:rO a bs (jK bs gs') c u p q=true):ou a bs U c:=by
 refine Er (λt=>?_) u p q h
 rw[<- vx hd,KR,iS,iS];unfold jK;rw[KU,KU,Jy,Jy];have:∀w,w∈aM bs gs'↔w∈aM bs gs:=λw=>by
  unfold aM;rw[Kb,Kb];exact#[λ#[g,h1,h2]=>#[g,(hg g).mpr h1,h2],λ#[g,h1,h2]=>#[g,(hg g).mp h1,h2]]
 exact#[λ#[w,h1,h2]=>#[w,(this w).mp h1,h2],λ#[w,h1,h2]=>#[w,(this w).mpr h1,h2]]
def IL:rO 1 [0,1] (jK [0,1] [zx 0,zx 1]) 3 [(0,[]),(0,[0]),(0,[1,0])] (0,[0,1,0]) (0,[0,1,1])=true:=by decide +kernel
def IM:rO 2 [0,1] (jK [0,1] Ij) 3 [(0,[])] (0,[1]) (1,[1])=true:=by decide +kernel
def IN:∀a∈[2,3],∀m∈[1,2,3],rO a [0] (jK [0] (((cM a).map (uW a)).take m)) 2 [(0,[])] (0,[0]) ((a:Jk) - 1,[0])=true:=by decide +kernel
def Et {a:Jg}{bs:Ja Jk}{gs:Ja Wd}{U:Ja (T×W)}(hd:HasD U (aM bs gs))(h:EE a bs gs):ou a bs U (bs.length+1):=by
 rcases h with⟨rfl,rfl,rfl⟩|⟨rfl,rfl,hg⟩|⟨ha,rfl,m,m1,m3,rfl⟩
 ·exact oA hd (λ_=>PJ) _ _ _ IL
 ·exact oA hd hg _ _ _ IM
 ·exact oA hd (λ_=>PJ) _ _ _ (IN a (by rcases ha with rfl|rfl <;> decide) m (by
   have:m=1\/m=2\/m=3:=∅
   rcases this with rfl|rfl|rfl <;> decide))
abbrev bN:Ss:=
 #v[.set 1 (.own "_law_rule_of" 4 #v[.v 0,.c (.int 3),.tup #v[.c (.int 0),.c (.int 1)],.tup .nil]),.set 2 (.own "_law_shuffled" 2 #v[.v 0,.lst #v[.c (.int 0),.c (.int 1),.c (.int 2)]]),.set 3 (.lst .nil),.loop (.nm 4) (.rng #v[.c (.int 2)]) #v[.ex (.me .append (.v 3) #v[.own "_law_figure" 2 #v[.v 1,.tup #v[.tup #v[.ix (.v 2) (.c (.int 0)),.tup .nil],.tup #v[.ix (.v 2) (.c (.int 1)),.tup #v[.v 4]],.tup #v[.ix (.v 2) (.c (.int 2)),.tup #v[.v 4,.v 4]]]]])],.ret (.tup #v[.ix (.v 1) (.c (.int 0)),.ix (.v 1) (.c (.int 1)),.bi .tuple #v[.bi .sorted #v[.v 3]]])]
abbrev Cm (s:Ja Jg):Ja Wd:=[cj [0,1] (w3 ((s.getD 0 0:Jg),(s.getD 1 0:Jg),(s.getD 2 0:Jg)) 0 0 0),cj [0,1] (w3 ((s.getD 0 0:Jg),(s.getD 1 0:Jg),(s.getD 2 0:Jg)) 1 1 1)]
abbrev lJ (a:Jg)(bs:Ja Jk)(gs:Ja Wd):Prop:=a=3/\bs=[0,1]/\∃s∈am,gs=Cm s
def Eu:∀s∈am,(Cm s).Nodup:=by decide +kernel
def IP:∀s∈am,rO 3 [0,1] (jK [0,1] (Cm s)) 3 [((s.getD 2 0:Jg),[]),((s.getD 2 0:Jg),[0])] ((s.getD 0 0:Jg),[0,1]) ((s.getD 1 0:Jg),[0,1])=true:=by decide +kernel
def vy {a:Jg}{bs:Ja Jk}{gs:Ja Wd}{U:Ja (T×W)}(hd:HasD U (aM bs gs))(h:lJ a bs gs):ou a bs U (bs.length+1):=by
 obtain⟨rfl,rfl,s,hs,rfl⟩:=h;exact oA hd (λ_=>PJ) _ _ _ (IP s hs)
section
variable{defs:Ja (JG×Df)}{fuel d:Jg}{S:aa}{r:Jg}{Q:QW}
def BQ (hfu:20 < fuel)(G:Gen defs)(hsh:Is defs ("_law_shuffled" : JG) 2 4 bM)(hg:Is defs ("_law_third_rule" : JG) 1 5 bN)(hf:Fl S r)(k:∀w S',RuleG lJ w->Fl S' r->Kp r S S'->Q (w,S')):wO (aF (ar defs fuel (d+6)) "_law_third_rule" 1 [.ref r] S) Q:=by
 refine aw hg rfl rfl λQ' hR=>?_
 replace k:∀w S',RuleG lJ w->Fl S' r->Kp r S S'->Q' (.rt w,S'):=λz S' a b c=>hR _ _ (k z S' a b c)
 clear hR;show wZ _ _ bN [gV (.ref r),td,td,td,td] S Q';dsimp only[bN];nofun
 left;refine fB (d:=d) (a:=3) (bs:=[0,1]) hfu G hf #v[] #v[] λms ns S1 hml hnl hnm f1 k1=>hK _ _ ?_
 clear hK K;have hrt:=f1.lt;nofun
 left;refine rF (d:=d+3) (ls:=[0,1,2]) G hsh (f1.ka .push) ah #v[] #v[] (by show 3 < fuel; omega) λq ps S2 e2 nd mem hl hq f2 k2=>hK _ _ ?_
 clear hK K;have hps:ps∈am:=bU.mpr #[#[nd,λp hp=>by have:=mem p hp; simp at this; omega],hl]
 have hgs:RuleAt 3 [0,1] ms ns (Cm ps):=#[#[#v[],.inr (.inl rfl),#v[],#v[]],hml,hnl,hnm,Eu ps hps,λg hg=>?_]
 case refine_1=>
  have:∀s∈am,∀g∈Cm s,g∈aN 3 [0,1]:=by decide +kernel
  exact this ps hps g hg
 obtain⟨i,j,h,rfl,hi,hj,hh,_⟩:=pS hps;have kk:Kp r S S2:=k1.trans (Kp.push.trans k2);have hql:=bK e2;have hr2:=f2.lt;refine st ?_;dsimp only[wS,wE,wA,Jr];nofun
 refine bC 2 (λm Z S'=>(∃a4,Z=[gV (.ref r),gV (b9 ms ns [0,1] []),gV (.ref q),gV (.ref S2.length),a4])/\S'[S2.length]?=gV (.lst (((Cm [i,j,h]).take m).map au))/\S'[q]?=gV (.lst (az [i,j,h]))/\Fl S' r/\Kp r S S') rfl rfl #v[] #[rfl,#[_,rfl],ah,aq e2,f2.ka .push,kk.trans .push] ?_ ?_
 ·rintro m Z S3 hm ⟨⟨a4,rfl⟩,e3,q3,f3,k3⟩ Q2 hn _;clear hK k;have hu:GoodW 3 2 (w3 ((i:Jk),(j:Jk),(h:Jk)) m m m):=tm (m0:=(i:Jk)) (m1:=(j:Jk)) (m2:=(h:Jk)) (x:=m) (y:=m) (z:=m) #[∅,∅] #[∅,∅] #[∅,∅] #[∅,∅] #[∅,∅] #[∅,∅]
  refine st ?_;left;refine#[cK e3,dv (i:=0) q3 rfl (dv (i:=1) q3 rfl (dv (i:=2) q3 rfl ?_))];refine iO (d:=d+2) (m0:=.tup (ms.map W.str)) (b0:=.tup []) (bs:=[0,1]) (u:=w3 ((i:Jk),(j:Jk),(h:Jk)) m m m) G (.inr (.inl rfl)) hnl hu rfl λS4 k4=>?_
  have e4:=k4.get _ _ e3;refine ab (sT e4 (by rw[Kq,Jb,JQ]; omega)) (aR (hn _ _ #[#[_,rfl],?_,?_,(f3.ka k4).own ∅,(k3.trans (k4.kp r)).late kk.len]))
  ·rw[bg e4];rcases(show m=0\/m=1 by omega)with rfl|rfl <;> rfl
  ·rw[aY ∅]; exact k4.get _ _ q3
 ·rintro Z S3 ⟨⟨a4,rfl⟩,e3,q3,f3,k3⟩;refine hK _ _ (st ?_);left;refine ae #v[] rfl (ae #v[] rfl ?_)
  refine qX (us:=Cm [i,j,h]) (by simp only[dD,aK e3]; rfl) (by show 2 < 64; omega) (λu hu=>kY (hgs.mem u hu)) (eT ah (k _ _ #[3,[0,1],ms,ns,Cm [i,j,h],rfl,hgs,rfl,rfl,_,hps,rfl] (f3.ka .push) (k3.trans .push)))
end
abbrev j7:Ss:=
 #v[.set 1 (.own "_law_flow" 1 #v[.v 0]),.set 2 (.cmp .gt (.own "_law_pick" 2 #v[.v 1,.c (.int 4)]) (.c (.int 0))),.ite (.v 2) #v[.set 3 (.own "_law_laying_rule" 1 #v[.v 1])] #v[.set 3 (.ow2 "_law_unlaying_rule" "_law_third_rule" 1 (.own "_law_pick" 2 #v[.v 1,.c (.int 2)]) #v[.v 1])],.set 4 (.own "_law_bad" 1 #v[.v 3]),.set 5 (.own "unlaid" 1 #v[.v 3]),.set 6 (.own "put_on" 1 #v[.v 3]),.ite (.or (.cmp .ne (.cmp .is (.v 5) (.c .non)) (.v 2)) (.not (.own "_law_told_right" 4 #v[.v 3,.v 4,.v 5,.c (.bl false)]))) #v[.ret (.c (.bl false))] .nil,.ite (.or (.not (.own "_law_told_right" 4 #v[.v 3,.v 4,.v 6,.c (.bl true)])) (.and (.cmp .is (.v 6) (.c .non)) (.not (.v 2)))) #v[.ret (.c (.bl false))] .nil,.ite (.and (.v 2) (.not (.own "_law_drawn_filled" 5 #v[.v 1,.v 3,.v 4,.c (.int 6),.cmp .is (.v 6) (.c .non)]))) #v[.ret (.c (.bl false))] .nil,.ret (.and (.cmp .eq (.own "unlaid" 1 #v[.v 3]) (.v 5)) (.cmp .eq (.own "put_on" 1 #v[.v 3]) (.v 6)))]
structure Lw27 (defs:Ja (JG×Df)):Prop where
 gen:Gen defs
 unl:Unl defs
 put:Is defs ("put_on" : JG) 1 1 gy
 pai:Pai defs
 tol:Tol defs
 drw:Is defs ("_law_drawn_filled" : JG) 5 10 br
 flow:Is defs ("_law_flow" : JG) 1 1 d7
 bad:Is defs ("_law_bad" : JG) 1 4 eV
 shuf:Is defs ("_law_shuffled" : JG) 2 4 bM
 third:Is defs ("_law_third_rule" : JG) 1 5 bN
 law:Is defs ("law" : JG) 1 7 j7
def zm {U U':Ja (T×W)}{a c:Jg}{bs:Ja Jk}{w:W}(h:∀t,(aJ U t).isSome=(aJ U' t).isSome)(hF:vB a bs U c w):vB a bs U' c w:=by
 have cf:∀(k1 k2:Ja (T×W)),(∀t,(aJ k1 t).isSome=(aJ k2 t).isSome)->∀u p q,Cf a bs.length k1 u p q->Cf a bs.length k2 u p q:=λk1 k2 h u p q hC=>by
  have hm:∀p:Pt,bu k1 u u.length p=true->bu k2 u u.length p=true:=λp hp=>by
   rw[ba]at hp ⊢;intro q hq p' hp';rw[<- ql h]; exact hp q hq p' hp'
  refine#[hC.gu,λk hk j hj i hi=>?_,hC.gp,hm p hC.mp,hC.gq,hm q hC.mq]
  have:=hC.su k hk j hj i hi;unfold cw at this ⊢;rw[<- h]; exact this
 have fu:∀(k1 k2:Ja (T×W)),(∀t,(aJ k1 t).isSome=(aJ k2 t).isSome)->∀u p q,Full k1 bs c u p q->Full k2 bs c u p q:=λk1 k2 h u p q hF i hi=>by rw[<- eZ h]; exact hF i hi
 rcases hF with⟨rfl,hn⟩|⟨x,rfl,hC,hF,hl⟩
 ·exact .inl #[rfl,λ#[u,p,q,h1,h2]=>hn #[u,p,q,cf U' U (λt=>(h t).symm) u p q h1,fu U' U (λt=>(h t).symm) u p q h2]]
 ·exact .inr #[x,rfl,cf U U' h _ _ _ hC,fu U U' h _ _ _ hF,hl]
def Cn {S:aa}{a c:Jg}{bs:Ja Jk}{U:Ja (T×W)}{w:W}(h:vB a bs U c w):aP .eq w w S=gV (.bl true,S):=by
 rcases h with⟨rfl,_⟩|⟨x,rfl,_⟩
 ·rfl
 ·show(fO (gU S (17+2)) [au x.1,ay x.2.1,ay x.2.2] [au x.1,ay x.2.1,ay x.2.2]).map _=_;have e1:gU S (17+2) (au x.1) (au x.1)=gV true:=by
   show fO (gU S (16+2)) (x.1.map ay) (x.1.map ay)=_;rw[pV,Kf rfl]
  have e2:∀p:Pt,gU S (17+2) (ay p) (ay p)=gV true:=λp=>by rw[re,Kf rfl]
  simp only[fO,e1,e2];rfl
def zn {bs:Ja Jk}{gs gs':Ja Wd}{U:Ja (T×W)}(h:HasD U (aM bs gs))(p:gs.Perm gs'):HasD U (aM bs gs'):=by
 have q:(aM bs gs).Perm (aM bs gs'):=p.flatMap_right _;exact#[λt=>(h.iff t).trans (q.map cy).mem_iff,by rw[<- q.length_eq]; exact h.len]
abbrev IB (b:JL)(a:Jg)(bs:Ja Jk)(gs:Ja Wd):Prop:=if b then yv a bs gs else(EE a bs gs\/lJ a bs gs)
def BR {b:JL}{a:Jg}{bs:Ja Jk}{ms ns:Ja JG}{gs:Ja Wd}{U:Ja (T×W)}(hR:RuleAt a bs ms ns gs)(hd:HasD U (aM bs gs))(h:IB b a bs gs):ou a bs U (bs.length+1)↔b=false:=by
 cases b with
 | true=>exact#[λu=>absurd u (Il hR hd h),λz=>by cases z]
 | false=>
  refine#[λ_=>rfl,λ_=>?_]
  rcases(show EE a bs gs\/lJ a bs gs from h)with h|h
  ·exact Et hd h
  ·exact vy hd h
def zo {S:aa}{a c:Jg}{bs:Ja Jk}{U:Ja (T×W)}{w:W}(h:vB a bs U c w):∃n:JL,aP .is w .non S=gV (.bl n,S)/\(n=true↔¬ ou a bs U c):=by
 rcases h with⟨rfl,hn⟩|⟨x,rfl,hC,hF,_⟩
 ·exact#[true,rfl,by simpa using hn]
 ·exact#[false,rfl,by
   simp only[KF,false_iff,RX];exact#[_,_,_,hC,hF]]
section
variable{defs:Ja (JG×Df)}{fuel d:Jg}{S:aa}{Q:QW}
def zp (hfu:50 < fuel)(L:Lw27 defs){zs:Ja Jk}:∃S',ar defs fuel (d+12) "law" [.ref 0] [.fro (zs.map W.int)]=gV (.bl true,S'):=by
 suffices h:wO (aF (ar defs fuel (d+12)) "law" 1 [.ref 0] [.fro (zs.map W.int)]) (λp=>p.1=.bl true) by
  obtain⟨⟨v,S'⟩,e,q⟩:=bL h;cases(show v=.bl true from q)
  exact#[S',e]
 have G:=L.gen;refine aw L.law rfl rfl λQ' hR=>?_
 show wZ _ _ j7 [gV (.ref 0),td,td,td,td,td,td] [.fro (zs.map W.int)] Q';unfold j7;nofun
 left;refine Eb (d:=d+10) L.flow (ns:=zs) rfl λr S1 _ f1=>hK _ _ ?_
 clear hK K;nofun
 left;refine aU (d:=d+10) G.pick f1 #v[] #v[] λv S2 _ _ f2 _=>?_
 refine ab (show aP .gt (.int v) (.int 0) S2=gV (.bl (decide ((0:Jk) < v)),S2)from rfl) (hK _ _ ?_)
 clear hK K f1;generalize decide ((0:Jk) < v)=b;nofun
 have tl:∀(w:W) (S:aa),RuleG (IB b) w->Fl S r->K [gV (.ref 0),gV (.ref r),gV (.bl b),gV w,td,td,td] S:=by
  clear f2;intro w S2 hw f2;refine hK _ _ ?_;clear hK K;obtain⟨a,bs,ms,ns,gs0,rfl,hr,htw⟩:=hw;have hb:=hr.size.good;have hnl:=hr.nl;have hml:=hr.ml;have hpos:=hr.size.pos;have ha3:=hr.size.a3;have pm:(gd gs0).Perm gs0:=wD;have hgs:∀g∈gd gs0,GoodW a bs.length g/\g.length=3:=λg hg=>mP hb (hr.mem g (pm.mem_iff.mp hg))
  have h64:(gd gs0).length<=100:=by
   have h1:=jo gs0 _ hr.nd hr.mem;have h2:=og hr.size;rw[pm.length_eq]; omega
  have hU:∀U:Ja (T×W),HasD U (aM bs (gd gs0))->(ou a bs U (bs.length+1)↔b=false):=λU h=>BR hr (zn h pm) htw
  clear hr pm htw;unfold b9;generalize gd gs0=gs at hgs h64 hU;clear gs0;have hb1:0 < bs.length:=by rcases hb with rfl|rfl|rfl|rfl|rfl|rfl <;> decide
  have ml:(ms.map W.str).length=a:=by rw[Jb,hml]
  nofun
  left;refine Gs (d:=d+8) G L.bad hb hnl hgs h64 λq U S3 e3 h3 hq k3=>hK _ _ ?_
  clear hK K;have f3:=f2.ka k3;have hqr:q≠r:=by have:=f2.lt; omega
  clear k3 hq f2;replace hU:=hU U h3;have ul:∀(S:aa) (Q:QW),(∀w U S',HasD U (aM bs gs)->vB a bs U (bs.length+1) w->BK a bs U (bs.length+1) w->Ka S S'->Q (w,S'))->wO (aF (ar defs fuel (d+11)) "unlaid" 1 [.tup [.tup (ms.map W.str),.tup (JA aE ns bs),.tup (gs.map au)]] S) Q:=λS Q h=>yZ (d:=d) ∅ L.unl hb hnl ml ha3 hgs h64 h
  have po:∀(S:aa) (Q:QW),(∀w U S',HasD U (aM bs gs)->vB a bs U bs.length w->BK a bs U bs.length w->Ka S S'->Q (w,S'))->wO (aF (ar defs fuel (d+11)) "put_on" 1 [.tup [.tup (ms.map W.str),.tup (JA aE ns bs),.tup (gs.map au)]] S) Q:=λS Q h=>y4 (d:=d) ∅ L.unl L.put hb hnl ml ha3 hgs h64 h
  nofun
  left;refine ul _ _ λw5 U5 S4 h5 hf5 hd5 k4=>hK _ _ ?_
  clear hK K;have e4:=k4.get _ _ e3;have f4:=f3.ka k4;clear e3 f3 k4;nofun
  left;refine po _ _ λw6 U6 S5 h6 hf6 hd6 k5=>hK _ _ ?_
  clear hK K;have e5:=k5.get _ _ e4;have f5:=f4.ka k5;clear e4 f4 k5;replace hf5:=zm (U':=U) (λt=>by rw[h5.get,h3.get]) hf5
  replace hf6:=zm (U':=U) (λt=>by rw[h6.get,h3.get]) hf6
  have less:ou a bs U (bs.length+1)->ou a bs U bs.length:=λ#[u,p,q,h1,h2]=>#[u,p,q,h1,λi hi=>h2 i ∅]
  nofun
  dsimp only[wS,wT,wE,wA,wV,wG];obtain⟨n5,i5,j5⟩:=zo (S:=S5) hf5;obtain rfl:n5=b:=by
   rw[hU]at j5;cases n5 <;> cases b <;> simp at j5 ⊢
  refine ab i5 ?_;refine ab (show aP .ne (.bl n5) (.bl n5) S5=gV (.bl false,S5) by cases n5 <;> rfl) ?_
  dsimp only[wB];refine#[λz=>(by cases z),λ_=>?_]
  refine y9 (d:=d+7) L.tol (bw:=false) hb hnl ml h3.get e5 hf5 λS6 k6=>?_
  refine ab (show cU S6 (.bl true)=gV true from rfl) ?_
  refine aj (Q0:=Q') (λz=>by cases z) (λ_ Q2 hn2 _=>aR (hn2 _ _ (hK _ _ ?_)))
  clear hn2 hK K i5;have e6:=k6.get _ _ e5;have f6:=f5.ka k6;clear e5 f5 k6;nofun
  dsimp only[wS,wT,wE,wA,wV,wG];refine y9 (d:=d+7) L.tol (bw:=true) hb hnl ml h3.get e6 hf6 λS7 k7=>?_
  have e7:=k7.get _ _ e6;have f7:=f6.ka k7;clear e6 f6 k7;obtain⟨n6,i6,j6⟩:=zo (S:=S7) hf6;have hn:n6=true->n5=true:=λz=>by
   have:=j6.mp z;cases n5 with
   | true=>rfl
   | false=>exact absurd (less (hU.mpr rfl)) this
  refine ab (show cU S7 (.bl true)=gV true from rfl) #[λz=>(by cases z),λ_=>?_]
  refine ab i6 ?_;have nxt:K [gV (.ref 0),gV (.ref r),gV (.bl n5),gV (.tup [.tup (ms.map W.str),.tup (JA aE ns bs),.tup (gs.map au)]),gV (.ref q),gV w5,gV w6] S7:=by
   refine hK _ _ ?_;clear hK K;have fin:∀S8:aa,wZ (ar defs fuel (d+11)) fuel #v[.ret (.and (.cmp .eq (.own "unlaid" 1 #v[.v 3]) (.v 5)) (.cmp .eq (.own "put_on" 1 #v[.v 3]) (.v 6)))] [gV (.ref 0),gV (.ref r),gV (.bl n5),gV (.tup [.tup (ms.map W.str),.tup (JA aE ns bs),.tup (gs.map au)]),gV (.ref q),gV w5,gV w6] S8 Q':=λS8=>by
    refine st ?_;left;refine ul _ _ λw9 U9 S9 h9 _ hd9 _=>?_
    rw[qh hb1 (λt=>by rw[h9.get,h5.get]) hd9 hd5]
    refine ab (Cn hf5) ?_;dsimp only[wB];refine#[λ_=>?_,λz=>by cases z]
    refine po _ _ λw10 U10 S10 h10 _ hd10 _=>?_
    rw[qh hb1 (λt=>by rw[h10.get,h6.get]) hd10 hd6]
    exact ab (Cn hf6) (hR _ _ rfl)
   nofun
   dsimp only[wS,wT,wE,wA,wV,wG];refine ab (show cU S7 (.bl n5)=gV n5 from rfl) #[λz=>?_,λz=>aj (Q0:=Q') (λz=>by cases z) (λ_ Q2 hn2 _=>aR (hn2 _ _ (hK _ _ (fin _))))]
   refine ab i6 ?_;refine zb (d:=d+6) (bw:=n6) (N:=6) G L.pai L.tol L.drw hb hnl ml hpos ha3 h3.get e7 hqr f7 ?_ #v[] λS8 _ _=>?_
   ·cases n6 with
    | true=>exact j6.mp rfl
    | false=>
     intro u;have:=hU.mp u;rw[z]at this; cases this
   refine ab (show cU S8 (.bl true)=gV true from rfl) ?_
   exact aj (Q0:=Q') (λz=>by cases z) (λ_ Q2 hn2 _=>aR (hn2 _ _ (hK _ _ (fin _))))
  dsimp only[wB];refine#[λz=>?_,λz=>aj (Q0:=Q') (λz=>by cases z) (λ_ Q2 hn2 _=>aR (hn2 _ _ nxt))]
  have hz:=hn z;refine ab (show cU S7 (.bl n5)=gV n5 from rfl) ?_
  refine aj (Q0:=Q') (λy=>by rw[hz]at y; cases y) (λ_ Q2 hn2 _=>aR (hn2 _ _ nxt))
 clear hK;dsimp only[wS,wT,wE,wA,wV,wG];refine ab (show cU S2 (.bl b)=gV b from rfl) ?_
 refine aj (Q0:=Q') (λz Q2 hn2 _=>?_) (λz Q2 hn2 _=>?_)
 ·subst z;refine st ?_;left;exact yy (d:=d+4) ∅ G f2 λw S3 hw f3 _=>aR (hn2 _ _ (tl w S3 (hw.imp λ_ _ _ h=>h) f3))
 ·subst z;refine st ?_;left;refine aU (d:=d+10) G.pick f2 #v[] #v[] λv3 S3 v30 v32 f3 _=>?_
  rcases(show v3=0\/v3=1 by omega)with rfl|rfl
  ·exact .inl #[rfl,q9 (d:=d+5) ∅ G L.pai.un f3 λw S4 hw f4 _=>aR (hn2 _ _ (tl w S4 (hw.imp λ_ _ _ h=>.inl h) f4))]
  ·exact .inr #[rfl,BQ (d:=d+5) ∅ G L.shuf L.third f3 λw S4 hw f4 _=>aR (hn2 _ _ (tl w S4 (hw.imp λ_ _ _ h=>.inr h) f4))]
end
abbrev mV (i:Jg):L4:=PySem.Challenge.pw_layworld_k27_rules_that_lay.main.body.getD i (.Pass #[0,0,0,0])
abbrev Co:Df:=#[["_law_script"],["_law_script","_law_flow_here","_law_lays","_law_rule","_law_bad_here","_law_told","_law_apart"],j7]
noncomputable abbrev Tw:=JG×Jg×Df×Jg
noncomputable abbrev tw (x:JG)(i:Jg)(d:Df)(a:Jg):Tw:=(x,i,d,a)
abbrev TL:Ja Tw:=[tw "way" 1 #[["rule","world","i","j"],["rule","world","i","j"],tq] 21,tw "part" 3 #[["rule","world","points"],["rule","world","points"],jt] 26,tw "point_over" 4 #[["rule","world","ahead","point"],["rule","world","ahead","point"],dP] 31,tw "longer_orders" 5 #[["orders","size"],["orders","size","longer","order"],bx] 36,tw "back" 7 #[["rule","way"],["rule","way"],jx] 43,tw "barred_threes" 9 #[["rule"],["rule","orders","barred","figure","order"],bT] 50,tw "three_at" 10 #[["world","i","j","k"],["world","i","j","k","one","two"],bF] 57,tw "first_bar" 11 #[["barred","world"],["barred","world","last","point"],aX] 64,tw "wishes_over" 12 #[["rule","barred","world"],["rule","barred","world","found","mark","heads","size"],cC] 69,tw "longer_wishes" 13 #[["rule","heads"],["rule","heads","longer","mark","ways"],bz] 74,tw "all_bars" 15 #[["rule","barred","base","one","other"],["rule","barred","base","one","other","bars"],fE] 79,tw "with_both" 16 #[["rule","base","one","other","number"],["rule","base","one","other","number"],dA] 86,tw "same_bar" 17 #[["one","other"],["one","other","apart"],ee] 91,tw "unlaid" 19 #[["rule"],["rule"],iY] 98,tw "put_on" 20 #[["rule"],["rule"],gy] 105,tw "first_unfilled" 21 #[["rule","counted"],["rule","counted","barred","mark","other","found"],cp] 112,tw "unfilled_behind" 22 #[["rule","barred","tried","counted"],["rule","barred","tried","counted","bars","place","longer","found"],bE] 119,tw "longer_by_a_point" 23 #[["rule","barred","tried"],["rule","barred","tried","longer","point","base","others","one"],bI] 124,tw "longer_by_a_way" 24 #[["rule","barred","base","wish"],["rule","barred","base","wish","longer"],bD] 129,tw "_law_flow" 26 #[["_law_script"],["_law_script"],d7] 136,tw "_law_pick" 27 #[["_law_flow_here","_law_many"],["_law_flow_here","_law_many","_law_cell","_law_digit"],cL] 143,tw "_law_shuffled" 28 #[["_law_flow_here","_law_things"],["_law_flow_here","_law_things","_law_left","_law_told"],bM] 150,tw "_law_names" 29 #[["_law_flow_here","_law_many"],["_law_flow_here","_law_many"],eF] 155,tw "_law_between" 30 #[["_law_rule","_law_world_here","_law_i","_law_j"],["_law_rule","_law_world_here","_law_i","_law_j"],dq] 162,tw "_law_part" 31 #[["_law_rule","_law_world_here","_law_points"],["_law_rule","_law_world_here","_law_points","_law_told","_law_k","_law_i"],fA] 167,tw "_law_turns" 32 #[[],[],ga] 174,tw "_law_figure" 33 #[["_law_rule","_law_three"],["_law_rule","_law_three"],dL] 179,tw "_law_bad" 34 #[["_law_rule"],["_law_rule","_law_bad_here","_law_three","_law_points"],eV] 186,tw "_law_may" 35 #[["_law_rule","_law_bad_here","_law_world_here"],["_law_rule","_law_bad_here","_law_world_here","_law_k"],ff] 193,tw "_law_last_may" 36 #[["_law_rule","_law_bad_here","_law_world_here","_law_k"],["_law_rule","_law_bad_here","_law_world_here","_law_k","_law_mark","_law_to","_law_j","_law_i"],aH] 200,tw "_law_backs" 37 #[["_law_flow_here","_law_many"],["_law_flow_here","_law_many","_law_menu"],eC] 207,tw "_law_rule_of" 38 #[["_law_flow_here","_law_marks","_law_backs_here","_law_barred"],["_law_flow_here","_law_marks","_law_backs_here","_law_barred","_law_names_here","_law_ways"],dt] 212,tw "_law_free_three" 39 #[["_law_flow_here","_law_marks","_law_ways"],["_law_flow_here","_law_marks","_law_ways","_law_told","_law_k"],ci] 217,tw "_law_sizes" 40 #[["_law_flow_here"],["_law_flow_here","_law_menu"],eE] 224,tw "_law_laying_kind" 41 #[["_law_flow_here"],["_law_flow_here","_law_menu"],b7] 231,tw "_law_breaks" 42 #[["_law_backs_here","_law_must","_law_to_one","_law_to_two","_law_between_here"],["_law_backs_here","_law_must","_law_to_one","_law_to_two","_law_between_here","_law_to","_law_pair_here","_law_x","_law_y","_law_z"],dM] 238,tw "_law_numbered" 43 #[["_law_flow_here","_law_backs_here","_law_must"],["_law_flow_here","_law_backs_here","_law_must","_law_many","_law_menu","_law_some","_law_numbers","_law_told","_law_k","_law_other","_law_u","_law_v"],bo] 243,tw "_law_laying_rule" 44 #[["_law_flow_here"],["_law_flow_here","_law_form","_law_backs_here","_law_must","_law_most","_law_marks","_law_rule","_law_barred","_law_many","_law_at","_law_one","_law_two","_law_between_here","_law_some","_law_first"],b8] 250,tw "_law_rising" 45 #[["_law_marks"],["_law_marks","_law_told","_law_i","_law_j"],dN] 255,tw "_law_free_rule" 46 #[["_law_flow_here"],["_law_flow_here","_law_marks","_law_ways","_law_rule","_law_k","_law_own","_law_free","_law_barred","_law_three"],cG] 260,tw "_law_one_way_rule" 47 #[["_law_flow_here"],["_law_flow_here","_law_marks","_law_barred"],bQ] 265,tw "_law_unlaying_rule" 48 #[["_law_flow_here"],["_law_flow_here","_law_form","_law_rule","_law_barred","_law_some","_law_one","_law_two","_law_between_here","_law_first","_law_marks"],bf] 270,tw "_law_new_ways" 49 #[["_law_flow_here","_law_rule","_law_bad_here","_law_world_here","_law_mark","_law_to"],["_law_flow_here","_law_rule","_law_bad_here","_law_world_here","_law_mark","_law_to","_law_k","_law_left","_law_w","_law_seen","_law_i"],aS] 277,tw "_law_world" 50 #[["_law_flow_here","_law_rule","_law_bad_here","_law_many"],["_law_flow_here","_law_rule","_law_bad_here","_law_many","_law_world_here","_law_k","_law_mark","_law_to"],dz] 284,tw "_law_new_point" 51 #[["_law_flow_here","_law_rule","_law_bad_here","_law_base"],["_law_flow_here","_law_rule","_law_bad_here","_law_base","_law_first","_law_k","_law_mark","_law_to"],cH] 291,tw "_law_near" 52 #[["_law_flow_here","_law_rule","_law_bad_here","_law_base","_law_point"],["_law_flow_here","_law_rule","_law_bad_here","_law_base","_law_point","_law_mark","_law_to","_law_kind","_law_at"],fF] 298,tw "_law_pair" 53 #[["_law_flow_here","_law_rule","_law_bad_here","_law_many"],["_law_flow_here","_law_rule","_law_bad_here","_law_many","_law_base","_law_one","_law_other"],fG] 305,tw "_law_both" 54 #[["_law_rule","_law_base","_law_one","_law_other","_law_number"],["_law_rule","_law_base","_law_one","_law_other","_law_number"],dj] 312,tw "_law_fills" 55 #[["_law_rule","_law_bad_here","_law_base","_law_one","_law_other"],["_law_rule","_law_bad_here","_law_base","_law_one","_law_other","_law_found","_law_number"],dB] 319,tw "_law_is_world" 56 #[["_law_rule","_law_thing"],["_law_rule","_law_thing","_law_k","_law_point","_law_number","_law_numbers","_law_many"],ce] 324,tw "_law_unfilled" 57 #[["_law_rule","_law_bad_here","_law_thing","_law_by_ways"],["_law_rule","_law_bad_here","_law_thing","_law_by_ways","_law_base","_law_one","_law_other","_law_point","_law_found"],da] 331,tw "_law_told_right" 58 #[["_law_rule","_law_bad_here","_law_told","_law_by_ways"],["_law_rule","_law_bad_here","_law_told","_law_by_ways","_law_most"],cq] 338,tw "_law_drawn_filled" 59 #[["_law_flow_here","_law_rule","_law_bad_here","_law_turns_here","_law_by_ways"],["_law_flow_here","_law_rule","_law_bad_here","_law_turns_here","_law_by_ways","_law_k","_law_base","_law_one","_law_other","_law_found"],br] 345,tw "_law_third_rule" 60 #[["_law_flow_here"],["_law_flow_here","_law_rule","_law_marks","_law_barred","_law_k"],bN] 352,tw "law" 61 Co 359]
abbrev jL:Ja (JG×Df):=TL.map λp=>(p.1,p.2.2.1)
abbrev Im:Ja (JG×Jg):=TL.map λp=>(p.1,p.2.2.1.ps.length)
abbrev BS:Ja JG:=["range","len","list","tuple","int","sorted","isinstance","bool","str","all","min","enumerate"]
abbrev EF:Md:=#[Im,BS]
abbrev BD (x:JG)(st:L4)(df:Df):Prop:=∀(kV doc pm:Jd) (an:Ji Jn) (cdv ct:Jd) (us:Ja Jd),us.length=df.ps.length->bindArgs (Lo x x (dI st) (cD st) (aW st) .none kV doc pm an cdv ct) #[us,[]]=pure (df.ps.zip us)
def IQ {us:Ja Jd}(h:us.length=0):us=[]:=match us,h with|[],_=>rfl
def IR {us:Ja Jd}(h:us.length=1):∃a,us=[a]:=match us,h with|[a],_=>#[a,rfl]
def IS {us:Ja Jd}(h:us.length=2):∃a b,us=[a,b]:=match us,h with|[a,b],_=>#[a,b,rfl]
def IT {us:Ja Jd}(h:us.length=3):∃a b c,us=[a,b,c]:=match us,h with|[a,b,c],_=>#[a,b,c,rfl]
def IU {us:Ja Jd}(h:us.length=4):∃a b c d,us=[a,b,c,d]:=match us,h with|[a,b,c,d],_=>#[a,b,c,d,rfl]
def IV {us:Ja Jd}(h:us.length=5):∃a b c d e,us=[a,b,c,d,e]:=match us,h with|[a,b,c,d,e],_=>#[a,b,c,d,e,rfl]
def IW {us:Ja Jd}(h:us.length=6):∃a b c d e f,us=[a,b,c,d,e,f]:=match us,h with|[a,b,c,d,e,f],_=>#[a,b,c,d,e,f,rfl]
abbrev DG (p:Tw):Prop:=FC EF (mV p.2.1) p.2.2.1/\FnScope p.2.2.1.N p.2.2.1.ps (aW (mV p.2.1))/\BD p.1 (mV p.2.1) p.2.2.1
def gc {α:Type}{F:α->Prop}{p:α}{L:Ja α}(a:F p)(b:∀q∈L,F q):∀q∈p::L,F q:=List.forall_mem_cons.mpr #[a,b]
def gn {α:Type}{F:α->Prop}:∀q∈([]:Ja α),F q:=λ_ h=>nomatch h
def IX {p:Tw}(a:sP (cS 20 (xF EF (mV p.2.1) p.2.2.1.N)) (cD (mV p.2.1))=gV p.2.2.1.body)(b:FnScope p.2.2.1.N p.2.2.1.ps (aW (mV p.2.1)))(c:BD p.1 (mV p.2.1) p.2.2.1):DG p:=#[a,b,c]
set_option maxHeartbeats 0 in
def Cp:∀p∈TL,DG p:=by
 unfold TL
 repeat refine gc (IX (by kernel_rfl) #[rfl,rfl,rfl,by decide +kernel,rfl,by decide +kernel,by decide +kernel] λ_ _ _ _ _ _ us h=>by
  first
   | (obtain⟨a,rfl⟩:=IR h; rfl)
   | (obtain⟨a,b,rfl⟩:=IS h; rfl)
   | (obtain⟨a,b,c,rfl⟩:=IT h; rfl)
   | (obtain⟨a,b,c,d,rfl⟩:=IU h; rfl)
   | (obtain⟨a,b,c,d,e,rfl⟩:=IV h; rfl)
   | (obtain⟨a,b,c,d,e,f,rfl⟩:=IW h; rfl)
   | (obtain rfl:=IQ h; rfl)) ?_
 exact gn
def IY {f:JG}{m n:Jg}{b:Ss}(h:((jL.lookup f).map λd=>(d.ps.length,d.N.length,d.body))=gV (m,n,b)):Is jL f m n b:=by
 rw[Jf]at h;obtain⟨d,h1,h2⟩:=h;rw[MG,MG]at h2;exact#[d,h1,h2.1,h2.2.1,h2.2.2]
set_option maxHeartbeats 0 in
def GK:Lw27 jL:=by
 repeat' first
  | exact IY (by kernel_rfl)
  | constructor
def lK:∀(L:Ja Tw) (x:JG) (n:Jg),(L.map λp=>(p.1,p.2.2.1.ps.length)).lookup x=gV n->∃p∈L,p.1=x/\p.2.2.1.ps.length=n/\(L.map λp=>(p.1,p.2.2.1)).lookup x=gV p.2.2.1
 | [],x,n,h=>by cases h
 | p::L,x,n,h=>by
  rw[KD,KS]at h;rw[KD,KS];cases e:x==p.1 with
  | true=>
   rw[e]at h;cases h;exact#[p,KM ..,(eq_of_beq e).symm,rfl,rfl]
  | false=>
   rw[e]at h;obtain⟨q,h1,h2,h3,h4⟩:=lK L x n h;exact#[q,Ko _ h1,h2,h3,h4]
section
variable{P:J0}{w:Kc}{K:Jx}{mg:JG->Ji Jd}{base:Kl}
abbrev zq (K:Jx)(mg:JG->Ji Jd)(x:JG)(st:L4)(df:Df):Prop:=∃(f:Jn) (fd:Lr),Fun K x x st f fd/\mg x=gV (.ref f)/\Kv K (.ref f)=true/\Binds K fd df.ps []
def Ev {h:Kl}{x:JG}{st:L4}{df:Df}{f:Jn}{oc:Jd}{od an:Ji Jn}{osl:Kh (Ji Jd)}{kV doc pm cdv ct:Jd}(X:K.In h)(G:h.Ns mainGlobals mg)
  (b:BD x st df)
  (a:Mw K mainGlobals x=gV (gV (.ref f))) (l:K.lookup f=gV #[oc,od,.func (Lo x x (dI st) (cD st) (aW st) .none kV doc pm an cdv ct),osl]) (c:L8 K cdv x=true) (k:Kv K (.ref f)=true):zq K mg x st df:=
 have F:=vX (st:=st) l c k
 #[f,_,F,Ra X G a,k,F.binds b]
def zr {fuel:Jg}(hb:MdOk w K mg EF)(D:∀p∈TL,zq K mg p.1 (mV p.2.1) p.2.2.1):∀d,B3 P w K mg base EF jL fuel d
 | 0=>λf n h=>by
  obtain⟨p,h1,rfl,h2,h3⟩:=lK TL f n h;obtain⟨fa,fd,F,m,kp,b⟩:=D p h1;refine#[fa,fd,p.2.2.1.ps,#[λvs H Q E z=>?_,λA outer s H args us vs Q E hr he hbd hv z=>?_],m,kp,b]
  all_goals
   obtain⟨_,_,_,_,_,_,_,_,z,_⟩:=z;cases z
 | d+1=>λf n h=>by
  obtain⟨p,h1,rfl,h2,h3⟩:=lK TL f n h;obtain⟨g1,g2,_⟩:=Cp p h1;obtain⟨fa,fd,F,m,kp,b⟩:=D p h1;refine#[fa,fd,p.2.2.1.ps,?_,m,kp,b];rw[<- h2];exact B4 F g2 h3 g1 hb (zr hb D d)
def GL {h:Kl}(X:K.In h)(G:h.Ns mainGlobals mg)(z:∀y∈BS,Mw K mainGlobals y=gV td):MdOk w K mg EF:=#[λy hy=>PySem.W.mg_none_of X G (z y hy)]
end
def Ew {l:Oe}{w:Kc}{K:Jx}{h:Kl}{mg:JG->Ji Jd}{fa f:Jn}(X:K.In h)(G:h.Ns mainGlobals mg)(hfa:mg "law" = gV (.ref fa))(hb:MdOk w K mg EF)(D:∀p∈TL,zq K mg p.1 (mV p.2.1) p.2.2.1)
  {oc:Jd} {od an:Ji Jn} {osl:Kh (Ji Jd)} {kV doc pm cdv ct:Jd} (a:Mw K mainGlobals "law" = gV (gV (.ref f))) (l':K.lookup f=gV #[oc,od,.func (Lo "law" "law" (dI (mV 61)) (cD (mV 61)) (aW (mV 61)) .none kV doc pm an cdv ct),osl]) (c:L8 K cdv "law" = true) (k:Kv K (.ref f)=true) :
  ∃fd:Lr,(∀(s:Jh) (v:Jd),Pn s fd #[[v],[]] [("_law_script",v)])/\∀base:Kl,K.In base->base.Ns mainGlobals mg->FnOk l.prog w K mg base rX 12 fa fd ["_law_script"] (uC w K 1 (ar jL 100 12 "law")):=by
 have e:=hfa.symm.trans (Ra X G a);cases e;have F:=vX (st:=mV 61) l' c k;exact#[Lo "law" "law" (dI (mV 61)) (cD (mV 61)) (aW (mV 61)) .none kV doc pm an cdv ct,λs v=>.of_eq rfl,λbase _ _=>B4 (df:=Co) F #[rfl,rfl,rfl,by decide +kernel,rfl,by decide +kernel,by decide +kernel] (by rfl) (by rfl) hb (zr hb D 11)]
def Io {l:Oe}{q:J0}{loose:Ja JG}{XP:(JG->Ji Jd)->Kl->Prop}{YP:Kc->Kl->Prop}{d:DefRec}{K:O7->Jx}(hn:l.most=gV 63)(hdf:d.params.defaults=[])
  (hY:∀(w:Kc) (h:Kl),YP w h->(K w.params).In h)
  (F:∀(w:Kc) (mg:JG->Ji Jd) (fa:Jn) (h:Kl),(K w.params).In h->h.Ns mainGlobals mg->mg d.name=gV (.ref fa)->
   ∃fd:Lr,(∀(s:Jh) (u:Jd),Pn s fd #[[u],[]] [("_law_script",u)])/\∀base:Kl,(K w.params).In base->base.Ns mainGlobals mg->FnOk l.prog w (K w.params) mg base rX 12 fa fd ["_law_script"] (uC w (K w.params) 1 (ar jL 100 12 "law"))) :
  QV q loose XP YP l.row.toRowW d [] (λf vs=>Qz f vs):=
 L2.zX (n:=63) (k:=12) (x:="_law_script") (CX:=λ_=>rX) (sp:=λw=>uC w (K w.params) 1 (ar jL 100 12 "law")) hn #v[] hdf #[rfl,#v[],#v[]] hY F
  (λw H a ns hl hO hS=>DH (zp (defs:=jL) (fuel:=100) (d:=0) #v[] GK) hO hS) λ_ _ _ _ _ z=>z
end Mi
open PySem PySem.W PyProof.Rows L2
set_option maxHeartbeats 0
namespace Mi
section
abbrev pw:J0:=NL
abbrev ge (P:O7)(n:JG)(t:Jg)(v:Jd):Lx:=#[PyData.keyHash P n,.str n t,v]
abbrev kd (a:Jg)(es:Ja Lx)(n:Jg):Jn×KZ:=(a,#[.type "dict",td,.dict es.toArray n,#[]])
abbrev kc (a:Jg)(vs:Ja Jd):Jn×KZ:=(a,#[.type "code",td,.fields vs.toArray,#[]])
abbrev kf (a:Jg)(st:L4)(n:JG)(pm cd:Jd):Jn×KZ:=(a,#[.type "function",td,.func (Lo n n (dI st) (cD st) (aW st) .none .none .none pm td cd .none),#[]])
abbrev Ip (i:Jg):Jd:=if i<=1 then(.str "layworld.worlds" 187)else if i<=5 then(.str "layworld.parts" 199)else if i<=7 then(.str "layworld.rules" 219)else if i<=13 then(.str "layworld.threes" 229)else if i<=17 then(.str "layworld.fillings" 276)else if i<=24 then(.str "layworld.always" 301)else(.str "law_layworld_k27_rules_that_lay" 355)
abbrev kx (a:Jg)(b:JL)(i:Jg)(s:JG)(t:Jg)(l p:Jk)(m:Jg)(R:Jx):Jx:=kc a [.str s t,.str s (t+1),.str "/claim/cut.py" (t+2),.int l 0,.int p 0,.int 0 0,.int 0 0,.int 3 0,.ref (if b then a - 5 else a - 3),.bool true,.int 181 0,.ref (if b then a - 4 else a - 2),.none,if b then .ref (a - 3)else .none,if b then .ref (a - 2)else .none,.ref (a - 1),.int m 0,.int l 0,.str "/claim/cut.py" (m+1)]::kf (a+1) (mV i) s (Ip i) (.ref a)::R
abbrev K0 (P:O7):Jx:=kd 3 [ge P "__name__" 165 (.str "law_layworld_k27_rules_that_lay" 355),ge P "__doc__" 166 .none,ge P "__package__" 167 .none,ge P "__loader__" 168 (.builtin "__main__.__loader__#opaque"),ge P "__spec__" 169 .none,ge P "__annotations__" 170 (.ref 6),ge P "__builtins__" 171 (.ref 4),ge P "__file__" 173 (.str "/claim/cut.py" 172),ge P "__cached__" 174 .none,ge P "way" 198 (.ref 21),ge P "part" 206 (.ref 26),ge P "point_over" 212 (.ref 31),ge P "longer_orders" 218 (.ref 36),ge P "back" 228 (.ref 43),ge P "barred_threes" 241 (.ref 50),ge P "three_at" 253 (.ref 57),ge P "first_bar" 263 (.ref 64),ge P "wishes_over" 269 (.ref 69),ge P "longer_wishes" 275 (.ref 74),ge P "all_bars" 283 (.ref 79),ge P "with_both" 294 (.ref 86),ge P "same_bar" 300 (.ref 91),ge P "unlaid" 309 (.ref 98),ge P "put_on" 316 (.ref 105),ge P "first_unfilled" 328 (.ref 112),ge P "unfilled_behind" 342 (.ref 119),ge P "longer_by_a_point" 348 (.ref 124),ge P "longer_by_a_way" 354 (.ref 129),ge P "_law_flow" 363 (.ref 136),ge P "_law_pick" 373 (.ref 143),ge P "_law_shuffled" 383 (.ref 150),ge P "_law_names" 389 (.ref 155),ge P "_law_between" 399 (.ref 162),ge P "_law_part" 405 (.ref 167),ge P "_law_turns" 411 (.ref 174),ge P "_law_figure" 417 (.ref 179),ge P "_law_bad" 427 (.ref 186),ge P "_law_may" 437 (.ref 193),ge P "_law_last_may" 451 (.ref 200),ge P "_law_backs" 460 (.ref 207),ge P "_law_rule_of" 466 (.ref 212),ge P "_law_free_three" 472 (.ref 217),ge P "_law_sizes" 480 (.ref 224),ge P "_law_laying_kind" 488 (.ref 231),ge P "_law_breaks" 504 (.ref 238),ge P "_law_numbered" 510 (.ref 243),ge P "_law_laying_rule" 531 (.ref 250),ge P "_law_rising" 537 (.ref 255),ge P "_law_free_rule" 543 (.ref 260),ge P "_law_one_way_rule" 549 (.ref 265),ge P "_law_unlaying_rule" 555 (.ref 270),ge P "_law_new_ways" 572 (.ref 277),ge P "_law_world" 586 (.ref 284),ge P "_law_new_point" 600 (.ref 291),ge P "_law_near" 615 (.ref 298),ge P "_law_pair" 628 (.ref 305),ge P "_law_both" 639 (.ref 312),ge P "_law_fills" 652 (.ref 319),ge P "_law_is_world" 658 (.ref 324),ge P "_law_unfilled" 673 (.ref 331),ge P "_law_told_right" 684 (.ref 338),ge P "_law_drawn_filled" 700 (.ref 345),ge P "_law_third_rule" 711 (.ref 352),ge P "law" 724 (.ref 359)] 64::(kx 20 true 1 "way" 189 2 4 196
 (kx 25 false 3 "part" 201 7 3 204
 (kx 30 false 4 "point_over" 207 9 4 210
 (kx 35 false 5 "longer_orders" 213 11 2 216
 (kx 42 true 7 "back" 221 17 2 226
 (kx 49 true 9 "barred_threes" 231 20 1 239
 (kx 56 true 10 "three_at" 242 29 4 251
 (kx 63 true 11 "first_bar" 254 33 2 261
 (kx 68 false 12 "wishes_over" 264 39 3 267
 (kx 73 false 13 "longer_wishes" 270 47 2 273
 (kx 78 false 15 "all_bars" 278 53 5 281
 (kx 85 true 16 "with_both" 284 56 5 292
 (kx 90 false 17 "same_bar" 295 58 2 298
 (kx 97 true 19 "unlaid" 303 64 1 307
 (kx 104 true 20 "put_on" 310 66 1 314
 (kx 111 true 21 "first_unfilled" 317 68 2 326
 (kx 118 true 22 "unfilled_behind" 329 76 4 340
 (kx 123 false 23 "longer_by_a_point" 343 87 3 346
 (kx 128 false 24 "longer_by_a_way" 349 95 4 352
 (kx 135 true 26 "_law_flow" 357 99 1 361
 (kx 142 true 27 "_law_pick" 364 101 2 371
 (kx 149 true 28 "_law_shuffled" 374 116 2 381
 (kx 154 false 29 "_law_names" 384 122 2 387
 (kx 161 true 30 "_law_between" 390 124 4 397
 (kx 166 false 31 "_law_part" 400 128 3 403
 (kx 173 true 32 "_law_turns" 406 134 0 409
 (kx 178 false 33 "_law_figure" 412 136 2 415
 (kx 185 true 34 "_law_bad" 418 138 1 425
 (kx 192 true 35 "_law_may" 428 144 3 435
 (kx 199 true 36 "_law_last_may" 438 149 4 449
 (kx 206 true 37 "_law_backs" 452 156 2 458
 (kx 211 false 38 "_law_rule_of" 461 159 4 464
 (kx 216 false 39 "_law_free_three" 467 163 3 470
 (kx 223 true 40 "_law_sizes" 473 168 1 478
 (kx 230 true 41 "_law_laying_kind" 481 171 1 486
 (kx 237 true 42 "_law_breaks" 489 180 5 502
 (kx 242 false 43 "_law_numbered" 505 188 3 508
 (kx 249 true 44 "_law_laying_rule" 511 203 1 529
 (kx 254 false 45 "_law_rising" 532 223 1 535
 (kx 259 false 46 "_law_free_rule" 538 229 1 541
 (kx 264 false 47 "_law_one_way_rule" 544 242 1 547
 (kx 269 false 48 "_law_unlaying_rule" 550 246 1 553
 (kx 276 true 49 "_law_new_ways" 556 261 6 570
 (kx 283 true 50 "_law_world" 573 274 4 584
 (kx 290 true 51 "_law_new_point" 587 282 4 598
 (kx 297 true 52 "_law_near" 601 290 5 613
 (kx 304 true 53 "_law_pair" 616 301 4 626
 (kx 311 true 54 "_law_both" 629 313 5 637
 (kx 318 true 55 "_law_fills" 640 315 5 650
 (kx 323 false 56 "_law_is_world" 653 321 2 656
 (kx 330 true 57 "_law_unfilled" 659 330 4 671
 (kx 337 true 58 "_law_told_right" 674 339 4 682
 (kx 344 true 59 "_law_drawn_filled" 685 342 5 698
 (kx 351 true 60 "_law_third_rule" 701 349 1 709
 (kx 358 true 61 "law" 712 356 1 722 [])))))))))))))))))))))))))))))))))))))))))))))))))))))))
abbrev IC:Ja Jg:=[3,20,21,25,26,30,31,35,36,42,43,49,50,56,57,63,64,68,69,73,74,78,79,85,86,90,91,97,98,104,105,111,112,118,119,123,124,128,129,135,136,142,143,149,150,154,155,161,162,166,167,173,174,178,179,185,186,192,193,199,200,206,207,211,212,216,217,223,224,230,231,237,238,242,243,249,250,254,255,259,260,264,265,269,270,276,277,283,284,290,291,297,298,304,305,311,312,318,319,323,324,330,331,337,338,344,345,351,352,358,359]
abbrev vq:J0:={ pw with main:={ pw.main with body:=[mV 61] } }
abbrev lo:Ja JG:=[("way" : JG),("part" : JG),("point_over" : JG),("longer_orders" : JG),("back" : JG),("barred_threes" : JG),("three_at" : JG),("first_bar" : JG),("wishes_over" : JG),("longer_wishes" : JG),("all_bars" : JG),("with_both" : JG),("same_bar" : JG),("unlaid" : JG),("put_on" : JG),("first_unfilled" : JG),("unfilled_behind" : JG),("longer_by_a_point" : JG),("longer_by_a_way" : JG),("_law_flow" : JG),("_law_pick" : JG),("_law_shuffled" : JG),("_law_names" : JG),("_law_between" : JG),("_law_part" : JG),("_law_turns" : JG),("_law_figure" : JG),("_law_bad" : JG),("_law_may" : JG),("_law_last_may" : JG),("_law_backs" : JG),("_law_rule_of" : JG),("_law_free_three" : JG),("_law_sizes" : JG),("_law_laying_kind" : JG),("_law_breaks" : JG),("_law_numbered" : JG),("_law_laying_rule" : JG),("_law_rising" : JG),("_law_free_rule" : JG),("_law_one_way_rule" : JG),("_law_unlaying_rule" : JG),("_law_new_ways" : JG),("_law_world" : JG),("_law_new_point" : JG),("_law_near" : JG),("_law_pair" : JG),("_law_both" : JG),("_law_fills" : JG),("_law_is_world" : JG),("_law_unfilled" : JG),("_law_told_right" : JG),("_law_drawn_filled" : JG),("_law_third_rule" : JG)]
abbrev EL (K:Jx)(p:Tw):Prop:=Mw K mainGlobals p.1=gV (gV (.ref p.2.2.2))/\K.lookup p.2.2.2=gV (kf p.2.2.2 (mV p.2.1) p.1 (Ip p.2.1) (.ref (p.2.2.2 - 1))).2/\L8 K (.ref (p.2.2.2 - 1)) p.1=true/\Kv K (.ref p.2.2.2)=true
def IZ {K:Jx}{p:Tw}(e:Mw K mainGlobals p.1=gV (gV (.ref p.2.2.2)))(l:K.lookup p.2.2.2=gV (kf p.2.2.2 (mV p.2.1) p.1 (Ip p.2.1) (.ref (p.2.2.2 - 1))).2)(c:L8 K (.ref (p.2.2.2 - 1)) p.1=true)(k:Kv K (.ref p.2.2.2)=true):EL K p:=#[e,l,c,k]
def GM (P:O7):∀p∈TL,EL (K0 P) p:=by
 unfold TL
 repeat refine gc (IZ (by kernel_rfl) (by kernel_rfl) (by kernel_rfl) (by kernel_rfl)) ?_
 exact gn
def GN (P:O7):∀y∈BS,Mw (K0 P) mainGlobals y=gV td:=by
 unfold BS
 repeat refine gc (F:=λy=>Mw (K0 P) mainGlobals y=gV td) (by kernel_rfl) ?_
 exact gn
def eK:∀P,IC=(K0 P).map (·.1):=λ_=>by kernel_rfl
abbrev hk:PySem.W.Hook:=PySem.W.kHook K0 IC eK
def hl:PySem.W.LeftO pw vq lo (λs=>Rn vq [] s&&Rb [] s) hk.obs hk.val 3640:=λw=>by kernel_rfl
def s0:PySem.Challenge.rw_layworld_k27_rules_that_lay.row.wellSaid=true:=by kernel_rfl
end
end Mi
end ZZ.Lean
open ZZ.Lean
theorem PySem.Challenge.cw_layworld_k27_rules_that_lay_holds : PySem.Challenge.rw_layworld_k27_rules_that_lay.Holds := by
 w_on
 refine PySem.W.holds_law (Kd (Kd (Kd (Kd (Kd (Kd (Kd (Kd (Kd (Kd (Kd (Kd (Kd (Kd (Kd (Kd (Kd (Kd (Mi.s0) (by kernel_rfl)) (by kernel_rfl)) (by kernel_rfl)) (by kernel_rfl)) (by kernel_rfl)) (by kernel_rfl)) (by kernel_rfl)) (by kernel_rfl)) (by kernel_rfl)) (by kernel_rfl)) (by kernel_rfl)) (by kernel_rfl)) (by kernel_rfl)) (by kernel_rfl)) (by kernel_rfl)) (by kernel_rfl)) (by kernel_rfl)) (by kernel_rfl)) (λsaid=>?_)
 refine PySem.W.holds_open (q:=Mi.vq) (loose:=Mi.lo) (Xt:=λs=>Rn Mi.vq [] s&&Rb [] s) (XP:=PySem.W.XL Mi.vq []) (Yf:=Mi.hk.obs) (Ya:=Mi.hk.val) (YP:=Mi.hk.says) (N:=3640) Mi.hl Mi.hk.of Mi.hk.keeps (λs e=>PySem.W.xl_of s (OG.mp e).1) R0 (by rfl) (by rfl) (by rfl) (λs e=>PySem.W.recFacts_of (OG.mp e).2) (by rfl) said (by decide +kernel) #[rfl,rfl,rfl,rfl,rfl,by decide +kernel] ?hw ?hc
 case hw=>w_witness2
 case hc=>
 refine Mi.Io (l:=NM) (K:=Mi.K0) rfl rfl (λw h Yq=>PySem.W.kIn_of Yq) ?F
 case F=>
  intro w mg fa h KX G hmg;exact Mi.Ew KX G hmg (Mi.GL KX G (Mi.GN w.params)) (λp hp=>let ⟨e,l,c,k⟩:=Mi.GM w.params p hp; Mi.Ev KX G (Mi.Cp p hp).2.2 e l c k)
   (f:=359) (oc:=.type "function") (od:=td) (an:=td) (osl:=#[]) (kV:=.none) (doc:=.none) (pm:=(.str "law_layworld_k27_rules_that_lay" 355)) (cdv:=.ref 358) (ct:=.none) (by kernel_rfl) (by kernel_rfl) (by kernel_rfl) (by kernel_rfl)
