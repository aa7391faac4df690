import PyProof.Rows.All
import Wide.All
import OpenK.AllK
import Wide.FinOn
import Lean
import PyProof.EqAt
import PyProof.EqKinds
import PyProof.TupleCall
import PySem.Challenge.RW_layworld_k32_put_on_looked_at
import KE.KDictList
import PyProof.SetKind
import PyProof.IsRules
import KE.KSortTup
import PyProof.CallStr
import PyProof.Cells
import PyProof.ZipIter
import PyProof.Draws
import PyProof.EnumMake
import PyProof.WalksEnum
noncomputable section
open Option renaming some->gV,none->td
set_option hygiene false
local macro_rules|`(abbrev $i:declId $s:optDeclSig $v:declVal)=>`(noncomputable def $i:declId $s:optDeclSig $v:declVal)|`(def $i:declId $b* :$t $v:declVal)=>`(theorem $i:declId $b* :$t $v:declVal)|`(tactic|omega)=>`(tactic|first|lia|omega (config:={}))|`(tactic|show $e:term)=>`(tactic|refine $e:term)|`(tactic|left)=>`(tactic|dsimp only[wS,wE,wA,wV,wG,List.set])|`(tactic|nofun)=>`(tactic|refine aM λK hK=>?_)
local macro_rules|`(#v[])=>`((by decide))|`(#v[$x:term])=>`(.cons $x .nil)|`(#v[$x:term,$y:term,*])=>`(.cons $x #v[$y,*])
local macro_rules|`(#[$x:term])=>`(⟨$x⟩)|`(#[$x:term,$y:term,*])=>`(⟨$x,$y,*⟩)
local macro_rules|`(∅)=>`((by omega))
open _root_ renaming List->G0,Option->G7,Nat->G9,Int->Hg,Bool->HA,if_pos->HE,decide_eq_true_eq->HM,decide_eq_false->HQ,if_neg->HX,Array->Io,of_decide_eq_true->ID,beq_self_eq_true->II,False->IJ,decide_eq_true->IL,String->IN,of_decide_eq_false->JR,if_false->J1,or_false->Kf,if_true->Ki,DecidableEq->Kw,beq_eq_false_iff_ne->KF,forall_congr'->Ni,beq_iff_eq->NB,bne_self_eq_false->NW,True->OC,not_or->Pj,dif_pos->P4
open List renaming length_map->G1,length_append->G3,getElem?_map->Hc,zipWith->He,set->Hh,getElem?_eq_getElem->Hi,mem_singleton->Hk,getElem?_eq_some_iff->Hm,mem_of_getElem?->Hn,range->Ho,size_toArray->Hq,mem_range->Hu,getD_eq_getElem?_getD->Hx,map_append->Hy,mem_map->Hz,all_eq_true->HC,length_take->HD,mem_cons->HF,length_range->HG,mem_append_right->HH,mem_append->HI,mem_cons_of_mem->HN,length_singleton->HS,getElem?_append_left->HV,all_cons->HW,mem_cons_self->Ic,take_add_one->Ig,length_cons->Ih,getElem?_append_right->Ik,take_length->Il,replicate->Iq,getElem_mem->Iu,not_mem_nil->IB,lookup_cons->IC,map_congr_left->IG,map_cons->IK,mem_flatMap->IM,append_nil->IQ,length_zipWith->IT,map_map->IX,length_dropLast->Ja,range_succ->Jd,length_filter_le->Jg,mem_filter->Ji,nodup_cons->Jj,length_nil->Jk,length_drop->Jp,getElem?_set->Jr,replicate_succ->Ju,getElem?_range->Jv,getElem?_eq_none_iff->Jx,getElem_inj->Jy,mem_append_left->JA,flatMap_append->JJ,any_cons->JO,find?_eq_none->JS,getElem?_eq_none->JU,findIdx?_eq_some_iff_getElem->JV,flatten_cons->J2,mem_of_mem_take->J4,flatMap_cons->J5,filterMap_cons->J9,length_pos_iff->Kd,length_eq_zero_iff->Kg,zip_cons_cons->Kj,filter_append->Kl,find?_cons->Ko,map_take->Ks,take_append_drop->Ku,getElem_take->Kv,mem_iff_getElem->KA,getElem?_take_of_lt->KJ,map_inj_right->KU,append_assoc->K6,all_map->K7,ext_getElem?->La,take_of_length_le->Ld,getElem?_dropLast->Le,ext_getElem->Lh,any_eq_true->Lj,eq_nil_of_length_eq_zero->Ll,forall_mem_cons->Lm,eraseDups_cons->Lp,getElem_of_mem->Lq,mem_eraseDups->LD,findSome?_eq_none_iff->LF,getLastD_eq_getLast?->LL,getLast?_eq_getElem?->LM,nodup_append->LS,pairwise_map->LU,set_comm->LW,isEmpty_iff->Mb,perm_middle->Mc,getElem?_set_self->Mg,range_succ_eq_map->Mm,length_pos_of_mem->Mq,drop_of_length_le->Mr,of_mem_zip->Mt,forIn_cons->Mv,find?_some->MB,length_replicate->MC,getElem?_set_ne->MJ,forIn_nil->MR,nodup_nil->MS,take_zero->MU,length_eraseIdx->MW,dropLast_subset->MX,mem_filterMap->No,filterMap_nil->Nz,getElem?_take->NA,take_sublist->NJ,map_nil->NP,zip_nil_left->NQ,all_eq_false->NT,any_eq_false->NY,range'_succ->Ob,any_toArray->Oc,nodup_range->Og,flatMap_nil->Oh,filter_cons->Oi,drop_subset->Oj,map_id->Op,length_set->Ot,nil_append->Ov,foldr_cons->Ox,head?_cons->Oy,foldl->OJ,drop_zero->OU,any_nil->Pk,all_nil->Pl,length->Ps,range'->Pz,Nodup->P1,map->Qg
open PySem renaming wpAny_bind->G2,Value->G4,Shared->G5,Addr->Hb,wpAny_pure->Hd,Str->Hs,Expr->HB,Program->HP,Around->HY,World->Ii,wpAny_newObj_type->Ip,Heap->Iv,sizeLine_eq->IE,wpAny_callSpecial?_slot->IF,wpAny_call_entry->IR,wpAny_truthy_bool->IU,NameKind->IV,wpAny_holding->Jb,Obj->Je,codeAny_builtin->Jm,wpAny_mono->Jn,FuncData->JB,wpAny_field->JC,wpAny_typeNameOfWhole_keyiter->JD,Pos->JE,DictEntry->JF,Spec->JG,wpAny_passesOwn->JX,wpAny_typeNameOf_keyiter->J7,Stmt->J8,mem_of_lookup->Kb,Scope->Kh,plainId_quiet->Kq,wpAny_seqItems->Kz,wpAny_standAt->KI,wpAny_loadPart'->KP,wpAny_Call_Name_kw->KR,wpAny_bindName->K3,wpAny_dictEntries->K8,call_meets->Lg,wpAny_letGo->Lk,wpAny_typeOf->Lr,IsPart->Lx,wpAny_setField->Lz,wpAny_tryCatch->LA,wpAny_pyIter_list->LR,wpAny_attempt->LZ,wpAny_comprehension_free->L1,noFill_tuple_add->L6,wpAny_forIn_list->L7,wpAny_isInstance->L8,Paired->Mf,wpAny_rule->Mh,codeAny_mono->Mj,Builtin->Mn,ItemsOf->Mp,wpAny_execs_nil->Ms,wpAny_dictEpoch->Mw,wpAny_updateSeq->Mx,pushCells_keeps->MA,wpAny_isOneOf_keyiter->MF,GenState->MH,wpAny_of_eq->MN,wpAny_pyIter_keyiter->MO,wpAny_runValue->MQ,PassesOwn->M3,Keyword->M4,Env->Na,rangeSize_one->Nb,seq_tuple_add->Nc,wpAny_newList->Nh,wpAny_load->Nn,wpAny_List_spliced->Np,Params->Nt,wpAny_pyIter_tuple->Nx,wpAny_assign_Name->NE,Operator->NG,BindsTo->NH,concat_meets->NK,wpAny_sequenceKey->NL,seqIndex_neg->NM,list_append->NN,wpAny_pyIter_enum->NX,wpAny_pyHash_int->N2,wpAny_pyHash_str->N3,Result->N5,CmpOp->Ol,seqIndex_of->Om,wpAny_mkInt->On,exec_Assign_arm->Oq,wpAny_Name->OD,typeIs_int->OI,fitsIndex_both->OL,call->ON,SetTable->OO,wpAny_fieldsOf->OQ,isSubtype_stop->OR,wpAny_newTuple->OT,intBits_le_64->O0,evalPart_none->O2,call_list_seq->O3,wpAny_handled->O9,small_one->Pf,call_range_1->Ph,Model->Pp,Sem->Pq,IsRangeIter->Pr,wpAny_throw->PC,wpAny_alloc->PD,BoolOp->PY,IsEnum->PZ,Expr->P0,IsRange->P5,Drawn->Qc,Walks->Qe,Tok->Qj
open Option renaming map_eq_some_iff->G6,map_some->HR,isSome_iff_exists->IA,getD_some->Ma,getD_none->N7,toList->Pc
open Bool renaming and_eq_true->G8,false_ne_true->Ht,false_eq_true->IP,or_eq_true->Jc,not_eq_true'->Js,eq_false_iff->Jt,eq_iff_iff->JI,and_eq_false_iff->Kt,true_and->KN,and_true->LY,false_and->MK,and_assoc->ML,and_eq_true_iff->MY,or_false->Nd,not_true->Nf,false_or->Ng,not_not->NZ
open PySem.Heap renaming get?_push_of_some->Ha,get?_push_size->Hv,lt_size->Hw,get?_update_other->Iz,get?_update_self->JT,SameBut->JZ,get?_update_ne->KH,size_push->Lb,ExtBut->MM,size_update->Oe
open Int renaming natCast_nonneg->Hf,toNat_natCast->Hr,toNat_of_nonneg->Kc,emod_lt_of_pos->Kk,emod_nonneg->KQ,zero_add->Lu,ediv_nonneg->Oz
open Nat renaming le_refl->Hj,lt_of_lt_of_le->HJ,le_trans->HK,ne_of_lt->HL,le_of_ble_eq_true->HU,lt_irrefl->Iw,zero_le->IS,lt_succ_self->Jq,lt_trans->JL,min_self->JM,ne_of_gt->J0,le_succ->J3,sub_self->Km,lt_or_gt_of_ne->Kn,le_of_lt->K1,lt_succ_of_lt->Lc,lt_of_le_of_lt->LC,succ_mul->Ml,lt_of_succ_lt_succ->Mo,mul_le_mul_right->MT,pow_le_pow_right->MV,pow_le_pow_left->M9,add_sub_cancel->Nu,sub_zero->NR,lt_or_ge->NS,succ_le_succ->N9,min_eq_right->Of,not_lt_zero->Ow,min_eq_left->OA,not_lt->OS,mul_le_mul->OV,add_assoc->O7,ble->Ql
open PySem.W renaming Frag->Hl,look_both->Ij,keepIn->Iy,fnOf->Jz,kia_one->JY,codeIn->Ke,nsIn->KB,callWith_K->Lw,methodObj->LO,cellsFrom_some->Mk,OpenLaw->Mu,kat_nil->Mz,KdlSrc->MP,kas_sort->Od,WalkO->O4,recOk->O5,Looks->Pa,mg_of->Pe,xlAt->Pi
open Array renaming length_toList->HZ,getElem?_toList->Jf,getElem?_eq_some_iff->JQ,getElem?_eq_getElem->KD,perm_iff_toList_perm->LB,append_assoc->Nl,forIn_toList->Nv,toList->Pg,getD->PX
open PySem.Value renaming ref->Im,none->Ix,bool->JH,type->Kx,int->L3,str->L4
open Option.some renaming injEq->Ir,inj->IH
open PySem.Str renaming ofString->IW
open PySem.Obj renaming mapSeq->IY,data_mapFields->KS,isFreed_of_fields->MG,cls_mapFields->NU,mapFields->O8
open PySem.Around renaming under_plainId->IZ
open PySem.Builtin.Tuple renaming tupleExact->Jh,tupleItemsOf->Ky,tupleHashOf->LH,tupleCompareSizes->N1,tupleIsExact->OP
open ForInStep renaming yield->Jl
open PySem.Builtin.Range renaming rangeSize->Jo,small->Lo
open PyProof.Rows renaming slot_tuple_getitem->Jw,callWith_type1->JK,assignInOrder_cons->JP,subscriptTail_builtinR->K5,AllBare->LP,assignInOrder_nil->LQ,listUpdate_at->L0,SortKind->L9,get?_update_seq->My,entry_tuple_getitem->M6,lt_int->M7,args_tuple_getitem->Nq,IsTup->ND,unpackItems_tuple->NF,listItems_at->NV,callWith_builtin1->N6,seqEpoch_at->Oo,IntsAre->OB,slicePart_none->OF,Subscript_->OG,item_listR->OH,tupleItemsOf_->O1
open PySem.Builtin.List renaming listExtendWith->JN,listTooLong->J6,listFitsIndex->OM
open PySem.Builtin.Slice renaming slicePlaces->JW,sliceAdjust->KC,sliceApplied->Ly,slicePartIndex->Os,sliceFields->OW
open PySem.NameKind renaming cell->Kr,free->KO
open PySem.Heap.SameBut renaming update->KG,refl->P6
open PySem.F renaming args_tuple_add_2->KL,entry_tuple_add->KW,plainAttrs_list->KZ,slot_tuple_add->K4,slot_tuple_index->LX,slot_dict_get->MD
open PySem.Builtin.SmallTypes renaming ownedTupleIsFree->KM,nextOf->LK,ownedTupleHandOut->M8
open PySem.Env renaming kindOf->KT,blockKind->Pb
open Classical renaming propDecidable->KY,byContradiction->LI
open Function renaming comp_def->K9
open PySem.SeqAt renaming EqAt->Lf,notIn_listAt->Nr,in_tupleAt->N8,in_listAt->Ou
open True renaming intro->Li
open PySem.Builtin.Dict_items renaming ownsTuple->Ln
open PySem.Builtin.Builtins renaming bindParams->Ls
open PySem.Calls renaming Name_function_global->Lv,call_function_entry->LJ,Constant_str->Nm
open PySem.Challenge renaming pw_layworld_k32_put_on_looked_at->LG,rw_layworld_k32_put_on_looked_at->LN
open PySem.Paired renaming length->LV
open PySem.Builtin.Dict renaming showsAll->ME,dictSlotNone->OY,pendingCount->OZ
open Sum renaming inl->MZ,inr->M0
open PyProof.Rows.IsTup renaming new->M2
open PySem.Expr renaming Name->M5,pos->Qf
open PySem.SeqAt.EqAt renaming int_str->Nj,str_int->Nk,none_bool->Pu,bool_none->Pw,bool_bool->Px,none_int->PF,none_str->PH,bool_int->PJ,bool_str->PK,int_none->PL,int_bool->PM,str_none->PN,str_bool->PP,int_int->PR,str_str->PU,same->P9
open PUnit renaming unit->Nw
open PySem.ScopeKind renaming function->Ny
open PySem.AutoListH renaming list___mul___list_int_3->NC
open PySem.AutoSeq1 renaming list_extend_list_list_0->NO,sub_tuple_tuple->O6
open PySem.Flow renaming next->N4
open PySem.IsL renaming update->Oa
open Prod renaming ext->OE
open PySem.Builtin.Str renaming tooLong->OX
open Prod.mk renaming injEq->Pd
open List.Perm renaming append_right->Pn,append_left->Po,swap->Qd,map->Qh
open PySem.MeetsSeq renaming list_pop_at->Py
open PySem.Heap.IsSliceOf renaming new->PQ
open PySem.Walks renaming list->PV
open List.Nodup renaming sublist->P2
open List.Pairwise renaming nil->P3
open PySem.W.Looks renaming ld->P7
open PySem.W.XL renaming keeps->P8
open PySem.PassesOwn renaming never->Qa
open List.cons renaming injEq->Qb,inj->Qi
open PySem.Txt renaming mul->Qk
open Nat.succ renaming inj->Qm
set_option genSizeOf false
namespace ZZ.Lean
noncomputable section
set_option Elab.async false
set_option linter.all false
set_option maxRecDepth 100000
namespace L2
open PySem PySem.Spec PyProof.Rows
noncomputable abbrev lY:=Sum Hg Hs
abbrev Aa:lY->G4->HA
 | .inl k,v=>Value.isInt k v
 | .inr x,v=>Value.isStrOf x v
abbrev E7 (w:Ii):lY->Hg
 | .inl k=>hashInt k
 | .inr x=>hashStr w x
def bu:∀ {k:lY} {v:G4},Aa k v=true->(∃i t,k=MZ i/\v=L3 i t)\/(∃x t,k=M0 x/\v=L4 x t)
 | .inl i,v,h=>by
  obtain⟨t,e⟩:=Value.isInt_shape (k:=i) (v:=v) h;exact .inl #[i,t,rfl,e]
 | .inr x,v,h=>by
  obtain⟨t,e⟩:=Value.isStrOf_shape (x:=x) (v:=v) h;exact .inr #[x,t,rfl,e]
def AH (a b:Hg):decide ((MZ a:lY)=MZ b)=(a==b):=by
 by_cases e:a=b
 ·subst e; simp
 ·have h:¬ (MZ a:lY)=MZ b:=λq=>e (Sum.inl.inj q)
  rw[HQ h];exact(KF.mpr e).symm
def AI (a b:Hs):decide ((M0 a:lY)=M0 b)=decide (a=b):=by
 by_cases e:a=b
 ·subst e; simp
 ·have h:¬ (M0 a:lY)=M0 b:=λq=>e (Sum.inr.inj q)
  rw[HQ h,HQ e]
def AJ (a:Hg)(b:Hs):decide ((MZ a:lY)=M0 b)=false:=HQ (λq=>nomatch q)
def AK (a:Hs)(b:Hg):decide ((M0 a:lY)=MZ b)=false:=HQ (λq=>nomatch q)
abbrev lZ (prog:HP)(w:Ii):PySem.KeyKind prog w lY where
 is:=Aa
 hash:=E7 w
 inj:=λv a b ha hb=>by
  rcases bu ha with⟨i,t,rfl,rfl⟩|⟨x,t,rfl,rfl⟩
  ·rcases bu hb with⟨j,u,rfl,e⟩|⟨y,u,rfl,e⟩
   ·injection e with e1 _; rw[e1]
   ·exact nomatch e
  ·rcases bu hb with⟨j,u,rfl,e⟩|⟨y,u,rfl,e⟩
   ·exact nomatch e
   ·injection e with e1 _; rw[e1]
 byValue:=λk v h=>by
  rcases bu h with⟨i,t,rfl,rfl⟩|⟨x,t,rfl,rfl⟩ <;> rfl
 pyHash:=λhv h=>by
  rcases bu hv with⟨i,t,rfl,rfl⟩|⟨x,t,rfl,rfl⟩
  ·exact N2 h
  ·exact N3 h
 eqBool:=λhu hv h=>by
  rcases bu hu with⟨i,t,rfl,rfl⟩|⟨x,t,rfl,rfl⟩
  ·rcases bu hv with⟨j,u,rfl,rfl⟩|⟨y,u,rfl,rfl⟩
   ·rw[AH]at h; exact wpAny_eqBool_int h
   ·rw[AJ]at h; exact Nj i t y u _ _ _ _ h
  ·rcases bu hv with⟨j,u,rfl,rfl⟩|⟨y,u,rfl,rfl⟩
   ·rw[AK]at h; exact Nk x t j u _ _ _ _ h
   ·rw[AI]at h; exact wpAny_eqBool_str h
 «strs»:=λk x t v h=>by
  rcases bu h with⟨i,u,rfl,e⟩|⟨y,u,rfl,e⟩
  ·exact nomatch e
  ·injection e with e1 _
   subst e1;cases v <;> rfl
inductive V where
 | non|bl (b:HA)|int (i:Hg)|str (x:Hs)|byt (b:Io UInt8)|flt (b:UInt64)|ref (a:Hb)|ty (n:IN)
 deriving Kw
abbrev RelV:V->G4->Prop
 | .non,u=>u=Ix
 | .bl b,u=>u=JH b
 | .int i,u=>∃t,u=L3 i t
 | .str x,u=>∃t,u=L4 x t
 | .byt b,u=>∃t,u=Value.bytes b t
 | .flt b,u=>∃t,u=Value.float b t
 | .ref a,u=>u=Im a
 | .ty n,u=>u=Kx n
noncomputable abbrev Vals:G0 V->G0 G4->Prop:=Mf RelV
def Vals.length {xs:G0 V}{us:G0 G4}(r:Vals xs us):xs.length=us.length:=LV r
def Vals.get:∀ {xs:G0 V} {us:G0 G4} {i:G9} {x:V},Vals xs us->xs[i]?=gV x->∃u,us[i]?=gV u/\RelV x u
 | _,_,_,_,.nil,e=>by simp at e
 | _,_,0,_,.cons r _,e=>by simp at e; subst e; exact#[_,rfl,r]
 | _,_,i+1,x,.cons _ t,e=>by
  obtain⟨u,h1,h2⟩:=Vals.get (i:=i) (x:=x) t (by simpa using e)
  exact#[u,by simpa using h1,h2]
def Vals.set {x:V}{u:G4}(r:RelV x u):∀ {xs:G0 V} {us:G0 G4} (i:G9),Vals xs us->Vals (xs.set i x) (us.set i u)
 | _,_,_,.nil=>.nil
 | _,_,0,.cons _ t=>.cons r t
 | _,_,i+1,.cons q t=>.cons q (Vals.set r i t)
def Vals.append:∀ {xs ys:G0 V} {us ws:G0 G4},Vals xs us->Vals ys ws->Vals (xs++ys) (us++ws)
 | _,_,_,_,.nil,s=>s
 | _,_,_,_,.cons r t,s=>.cons r (Vals.append t s)
def Vals.take:∀ {xs:G0 V} {us:G0 G4} (n:G9),Vals xs us->Vals (xs.take n) (us.take n)
 | _,_,0,_=>.nil
 | _,_,_+1,.nil=>.nil
 | _,_,n+1,.cons r t=>.cons r (Vals.take n t)
def Vals.drop:∀ {xs:G0 V} {us:G0 G4} (n:G9),Vals xs us->Vals (xs.drop n) (us.drop n)
 | _,_,0,r=>r
 | _,_,_+1,.nil=>.nil
 | _,_,n+1,.cons _ t=>Vals.drop n t
abbrev CZ:G7 V->G7 G4->Prop
 | some v,gV u=>RelV v u
 | none,td=>OC
 | _,_=>IJ
abbrev KV {κ:Type}:G0 (κ×V)->G0 (κ×G4)->Prop:=Mf λ(p:κ×V) (q:κ×G4)=>p.1=q.1/\RelV p.2 q.2
abbrev kV:lY->V
 | .inl i=>.int i
 | .inr x=>.str x
inductive HO where
 | lst (xs:G0 V)
 | tup (xs:G0 V)
 | dK (U:G0 (lY×V))|dT (U:G0 (G0 lY×V))
 | set (S:Hg->HA) (n:G9)
 | ins (C dx:Hb) (fs:G0 (Hs×V))
 | own (x:Hb)
 | xd (fs:G0 (Hs×V))
 | met (f x:Hb)
 | rng (lo hi:Hg)
 | frz (o:Je) (u:HO)
 | tbl (ps:Io G4)
 | ext (φ:Iv->Prop)
noncomputable abbrev Hp:=Hb->G7 HO
abbrev bO (H:Hp)(a:Hb)(o:HO):Hp:=λb=>if b=a then gV o else H b
def ba {H:Hp}{a:Hb}{o:HO}:bO H a o a=gV o:=by unfold bO; rw[HE rfl]
def aI {H:Hp}{a b:Hb}{o:HO}(h:b≠a):bO H a o b=H b:=by unfold bO; rw[HX h]
def dQ {H:Hp}{a b:Hb}{o:HO}(h:H a=gV o)(h':H b=td):a≠b:=by
 intro e; subst e; rw[h]at h'; cases h'
section
variable (P:HP) (w:Ii)
abbrev NoD (h:Iv)(a:Hb):Prop:=∃o,h.get? a=gV o/\o.dict=td
def NoD.new (h:Iv)(its:Io G4)(n:G9):NoD (h.push { cls:=.type "tuple",data:=.seq its n }) h.objs.size:=#[_,Hv _ rfl,rfl]
abbrev ObjOk (H:Hp)(h:Iv)(a:Hb):HO->Prop
 | .lst xs=>xs.length<=sizeLine/\∃(its:G0 G4) (n:G9),Vals xs its/\h.get? a=gV { cls:=.type "list",data:=.seq its.toArray n }
 | .tup xs=>(xs.length<=sizeLine/\NoD h a)/\∃its:G0 G4,Vals xs its/\ND h a its.toArray
 | .dK U=>U.length<=sizeLine/\(a==sysModules)=false/\∃vs,KV U vs/\h.DictOf (lZ P w) a vs
 | .dT U=>U.length<=sizeLine/\(a==sysModules)=false/\∃xs:G0 (G0 lY×Hb×G4),
   Mf (λ(p:G0 lY×V) (q:G0 lY×Hb×G4)=>p.1=q.1/\H q.2.1=gV (.tup (p.1.map kV))/\RelV p.2 q.2.2) U xs/\
   ∃o es ep,h.get? a=gV o/\o.ExactDict/\o.data=.dict es ep/\es.toList=xs.map (entryOfKey (tupleKind (lZ P w)))/\(xs.map (·.1)).Nodup
 | .set S n=>h.SetOf (intKind P w) a S n
 | .ins C dx fs=>H dx=gV (.own a)/\fs.length<=1000/\dx≠a/\h.get? a=gV (PySem.W.instObj C dx)/\
   ∃mA,h.Ns1 dx mA/\(∀f,CZ (fs.lookup f) (mA f))/\PySem.Within mA (fs.map (·.1))
 | .own _=>∃o,h.get? a=gV o
 | .xd fs=>∃mA,h.Ns1 a mA/\∀f,CZ (fs.lookup f) (mA f)
 | .rng lo hi=>∃t u v,h.get? a=gV { cls:=.type "range",data:=.fields [.int lo t,.int hi u,.int 1 v].toArray }
 | .frz o u=>h.get? a=gV o/\ObjOk H h a u
 | .tbl ps=>h.get? a=gV { cls:=.none,data:=.fields ps }
 | .met f x=>h.get? a=gV (LO (.ref f) (.ref x))
 | .ext φ=>φ h/\(∃o,h.get? a=gV o)/\∀h1 h2:Iv,φ h1->(∀o,h1.get? a=gV o->h2.get? a=gV o)->φ h2
abbrev HOk (H:Hp)(h:Iv):Prop:=∀a o,H a=gV o->ObjOk P w H h a o
end
section
variable{P:HP}{w:Ii}{H H':Hp}{h h':Iv}{a:Hb}{o:HO}
def ObjOk.lt (x:ObjOk P w H h a o):a < h.objs.size:=by
 cases o with
 | lst xs=>obtain⟨_,_,_,_,e⟩:=x; exact Hw e
 | tup xs=>obtain⟨_,_,_,p⟩:=x; exact p.lt
 | dK U=>obtain⟨_,_,_,_,o,_,_,e,_⟩:=x; exact Hw e
 | dT U=>obtain⟨_,_,_,_,o,_,_,e,_⟩:=x; exact Hw e
 | set S n=>obtain⟨o,_,_,_,e,_⟩:=x; exact Hw e
 | ins C dx fs=>obtain⟨_,_,_,e,_⟩:=x; exact Hw e
 | own y=>obtain⟨_,e⟩:=x; exact Hw e
 | xd fs=>obtain⟨_,⟨_,_,_,e,_⟩,_⟩:=x; exact Hw e
 | rng lo hi=>obtain⟨_,_,_,e⟩:=x; exact Hw e
 | frz ob u=>obtain⟨e,_⟩:=x; exact Hw e
 | tbl ps=>exact Hw (show h.get? a=gV _ from x)
 | met f y=>exact Hw (show h.get? a=gV _ from x)
 | ext φ=>obtain⟨_,⟨_,e⟩,_⟩:=x; exact Hw e
def Paired.mapP {α β:Type}{F G:α->β->Prop}:∀ {l₁:G0 α} {l₂:G0 β},Mf F l₁ l₂->(∀a b,F a b->G a b)->Mf G l₁ l₂
 | _,_,.nil,_=>.nil
 | _,_,.cons r t,f=>.cons (f _ _ r) (Paired.mapP t f)
def ObjOk.stay (x:ObjOk P w H h a o)(k:∀b u,(b=a\/H b=gV (.own a))->h.get? b=gV u->h'.get? b=gV u)
  (ho:∀b,H b=gV (.own a)->H' b=gV (.own a)) (ht:∀b xs,H b=gV (.tup xs)->H' b=gV (.tup xs)):ObjOk P w H' h' a o:=by
 induction o with
 | lst xs=>obtain⟨z,its,n,r,e⟩:=x; exact#[z,its,n,r,k _ _ (.inl rfl) e]
 | tup xs=>obtain⟨⟨z,ob',e',d⟩,its,r,ob,e,c⟩:=x; exact#[#[z,ob',k _ _ (.inl rfl) e',d],its,r,ob,k _ _ (.inl rfl) e,c]
 | dK U=>obtain⟨z,y,vs,r,ob,es,ep,e,c⟩:=x; exact#[z,y,vs,r,ob,es,ep,k _ _ (.inl rfl) e,c]
 | dT U=>
  obtain⟨z,y,xs,r,ob,es,ep,e,c⟩:=x;exact#[z,y,xs,Paired.mapP r λp q z=>#[z.1,ht _ _ z.2.1,z.2.2],ob,es,ep,k _ _ (.inl rfl) e,c]
 | set S n=>obtain⟨ob,es,ep,t,e,c⟩:=x; exact#[ob,es,ep,t,k _ _ (.inl rfl) e,c]
 | ins C dx fs=>
  obtain⟨d,z,ne,e,mA,⟨od,es,ep,e2,c⟩,r⟩:=x;exact#[ho _ d,z,ne,k _ _ (.inl rfl) e,mA,#[od,es,ep,k _ _ (.inr d) e2,c],r]
 | own y=>obtain⟨ob,e⟩:=x; exact#[ob,k _ _ (.inl rfl) e]
 | xd fs=>obtain⟨mA,⟨od,es,ep,e,c⟩,r⟩:=x; exact#[mA,#[od,es,ep,k _ _ (.inl rfl) e,c],r]
 | rng lo hi=>obtain⟨t,u,v,e⟩:=x; exact#[t,u,v,k _ _ (.inl rfl) e]
 | frz ob u ih=>obtain⟨e,q⟩:=x; exact#[k _ _ (.inl rfl) e,ih q]
 | tbl ps=>
  have e:h.get? a=gV { cls:=.none,data:=.fields ps }:=x;change h'.get? a=gV { cls:=.none,data:=.fields ps };exact k a _ (.inl rfl) e
 | met f y=>
  have e:h.get? a=gV (LO (.ref f) (.ref y)):=x;change h'.get? a=gV (LO (.ref f) (.ref y));exact k a _ (.inl rfl) e
 | ext φ=>obtain⟨p,⟨o,e⟩,st⟩:=x; exact#[st _ _ p λo q=>k _ _ (.inl rfl) q,#[o,k _ _ (.inl rfl) e],st]
def HOk.lt (x:HOk P w H h)(e:H a=gV o):a < h.objs.size:=(x a o e).lt
def HOk.fresh (x:HOk P w H h)(e:h.objs.size<=a):H a=td:=by
 cases q:H a with
 | none=>rfl
 | some u=>exact absurd (HJ (x.lt q) e) (Iw _)
def HOk.kept (x:HOk P w H h)(k:∀b u,h.get? b=gV u->h'.get? b=gV u):HOk P w H h':=λa o e=>
 (x a o e).stay (λb u _ q=>k b u q) (λ_ q=>q) λ_ _ q=>q
def HOk.laid (x:HOk P w H h)(k:∀b u,h.get? b=gV u->h'.get? b=gV u)(hp:h.objs.size<=a)(new:ObjOk P w (bO H a o) h' a o):HOk P w (bO H a o) h':=λb u e=>by
 have hn:=x.fresh hp
 by_cases hb:b=a
 ·subst hb; rw[ba]at e; cases e; exact new
 ·rw[aI hb]at e;exact(x b u e).stay (λc v _ q=>k c v q) (λc q=>by rw[aI (dQ q hn)]; exact q) λc xs q=>by rw[aI (dQ q hn)]; exact q
end
abbrev Rd (H:Hp)(a:Hb)(u:HO):Prop:=H a=gV u\/∃o,H a=gV (.frz o u)
def Rd.ok {P:HP}{w:Ii}{H:Hp}{h:Iv}{a:Hb}{u:HO}(r:Rd H a u)(x:HOk P w H h):ObjOk P w H h a u:=by
 rcases r with r|⟨o,r⟩
 ·exact x a u r
 ·obtain⟨_,q⟩:=x a _ r;exact q
abbrev C0:G7 HO->Prop
 | some (.lst _)=>OC
 | some (.dK _)=>OC
 | some (.dT _)=>OC
 | some (.set _ _)=>OC
 | some (.ins _ _ _)=>OC
 | some (.ext _)=>OC
 | _=>IJ
section
variable{P:HP}{w:Ii}{H:Hp}{h h':Iv}{x e:Hb}{o':HO}
def HOk.write (ok:HOk P w H h)(mu:C0 (H x))(he:e=x\/H e=gV (.own x))(k:∀b u,b≠e->h.get? b=gV u->h'.get? b=gV u)(heo:∃u,h'.get? e=gV u)
  (new:ObjOk P w (bO H x o') h' x o'):HOk P w (bO H x o') h':=λb u q=>by
 have nown:∀c y,H c=gV (.own y)->c≠x:=λc y r z=>by subst z; rw[r]at mu; exact mu
 have ntup:∀c xs,H c=gV (.tup xs)->c≠x:=λc xs r z=>by subst z; rw[r]at mu; exact mu
 by_cases hb:b=x
 ·subst hb; rw[ba]at q; cases q; exact new
 ·rw[aI hb]at q
  by_cases hbe:b=e
  ·have q':H b=gV (.own x):=by
    rcases he with z|z
    ·exact absurd (hbe.trans z) hb
    ·rw[hbe]; exact z
   rw[q]at q'; cases q'
   obtain⟨v,hv⟩:=heo;exact#[v,by rw[hbe]; exact hv]
  ·show(ok b u q).stay (λc v hc r=>k c v ?_ r) (λc r=>by rw[aI (nown c b r)]; exact r) λc xs r=>by rw[aI (ntup c xs r)]; exact r
   rcases hc with rfl|hc
   ·exact hbe
   ·rintro rfl;rcases he with z|z
    ·exact nown c b hc z
    ·rw[hc]at z; cases z; exact hb rfl
end
structure Un (fs ex:G0 Hb)(H H':Hp)(h h':Iv):Prop where
 keep:∀b o,h.get? b=gV o->H b=td->b∉fs->b∉ex->h'.get? b=gV o
 slot:∀b o,h.get? b=gV o->H b=td->b∈fs->b∉ex->∃sl,h'.get? b=gV { o with slots:=sl }
 free:∀b o,h.get? b=gV o->H b=td->b∉ex->H' b=td
 there:∀b o,h.get? b=gV o->b∉ex->∃o',h'.get? b=gV o'
 tups:∀b xs,H b=gV (.tup xs)->H' b=gV (.tup xs)
 frzs:∀b o u,H b=gV (.frz o u)->H' b=gV (.frz o u)
 tbls:∀b ps,H b=gV (.tbl ps)->∃more,H' b=gV (.tbl (ps++more))
section
variable{fs fs' ex ex':G0 Hb}{H H1 H2:Hp}{h h1 h2 h':Iv}{a x e:Hb}{o:HO}
def Un.any (u:Un fs ex H H1 h h1){b:Hb}{ob:Je}(q:h.get? b=gV ob)(n:H b=td)(hx:b∉ex):∃sl,h1.get? b=gV { ob with slots:=sl }:=by
 by_cases hb:b∈fs
 ·exact u.slot b ob q n hb hx
 ·exact#[ob.slots,u.keep b ob q n hb hx]
def Un.trans (a:Un fs ex H H1 h h1)(b:Un fs ex H1 H2 h1 h2):Un fs ex H H2 h h2 where
 keep:=λc ob q n hc hx=>b.keep c ob (a.keep c ob q n hc hx) (a.free c ob q n hx) hc hx
 slot:=λc ob q n hc hx=>by
  obtain⟨sl,e1⟩:=a.slot c ob q n hc hx;obtain⟨sl',e2⟩:=b.slot c _ e1 (a.free c ob q n hx) hc hx;exact#[sl',e2]
 free:=λc ob q n hx=>by
  obtain⟨o',e1⟩:=a.there c ob q hx;exact b.free c o' e1 (a.free c ob q n hx) hx
 there:=λc ob q hx=>by
  obtain⟨o',e1⟩:=a.there c ob q hx;exact b.there c o' e1 hx
 tups:=λc xs q=>b.tups c xs (a.tups c xs q)
 frzs:=λc ob xs q=>b.frzs c ob xs (a.frzs c ob xs q)
 tbls:=λc ps q=>by
  obtain⟨m1,e1⟩:=a.tbls c ps q;obtain⟨m2,e2⟩:=b.tbls c _ e1;exact#[m1++m2,by rw[e2,Nl]]
def Un.kept (k:∀b u,h.get? b=gV u->h'.get? b=gV u):Un fs ex H H h h':=
 #[λb ob q _ _ _=>k b ob q,λb ob q _ _ _=>#[ob.slots,k b ob q],λ_ _ _ n _=>n,λb ob q _=>#[ob,k b ob q],λ_ _ q=>q,λ_ _ _ q=>q,λ_ ps q=>#[#[],by rw[q]; simp]]
def Un.refl:Un fs ex H H h h:=Un.kept λ_ _ q=>q
def Un.laid (k:∀b u,h.get? b=gV u->h'.get? b=gV u)(hp:h.objs.size<=a)(hn:H a=td):Un fs ex H (bO H a o) h h' where
 keep:=λb u q _ _ _=>k b u q
 slot:=λb u q _ _ _=>#[u.slots,k b u q]
 free:=λb u q n _=>by rw[aI (HL (HJ (Hw q) hp))]; exact n
 there:=λb u q _=>#[u,k b u q]
 tups:=λb xs q=>by rw[aI (dQ q hn)]; exact q
 frzs:=λb u xs q=>by rw[aI (dQ q hn)]; exact q
 tbls:=λb ps q=>#[#[],by rw[aI (dQ q hn),q]; simp]
def Un.write (mu:C0 (H x))(he:e=x\/H e=gV (.own x))(k:∀b u,b≠e->h.get? b=gV u->h'.get? b=gV u)(heo:∃u,h'.get? e=gV u):Un fs ex H (bO H x o) h h':=by
 have hx:∀b,H b=td->b≠x:=λb n z=>by subst z; rw[n]at mu; exact mu
 have hb:∀b,H b=td->b≠e:=λb n z=>by
  subst z;rcases he with r|r
  ·exact hx b n r
  ·rw[n]at r; cases r
 have hm:∀b u,H b=gV u->¬ C0 (gV u)->b≠x:=λb u q nm z=>by subst z; rw[q]at mu; exact nm mu
 show#[λb u q n _ _=>k b u (hb b n) q,λb u q n _ _=>#[u.slots,k b u (hb b n) q],λb u q n _=>by rw[aI (hx b n)]; exact n,λb u q _=>?_,
  λb xs q=>by rw[aI (hm b _ q λz=>z)]; exact q,λb u xs q=>by rw[aI (hm b _ q λz=>z)]; exact q,λb ps q=>#[#[],by rw[aI (hm b _ q λz=>z),q]; simp]]
 by_cases hbe:b=e
 ·subst hbe; exact heo
 ·exact#[u,k b u hbe q]
end
abbrev EU (h:Iv)(H:Hp):G0 Hb:=(Ho h.objs.size).filter λa=>(H a).isSome
abbrev l4 (h:Iv)(H:Hp):Iv:=PySem.W.hideAll h (EU h H)
def rN (h:Iv)(H:Hp):(l4 h H).objs.size=h.objs.size:=PySem.W.hideAll_size _ _
def tK {h:Iv}{H:Hp}{b:Hb}{o:Je}(e:h.get? b=gV o)(n:H b=td):(l4 h H).get? b=gV o:=
 PySem.W.hideAll_get _ e λhm=>by
  have q:(H b).isSome=true:=(Ji.mp hm).2;rw[n]at q; simp at q
def xy {h:Iv}{H:Hp}{b:Hb}{o:Je}(e:(l4 h H).get? b=gV o):h.get? b=gV o/\H b=td:=by
 have e':h.get? b=gV o:=PySem.W.of_hideAll (EU h H) e;show#[e',?_];cases q:H b with
 | none=>rfl
 | some x=>
  have hm:b∈EU h H:=Ji.mpr #[Hu.mpr (Hw e'),by simp[q]]
  have z:(l4 h H).get? b=td:=PySem.W.hideAll_none (EU h H) hm;rw[z]at e; cases e
abbrev xz (g h:Iv)(L:Hb):G0 (Hb×Je):=(Ho h.objs.size).filterMap λa=>if a=L\/(g.get? a).isSome=true then td else(h.get? a).map λo=>(a,o)
abbrev cz (g h:Iv)(L d:Hb):G0 (Hb×Je):=(xz g h L).filter λp=>decide (p.1≠d)
structure Mod (K:Hl)(mg:Hs->G7 G4)(base:Iv):Prop where
 kin:K.In base
 glob:base.Ns mainGlobals mg
 blt:∃mb,base.Ns builtinsNs mb/\∀x:Hs,x≠"__name__"->mb x=bootBuiltins x
 nolimit:base.NoLimit
structure Cx where
 prog:HP
 w:Ii
 K:Hl
 mg:Hs->G7 G4
 base:Iv
 A:HY
 N:G0 Hs
 s₀:G5
 H₀:Hp
 env:Na
 outer:G0 Na
 stack:G0 Na
 ex:G0 Hb
 fn:Hs->HA
 calm:HA
 pn:G0 (Hb×Je)
 xe:G4->G5->Prop
abbrev pb (l:G0 Na):G0 Hb:=l.filterMap (·.frame)
noncomputable abbrev Cx.fs (X:Cx):G0 Hb:=pb X.outer
abbrev E8 (sc:Kh)(x:Hs):Prop:=sc.names.lookup x=gV .local\/sc.names.lookup x=gV .cell\/sc.names.lookup x=gV .free
abbrev xA (sc:Kh)(x:Hs):Prop:=sc.names.lookup x=gV .local\/sc.names.lookup x=gV .cell
abbrev E9 (env:Na)(h:Iv)(m:Hs->G7 G4)(x:Hs)(u:G4):Prop:=
 (env.kindOf x=gV .local/\m x=gV u)\/((env.kindOf x=gV .cell\/env.kindOf x=gV .free)/\∃c,env.cells.lookup x=gV c/\h.IsCell c (gV u))
structure Cx.Ok (X:Cx):Prop where
 mod:Mod X.K X.mg X.base
 kind:X.env.scope.kind=.function
 glob:X.env.globals=mainGlobals
 blt:X.env.builtins=builtinsNs
 above:X.s₀.heap.objs.size<=X.env.locals
 inj:∀x y c,X.env.cells.lookup x=gV c->X.env.cells.lookup y=gV c->x=y
 has:∀x,(X.env.kindOf x=gV .cell\/X.env.kindOf x=gV .free)->∃c,X.env.cells.lookup x=gV c
 cab:∀x c,X.fn x=true->X.env.cells.lookup x=gV c->X.s₀.heap.objs.size<=c
 hd:X.calm=true->X.A.handled=td
 frames:X.A.frames=gV X.stack
 stk:X.stack=X.outer\/(X.stack=X.env::X.outer/\X.env.frame=gV X.env.locals)
 exf:∀b∈X.ex,b≠X.env.locals/\∀x c,X.env.cells.lookup x=gV c->c≠b
 bs:∀b o,X.base.get? b=gV o->X.s₀.heap.get? b=gV o/\X.H₀ b=td
 bsz:X.base.objs.size<=X.s₀.heap.objs.size
 noex:∀b o,X.base.get? b=gV o->b∉X.ex
 exfs:∀b∈X.ex,b∉X.fs
 funs:X.s₀.heap.FunFrames X.base X.outer
 frf:∀b∈X.fs,X.H₀ b=td
structure Inv (X:Cx)(J:G0 (Hb×Je))(Y:G0 (G7 V))(H:Hp)(s:G5):Prop where
 ok:X.Ok
 os:s.os=X.s₀.os
 bare:LP s.gens
 base:Un X.fs X.ex X.H₀ H X.s₀.heap s.heap
 loc:∃m,s.heap.Ns X.env.locals m/\∀(i:G9) (x:Hs) (v:V),X.N[i]?=gV x->Y[i]?=gV (gV v)->E8 X.env.scope x->∃u,RelV v u/\E9 X.env s.heap m x u
 cell:∀x c,X.env.cells.lookup x=gV c->∃v,s.heap.IsCell c v
 free:H X.env.locals=td
 freeC:∀x c,X.env.cells.lookup x=gV c->H c=td
 pin:∀p∈X.pn++J,s.heap.get? p.1=gV p.2/\H p.1=td/\p.1≠X.env.locals/\p.1∉X.fs/\∀v,p.2.data≠.cell v
 hok:HOk X.prog X.w H s.heap
 len:Y.length=X.N.length
section
variable{X:Cx}{J:G0 (Hb×Je)}{Y:G0 (G7 V)}{H H':Hp}{s:G5}{h':Iv}
def Cx.Ok.nofr (ok:X.Ok){b:Hb}{o:Je}(e:X.base.get? b=gV o):b∉X.fs:=λhb=>by
 have:=(ok.funs.mem hb).1;rw[e]at this; cases this
def Inv.bs (I:Inv X J Y H s):∀b o,X.base.get? b=gV o->s.heap.get? b=gV o/\H b=td:=λb o e=>
 #[I.base.keep b o (I.ok.bs b o e).1 (I.ok.bs b o e).2 (I.ok.nofr e) (I.ok.noex b o e),I.base.free b o (I.ok.bs b o e).1 (I.ok.bs b o e).2 (I.ok.noex b o e)]
def Inv.bk (I:Inv X J Y H s):∀b o,X.base.get? b=gV o->s.heap.get? b=gV o:=λb o e=>(I.bs b o e).1
def Inv.mod (I:Inv X J Y H s):Mod X.K X.mg X.base:=I.ok.mod
def Inv.kIn (I:Inv X J Y H s):X.K.In s.heap:=I.ok.mod.kin.keeps I.bk
def Inv.lt (I:Inv X J Y H s):X.env.locals < s.heap.objs.size:=let ⟨_,hn,_⟩:=I.loc; hn.lt
def Inv.sz (I:Inv X J Y H s):X.s₀.heap.objs.size<=s.heap.objs.size:=HK I.ok.above (K1 I.lt)
def Inv.nofs (I:Inv X J Y H s){a:Hb}(h:s.heap.objs.size<=a):a∉X.fs:=λhb=>by
 obtain⟨_,o,ho,_⟩:=I.ok.funs.mem hb;exact absurd (HJ (Hw ho) (HK I.sz h)) (Iw _)
def Inv.cne (I:Inv X J Y H s):∀x c,X.env.cells.lookup x=gV c->c≠X.env.locals:=λx c e z=>by
 obtain⟨v,o,ho,hd⟩:=I.cell x c e;obtain⟨m,⟨o',es,ep,ho',hd',_⟩,_⟩:=I.loc;rw[z,ho']at ho; cases ho; rw[hd']at hd; cases hd
def Inv.funs (I:Inv X J Y H s):s.heap.FunFrames X.base X.outer:=by
 have all:∀(l:G0 Na),(∀b∈pb l,b∈X.fs)->X.s₀.heap.FunFrames X.base l->s.heap.FunFrames X.base l:=by
  intro l
  induction l with
  | nil=>intro _ _; trivial
  | cons env r ih=>
   intro hs hl;obtain⟨hk,⟨L,o,hf,hn,ho,hd⟩,hr⟩:=hl;have hL:L∈X.fs:=hs L (by unfold pb; rw[J9,hf]; exact Ic)
   obtain⟨sl,e⟩:=I.base.slot L o ho (I.ok.frf L hL) hL λz=>I.ok.exfs L z hL
   exact#[hk,#[L,_,hf,hn,e,hd],ih (λb hb=>hs b (by unfold pb; rw[J9,hf]; exact HN _ hb)) hr]
 exact all X.outer (λ_ hb=>hb) I.ok.funs
def Inv.stack (I:Inv X J Y H s):s.heap.FunFrames X.base X.stack:=by
 rcases I.ok.stk with e|⟨e,hf⟩
 ·rw[e]; exact I.funs
 ·rw[e];obtain⟨m,hn,_⟩:=I.loc;show .cons (by rw[I.ok.kind]; decide) hf hn ?_ I.funs
  exact Heap.get?_none_of_le (HK I.ok.bsz I.ok.above)
def Inv.stkSub (I:Inv X J Y H s):∀b∈pb X.stack,b∈X.env.locals::X.fs:=λb hb=>by
 rcases I.ok.stk with e|⟨e,hf⟩
 ·rw[e]at hb; exact HN _ hb
 ·rw[e]at hb;unfold pb at hb;rw[J9,hf]at hb;exact hb
def Inv.stkFree (I:Inv X J Y H s):∀b∈pb X.stack,H b=td:=λb hb=>by
 rcases HF.mp (I.stkSub b hb)with e|hb
 ·rw[e]; exact I.free
 ·obtain⟨_,o,ho,_⟩:=I.ok.funs.mem hb;exact I.base.free b o ho (I.ok.frf b hb) λz=>I.ok.exfs b z hb
def Inv.step {g':Io MH}{t':G9}{d':Qc}{ch:G0 Hb}(I:Inv X J Y H s)
  (hch:∀b∈ch,(b∈X.ex\/X.s₀.heap.objs.size<=b)/\b≠X.env.locals/\(∀x c,X.env.cells.lookup x=gV c->c≠b)/\∀p∈X.pn++J,p.1≠b)
  (keep:∀b o,b≠X.env.locals->b∉X.fs->b∉ch->s.heap.get? b=gV o->H b=td->h'.get? b=gV o)
  (slot:∀b o,b≠X.env.locals->b∈X.fs->b∉ch->s.heap.get? b=gV o->H b=td->∃sl,h'.get? b=gV { o with slots:=sl }) (free:∀b o,b∉ch->s.heap.get? b=gV o->H b=td->H' b=td)
  (there:∀b o,b∉ch->s.heap.get? b=gV o->∃o',h'.get? b=gV o')
  (tups:∀b xs,H b=gV (.tup xs)->H' b=gV (.tup xs)) (frzs:∀b o u,H b=gV (.frz o u)->H' b=gV (.frz o u)) (tbls:∀b ps,H b=gV (.tbl ps)->∃more,H' b=gV (.tbl (ps++more)))
  (ns:∀m,s.heap.Ns X.env.locals m->h'.Ns X.env.locals m) (hok:HOk X.prog X.w H' h') (hg:LP g') :
  Inv X J Y H' { s with heap:=h',gens:=g',drawn:=d',toks:=t' }:=by
 have neL:∀b o,X.s₀.heap.get? b=gV o->b≠X.env.locals:=λb o e=>HL (HJ (Hw e) I.ok.above)
 have neC:∀b o,X.s₀.heap.get? b=gV o->b∉X.ex->b∉ch:=λb o e hx hb=>by
  rcases(hch b hb).1 with z|z
  ·exact hx z
  ·exact absurd (HJ (Hw e) z) (Iw _)
 have cellK:∀x c,X.env.cells.lookup x=gV c->∀v,s.heap.IsCell c v->h'.IsCell c v:=λx c e v #[o,ho,hd]=>by
  have nch:c∉ch:=λz=>(hch c z).2.2.1 x c e rfl
  by_cases hc:c∈X.fs
  ·obtain⟨sl,q⟩:=slot c o (I.cne x c e) hc nch ho (I.freeC x c e);exact#[_,q,hd]
  ·exact#[o,keep c o (I.cne x c e) hc nch ho (I.freeC x c e),hd]
 show#[I.ok,I.os,hg,#[λb o e n hb hx=>?_,λb o e n hb hx=>?_,λb o e n hx=>?_,λb o e hx=>?_,λb xs e=>tups b xs (I.base.tups b xs e),λb o xs e=>frzs b o xs (I.base.frzs b o xs e),λb ps e=>?_],?_,λx c e=>?_,?_,λx c e=>?_,λp hp=>?_,hok,I.len]
 ·exact keep b o (neL b o e) hb (neC b o e hx) (I.base.keep b o e n hb hx) (I.base.free b o e n hx)
 ·obtain⟨sl,e1⟩:=I.base.slot b o e n hb hx;obtain⟨sl',e2⟩:=slot b _ (neL b o e) hb (neC b o e hx) e1 (I.base.free b o e n hx);exact#[sl',e2]
 ·obtain⟨o',e1⟩:=I.base.there b o e hx;exact free b o' (neC b o e hx) e1 (I.base.free b o e n hx)
 ·obtain⟨o',e1⟩:=I.base.there b o e hx;exact there b o' (neC b o e hx) e1
 ·obtain⟨m1,e1⟩:=I.base.tbls b ps e;obtain⟨m2,e2⟩:=tbls b _ e1;exact#[m1++m2,by rw[e2,Nl]]
 ·obtain⟨m,hn,hl⟩:=I.loc;show#[m,ns m hn,λi x v e1 e2 e3=>?_]
  obtain⟨u,r,l⟩:=hl i x v e1 e2 e3;show#[u,r,?_];rcases l with l|⟨k,c,e,z⟩
  ·exact .inl l
  ·exact .inr #[k,c,e,cellK x c e _ z]
 ·obtain⟨v,z⟩:=I.cell x c e;exact#[v,cellK x c e v z]
 ·obtain⟨m,⟨o,_,_,ho,_⟩,_⟩:=I.loc;exact free _ o (λz=>(hch _ z).2.1 rfl) ho I.free
 ·obtain⟨v,o,ho,hd⟩:=I.cell x c e;exact free c o (λz=>(hch c z).2.2.1 x c e rfl) ho (I.freeC x c e)
 ·obtain⟨e,n,ne,nf,d⟩:=I.pin p hp;have nch:p.1∉ch:=λz=>(hch p.1 z).2.2.2 p hp rfl
  exact#[keep p.1 p.2 ne nf nch e n,free p.1 p.2 nch e n,ne,nf,d]
def Inv.un {t':G9}(I:Inv X J Y H s)(u:Un X.fs [] H H' s.heap h')(hok:HOk X.prog X.w H' h'):Inv X J Y H' { s with heap:=h',toks:=t' }:=by
 obtain⟨m,⟨o,es,ep,ho,r⟩,_⟩:=id I.loc;obtain⟨sl,hL⟩:=u.any ho I.free (by simp)
 exact I.step (g':=s.gens) (d':=s.drawn) (ch:=[]) (λ_ z=>nomatch z) (λb o _ hb _ e n=>u.keep b o e n hb (by simp)) (λb o _ hb _ e n=>u.slot b o e n hb (by simp)) (λb o _ e n=>u.free b o e n (by simp)) (λb o _ e=>u.there b o e (by simp)) u.tups u.frzs u.tbls (λm' hm=>by
  obtain⟨o',es',ep',ho',r'⟩:=hm;rw[ho]at ho'; cases ho'
  exact#[_,es',ep',hL,r']) hok I.bare
def Inv.call {g':Io MH}{t':G9}{d':Qc}{ch:G0 Hb}(I:Inv X J Y H s)(u:Un (pb X.stack) ch H H' s.heap h')(hok:HOk X.prog X.w H' h')(hg:LP g')
  (hch:∀b∈ch,(b∈X.ex\/X.s₀.heap.objs.size<=b)/\b≠X.env.locals/\(∀x c,X.env.cells.lookup x=gV c->c≠b)/\∀p∈X.pn++J,p.1≠b) :
  Inv X J Y H' { s with heap:=h',gens:=g',drawn:=d',toks:=t' }:=by
 obtain⟨m,⟨o,es,ep,ho,r⟩,_⟩:=id I.loc;obtain⟨sl,hL⟩:=u.any ho I.free λz=>(hch _ z).2.1 rfl
 exact I.step (ch:=ch) hch (λb o hL hb hc e n=>u.keep b o e n (λz=>(HF.mp (I.stkSub b z)).elim hL hb) hc) (λb o _ _ hc e n=>u.any e n hc) (λb o hc e n=>u.free b o e n hc) (λb o hc e=>u.there b o e hc) u.tups u.frzs u.tbls (λm' hm=>by
  obtain⟨o',es',ep',ho',r'⟩:=hm;rw[ho]at ho'; cases ho'
  exact#[_,es',ep',hL,r']) hok hg
def Inv.turned {t':G9}{it:Hb}(I:Inv X J Y H s)(k:∀b o,b≠it->s.heap.get? b=gV o->h'.get? b=gV o)(hn:H it=td)(hL:it≠X.env.locals)
  (h1:it∈X.ex\/X.s₀.heap.objs.size<=it) (h2:∀x c,X.env.cells.lookup x=gV c->c≠it) (h3:∀p∈X.pn++J,p.1≠it):Inv X J Y H { s with heap:=h',toks:=t' }:=by
 have nit:∀b u,H b=gV u->b≠it:=λb u e z=>by rw[z,hn]at e; cases e
 show I.step (g':=s.gens) (d':=s.drawn) (ch:=[it]) (λb hb=>?_) (λb o _ _ hc e _=>k b o (λz=>hc (by simp[z])) e) (λb o _ _ hc e _=>#[o.slots,k b o (λz=>hc (by simp[z])) e]) (λ_ _ _ _ n=>n)
  (λb o hc e=>#[o,k b o (λz=>hc (by simp[z])) e]) (λ_ _ e=>e) (λ_ _ _ e=>e) (λb ps e=>#[#[],by rw[e]; simp]) (λm hm=>?_) (λb u e=>?_) I.bare
 ·have e:b=it:=by simpa using hb
  subst e;exact#[h1,hL,h2,h3]
 ·obtain⟨o,es,ep,ho,r⟩:=hm;exact#[o,es,ep,k _ o (Ne.symm hL) ho,r]
 ·show(I.hok b u e).stay (λc v hc q=>k c v ?_ q) (λ_ q=>q) λ_ _ q=>q
  rcases hc with z|z
  ·rw[z]; exact nit b u e
  ·exact nit c _ z
def Inv.tok (I:Inv X J Y H s)(t:G9):Inv X J Y H { s with toks:=t }:=I.un (h':=s.heap) (t':=t) Un.refl I.hok
def Inv.kept {t':G9}(I:Inv X J Y H s)(k:∀b u,s.heap.get? b=gV u->h'.get? b=gV u):Inv X J Y H { s with heap:=h',toks:=t' }:=I.un (Un.kept k) (I.hok.kept k)
def Inv.laid {a:Hb}{o:HO}{t':G9}(I:Inv X J Y H s)(k:∀b u,s.heap.get? b=gV u->h'.get? b=gV u)(hp:s.heap.objs.size<=a)(new:ObjOk X.prog X.w (bO H a o) h' a o) :
  Inv X J Y (bO H a o) { s with heap:=h',toks:=t' }:=I.un (Un.laid k hp (I.hok.fresh hp)) (I.hok.laid k hp new)
def Inv.write {x e:Hb}{o:HO}{t':G9}(I:Inv X J Y H s)(mu:C0 (H x))(he:e=x\/H e=gV (.own x))(k:∀b u,b≠e->s.heap.get? b=gV u->h'.get? b=gV u)(heo:∃u,h'.get? e=gV u)
  (new:ObjOk X.prog X.w (bO H x o) h' x o):Inv X J Y (bO H x o) { s with heap:=h',toks:=t' }:=I.un (Un.write mu he k heo) (I.hok.write mu he k heo new)
def Inv.pins_of {J':G0 (Hb×Je)}(I:Inv X J Y H s)(h:∀p∈J',s.heap.get? p.1=gV p.2/\H p.1=td/\p.1≠X.env.locals/\p.1∉X.fs/\∀v,p.2.data≠.cell v):Inv X J' Y H s:=
 #[I.ok,I.os,I.bare,I.base,I.loc,I.cell,I.free,I.freeC,λp hp=>(HI.mp hp).elim (λz=>I.pin p (JA _ z)) (h p),I.hok,I.len]
def nz {N:G0 Hs}(hN:N.Nodup){i j:G9}{x:Hs}(a:N[i]?=gV x)(b:N[j]?=gV x):i=j:=by
 obtain⟨h1,e1⟩:=Hm.mp a;obtain⟨h2,e2⟩:=Hm.mp b;exact(Jy hN).mp (e1.trans e2.symm)
def rO {Mqa:Pp}{A:HY}{E:G4->G5->Prop}{i:G9}{x:Hs}{v:V}{u:G4}{Q:Unit->G5->Prop}(I:Inv X J Y H s)(hN:X.N.Nodup)(hi:X.N[i]?=gV x)(hx:xA X.env.scope x)(r:RelV v u)
  (h:∀s',Inv X J (Y.set i (gV v)) H s'->(∃a,JZ a s.heap s'.heap/\(a=X.env.locals\/X.env.cells.lookup x=gV a))->Q () s') (hf:X.fn x=true\/X.env.scope.names.lookup x=gV .local):wpAny Mqa A (storeName X.env x u) Q E s:=by
 obtain⟨m,hn,hl⟩:=id I.loc;have hcls:(X.env.scope.kind==.class||(X.env.scope.kind==.module&&X.env.locals != X.env.globals))=false:=by rw[I.ok.kind]; rfl
 have hiσ:i < Y.length:=by rw[I.len]; exact(Hm.mp hi).1
 have cne:=I.cne;have tracked:∀ {a:Hb} {h':Iv},(∃o,s.heap.get? a=gV o/\H a=td)->JZ a s.heap h'->HOk X.prog X.w H h':=λ{a h'} ha hs b ob e=>by
  obtain⟨_,_,hfree⟩:=ha;show(I.hok b ob e).stay (λc w' hc q=>(hs.2 c ?_).trans q) (λ_ q=>q) λ_ _ q=>q
  rintro rfl;rcases hc with rfl|hc
  ·rw[hfree]at e; cases e
  ·rw[hfree]at hc; cases hc
 rcases hx with hk|hk
 ·show wpAny_storeName_local hk hn (λh' hn' hs=>?_) hcls
  obtain⟨oL,_,_,hoL,_⟩:=id hn;show h _ #[I.ok,I.os,I.bare,#[λb o e n hb hx=>?_,λb o e n hb hx=>?_,I.base.free,λb o e hx=>?_,I.base.tups,I.base.frzs,I.base.tbls],#[_,hn',λj y v' e1 e2 e3=>?_],λy c e=>?_,I.free,I.freeC,λp hp=>?_,tracked #[oL,hoL,I.free] hs,by simpa using I.len] #[_,hs,.inl rfl]
  ·exact(hs.2 b (HL (HJ (Hw e) I.ok.above))).trans (I.base.keep b o e n hb hx)
  ·obtain⟨sl,e1⟩:=I.base.slot b o e n hb hx;exact#[sl,(hs.2 b (HL (HJ (Hw e) I.ok.above))).trans e1]
  ·obtain⟨o',e1⟩:=I.base.there b o e hx;exact#[o',(hs.2 b (HL (HJ (Hw e) I.ok.above))).trans e1]
  ·by_cases hj:j=i
   ·subst hj;rw[hi]at e1; cases e1
    rw[Mg hiσ]at e2;cases e2;exact#[u,r,.inl #[hk,by simp]]
   ·rw[MJ (Ne.symm hj)]at e2;obtain⟨u',r',q⟩:=hl j y v' e1 e2 e3;show#[u',r',?_];rcases q with⟨k,e⟩|⟨k,c,e,z⟩
    ·show .inl #[k,?_];have:y≠x:=λe=>hj (nz hN e1 (e ▸ hi))
     simp[this,e]
    ·exact .inr #[k,c,e,z.sameBut hs (cne y c e)]
  ·obtain⟨w',z⟩:=I.cell y c e;exact#[w',z.sameBut hs (cne y c e)]
  ·obtain⟨e,n,ne,nf,d⟩:=I.pin p hp;exact#[(hs.2 p.1 ne).trans e,n,ne,nf,d]
 ·have hfn:X.fn x=true:=by
   rcases hf with z|z
   ·exact z
   ·rw[z]at hk; cases hk
  obtain⟨c,hc⟩:=I.ok.has x (.inl hk);obtain⟨w',z⟩:=I.cell x c hc;show wpAny_storeName_cell I.ok.kind hk hc z (λh' hc' hs=>?_)
  obtain⟨oc,hoc,hocd⟩:=id z;show h { s with heap:=h' } #[I.ok,I.os,I.bare,#[λb o e n hb hx=>?_,λb o e n hb hx=>?_,I.base.free,λb o e hx=>?_,I.base.tups,I.base.frzs,I.base.tbls],#[m,hn.sameBut hs (Ne.symm (cne x c hc)),λj y v' e1 e2 e3=>?_],λy c' e=>?_,I.free,I.freeC,λp hp=>?_,tracked #[oc,hoc,I.freeC x c hc] hs,by simpa using I.len] #[c,hs,.inr hc]
  ·exact(hs.2 b (HL (HJ (Hw e) (I.ok.cab x c hfn hc)))).trans (I.base.keep b o e n hb hx)
  ·obtain⟨sl,e1⟩:=I.base.slot b o e n hb hx;exact#[sl,(hs.2 b (HL (HJ (Hw e) (I.ok.cab x c hfn hc)))).trans e1]
  ·obtain⟨o',e1⟩:=I.base.there b o e hx;exact#[o',(hs.2 b (HL (HJ (Hw e) (I.ok.cab x c hfn hc)))).trans e1]
  ·by_cases hj:j=i
   ·subst hj;rw[hi]at e1; cases e1
    rw[Mg hiσ]at e2;cases e2;exact#[u,r,.inr #[.inl hk,c,hc,hc']]
   ·rw[MJ (Ne.symm hj)]at e2;obtain⟨u',r',q⟩:=hl j y v' e1 e2 e3;show#[u',r',?_];rcases q with q|⟨k,c',e,z'⟩
    ·exact .inl q
    ·show .inr #[k,c',e,z'.sameBut hs ?_];rintro rfl;exact hj (nz hN e1 (I.ok.inj _ _ _ e hc ▸ hi))
  ·by_cases hcc:c'=c
   ·subst hcc; exact#[_,hc']
   ·obtain⟨w2,z2⟩:=I.cell y c' e;exact#[w2,z2.sameBut hs hcc]
  ·obtain⟨e,n,ne,nf,d⟩:=I.pin p hp;show#[(hs.2 p.1 ?_).trans e,n,ne,nf,d];intro q;rw[q,hoc]at e;have q':oc=p.2:=IH e;exact d w' (by rw[<- q']; exact hocd)
def dR {Mqa:Pp}{A:HY}{E:G4->G5->Prop}{i:G9}{x:Hs}{v:V}{u:G4}{Q:Unit->G5->Prop}(I:Inv X J Y H s)(hN:X.N.Nodup)(hi:X.N[i]?=gV x)(hx:xA X.env.scope x)(r:RelV v u)
  (h:∀s',Inv X J (Y.set i (gV v)) H s'->Q () s') (hf:X.fn x=true\/X.env.scope.names.lookup x=gV .local):wpAny Mqa A (storeName X.env x u) Q E s:=
 rO I hN hi hx r (λs' I' _=>h s' I') hf
def Inv.call' {s':G5}{ch:G0 Hb}(I:Inv X J Y H s)(ho:s'.os=s.os)(u:Un (pb X.stack) ch H H' s.heap s'.heap)(hok:HOk X.prog X.w H' s'.heap)(hg:LP s'.gens)
  (hch:∀b∈ch,(b∈X.ex\/X.s₀.heap.objs.size<=b)/\b≠X.env.locals/\(∀x c,X.env.cells.lookup x=gV c->c≠b)/\∀p∈X.pn++J,p.1≠b):Inv X J Y H' s':=by
 obtain⟨h',g',d',t',o'⟩:=s';have e:o'=s.os:=ho;subst e;exact I.call (g':=g') (t':=t') (d':=d') u hok hg hch
end
noncomputable abbrev XK:=G4->G7 Hb->Hp->Prop
noncomputable abbrev St:=G0 (G7 V)
noncomputable abbrev VK:=V->Hp->Prop
noncomputable abbrev TE:=St->Hp->VK->Prop
noncomputable abbrev TT:=St->Hp->(HA->Hp->Prop)->Prop
noncomputable abbrev TA:=St->Hp->(G0 V->Hp->Prop)->Prop
structure Ends where
 nx:St->Hp->Prop
 rt:VK
 bk:St->Hp->Prop:=λ_ _=>IJ
 ct:St->Hp->Prop:=λ_ _=>IJ
noncomputable abbrev TS:=Ends->St->Hp->Prop
inductive EP (X:Cx)(J:G0 (Hb×Je))(Y:St)(Q:VK)(u:G4)(s':G5):Prop
 | mk (v:V) (H':Hp) (i:Inv X J Y H' s') (r:RelV v u) (q:Q v H'):EP X J Y Q u s'
inductive TP (X:Cx)(J:G0 (Hb×Je))(Y:St)(Q:HA->Hp->Prop)(b:HA)(s':G5):Prop
 | mk (H':Hp) (i:Inv X J Y H' s') (q:Q b H'):TP X J Y Q b s'
inductive AP (X:Cx)(J:G0 (Hb×Je))(Y:St)(Q:G0 V->Hp->Prop)(us:G0 G4)(s':G5):Prop
 | mk (vs:G0 V) (H':Hp) (i:Inv X J Y H' s') (r:Vals vs us) (q:Q vs H'):AP X J Y Q us s'
abbrev SP (X:Cx)(J:G0 (Hb×Je))(D:Ends)(f:Flow)(s':G5):Prop:=
 match f with
 | .next=>∃Y' H',Inv X J Y' H' s'/\D.nx Y' H'
 | .brk=>∃Y' H',Inv X J Y' H' s'/\D.bk Y' H'
 | .cont=>∃Y' H',Inv X J Y' H' s'/\D.ct Y' H'
 | .ret u=>∃v Y' H',Inv X J Y' H' s'/\RelV v u/\D.rt v H'
abbrev PE (X:Cx)(e:HB)(t:TE):Prop:=
 ∀(J:G0 (Hb×Je)) (s:G5) (Y:St) (H:Hp) (Q:VK),Inv X J Y H s->t Y H Q->wpAny (model X.prog X.w) X.A (eval e X.env) (EP X J Y Q) X.xe s
abbrev PT (X:Cx)(e:HB)(t:TT):Prop:=
 ∀(J:G0 (Hb×Je)) (s:G5) (Y:St) (H:Hp) (Q:HA->Hp->Prop),Inv X J Y H s->t Y H Q->wpAny (model X.prog X.w) X.A (isTrue e X.env (eval e X.env)) (TP X J Y Q) X.xe s
abbrev PW (X:Cx)(e:HB)(t:TT):Prop:=
 ∀(whole:Pq G4) (J:G0 (Hb×Je)) (s:G5) (Y:St) (H:Hp) (Q:HA->Hp->Prop),Inv X J Y H s->t Y H Q->wpAny (model X.prog X.w) X.A (isTrue e X.env whole) (TP X J Y Q) X.xe s
def PW.pt {X:Cx}{e:HB}{t:TT}(h:PW X e t):PT X e t:=h _
abbrev PA (X:Cx)(es:G0 HB)(t:TA):Prop:=
 ∀(pos:JE) (J:G0 (Hb×Je)) (s:G5) (Y:St) (H:Hp) (Q:G0 V->Hp->Prop),Inv X J Y H s->t Y H Q->wpAny (model X.prog X.w) X.A (spliced (backTo pos (starEach es X.env))) (AP X J Y Q) X.xe s
abbrev PS (X:Cx)(st:J8)(t:TS):Prop:=
 ∀(J:G0 (Hb×Je)) (s:G5) (Y:St) (H:Hp) (D:Ends),Inv X J Y H s->t D Y H->wpAny (model X.prog X.w) X.A (exec st X.env) (SP X J D) X.xe s
abbrev PSs (X:Cx)(st:G0 J8)(t:TS):Prop:=
 ∀(J:G0 (Hb×Je)) (s:G5) (Y:St) (H:Hp) (D:Ends),Inv X J Y H s->t D Y H->wpAny (model X.prog X.w) X.A (execs st X.env) (SP X J D) X.xe s
def be {α:Type}{t:Pq α}{Q Q':α->G5->Prop}{Mqa:Pp}{A:HY}{E:G4->G5->Prop}{s:G5}(h:wpAny Mqa A t Q E s)(hQ:∀a s,Q a s->Q' a s):wpAny Mqa A t Q' E s:=Jn h hQ λ_ _ x=>x
section
variable{X:Cx}
abbrev C3 (i:G9):TE:=λY H Q=>∃v,Y[i]?=gV (gV v)/\Q v H
abbrev tC (v:V):TE:=λ_ H Q=>Q v H
def AL {i:G9}{x:Hs}{pos:JE}(hN:X.N[i]?=gV x)(hv:E8 X.env.scope x)(hd:(x==("__debug__" : Hs))=false:=by decide)(hcd:(x==("__classdict__" : Hs))=false:=by decide):PE X (.Name x pos) (C3 i):=by
 intro J s Y H Q I h;obtain⟨v,e,h⟩:=h;obtain⟨m,hn,hl⟩:=I.loc;obtain⟨u,r,l⟩:=hl i x v hN e hv;have fin:EP X J Y Q u s:=#[v,H,I,r,h];rcases l with⟨hk,hm⟩|⟨hk,c,hc,hcell⟩
 ·exact OD (wpAny_loadName_local I.ok.kind hk hn hm fin) hd
 ·rcases hk with hk|hk
  ·exact OD (wpAny_loadName_cell I.ok.kind hk hc hcell fin) hd
  ·exact OD (wpAny_loadName_free I.ok.kind hk hc hcell fin hcd) hd
def tL {i j pos}:PE X (.Constant (.int i) j pos) (tC (.int i)):=λ_ _ _ H _ I h=>wpAny_Constant_int #[.int i,H,I.tok _,#[_,rfl],h]
def Ab {b j pos}:PE X (.Constant (.bool b) j pos) (tC (.bl b)):=λ_ _ _ H _ I h=>Constant_bool #[.bl b,H,I,rfl,h]
def tM {j pos}:PE X (.Constant .none j pos) (tC .non):=λ_ _ _ H _ I h=>Constant_none #[.non,H,I,rfl,h]
def tN {x j pos}:PE X (.Constant (.str x) j pos) (tC (.str x)):=λ_ _ _ H _ I h=>Nm #[.str x,H,I.tok _,#[_,rfl],h]
abbrev Gl (X:Cx)(x:Hs):Prop:=X.env.kindOf x=gV .globalImplicit
def l5 {E:G4->G5->Prop}{J:G0 (Hb×Je)}{s:G5}{Y:St}{H:Hp}{x:Hs}{u:G4}{pos:JE}{Q:G4->G5->Prop}(I:Inv X J Y H s)(hg:Gl X x)(hm:X.mg x=gV u)(h:Q u s)
  (hd:(x==("__debug__" : Hs))=false:=by decide):wpAny (model X.prog X.w) X.A (eval (.Name x pos) X.env) Q E s:=
 Lv I.ok.kind hg (Calls.loadGlobal_global (by rw[I.ok.glob]; exact I.mod.glob.keeps I.bk) hm h) hd
def iE {E:G4->G5->Prop}{J:G0 (Hb×Je)}{s:G5}{Y:St}{H:Hp}{x:Hs}{u:G4}{pos:JE}{Q:G4->G5->Prop}(I:Inv X J Y H s)(hg:Gl X x)(hm:X.mg x=td)(hv:bootBuiltins x=gV u)(h:Q u s)
  (hn:x≠"__name__":=by decide) (hd:(x==("__debug__" : Hs))=false:=by decide):wpAny (model X.prog X.w) X.A (eval (.Name x pos) X.env) Q E s:=by
 obtain⟨mb,h1,h2⟩:=I.mod.blt;exact Lv I.ok.kind hg (Calls.loadGlobal_builtin (by rw[I.ok.glob]; exact I.mod.glob.keeps I.bk) hm (by rw[I.ok.blt]; exact h1.keeps I.bk) ((h2 x hn).trans hv) h) hd
def qr {x:Hs}{v:V}{u:G4}{pos:JE}(hg:Gl X x)(hm:X.mg x=gV u)(r:RelV v u)(hd:(x==("__debug__" : Hs))=false:=by decide):PE X (.Name x pos) (tC v):=
 λ_ _ _ H _ I h=>l5 I hg hm #[v,H,I,r,h] hd
def xB {x:Hs}{v:V}{u:G4}{pos:JE}(hg:Gl X x)(hm:X.mg x=td)(hv:bootBuiltins x=gV u)(r:RelV v u)(hn:x≠"__name__":=by decide)(hd:(x==("__debug__" : Hs))=false:=by decide):PE X (.Name x pos) (tC v):=
 λ_ _ _ H _ I h=>iE I hg hm hv #[v,H,I,r,h] hn hd
variable{a b:HB}{ta tb:TE}{pos:JE}
variable{tA tB':TT}{cz:G0 HB}
abbrev C4 (t u:TT):TT:=λY H Q=>t Y H λc H1=>if c=true then u Y H1 Q else Q false H1
abbrev Gp (t u:TT):TT:=λY H Q=>t Y H λc H1=>if c=true then Q true H1 else u Y H1 Q
abbrev Fa (t:TT):TT:=λY H Q=>t Y H λc H1=>Q (!c) H1
def xD (ha:PT X a tA):PW X (.BoolOp .And [a] pos) tA:=by
 intro wh J s Y H Q I h;show isTrue_and (be (ha J s Y H Q I h) λc s1 e=>?_)
 cases c with
 | true=>exact isTrue_and_nil e
 | false=>exact e
def AM (ha:PT X a tA):PW X (.BoolOp .Or [a] pos) tA:=by
 intro wh J s Y H Q I h;show isTrue_or (be (ha J s Y H Q I h) λc s1 e=>?_)
 cases c with
 | false=>exact isTrue_or_nil e
 | true=>exact e
def AN (ha:PT X a tA)(hb:PW X (.BoolOp .And (b::cz) pos) tB'):PW X (.BoolOp .And (a::b::cz) pos) (C4 tA tB'):=by
 intro wh J s Y H Q I h;show isTrue_and (be (ha J s Y H _ I h) λc s1 #[H1,I1,q1]=>?_)
 cases c with
 | true=>exact hb wh J s1 Y H1 Q I1 q1
 | false=>exact#[H1,I1,q1]
def C5 (ha:PT X a tA)(hb:PW X (.BoolOp .Or (b::cz) pos) tB'):PW X (.BoolOp .Or (a::b::cz) pos) (Gp tA tB'):=by
 intro wh J s Y H Q I h;show isTrue_or (be (ha J s Y H _ I h) λc s1 #[H1,I1,q1]=>?_)
 cases c with
 | true=>exact#[H1,I1,q1]
 | false=>exact hb wh J s1 Y H1 Q I1 q1
def AO (ha:PT X a tA):PT X (.UnaryOp .Not a pos) (Fa tA):=by
 intro J s Y H Q I h;exact isTrue_not (be (ha J s Y H (λc H1=>Q (!c) H1) I h) λ_ _ #[H1,i,q]=>#[H1,i,q])
abbrev C6 (ta tb:TE):TE:=λY H Q=>ta Y H λx H1=>∃c,x=.bl c/\if c=true then tb Y H1 Q else Q (.bl false) H1
abbrev Fb (ta tb:TE):TE:=λY H Q=>ta Y H λx H1=>∃c,x=.bl c/\if c=true then Q (.bl true) H1 else tb Y H1 Q
abbrev C7 (ta:TE):TE:=λY H Q=>ta Y H λx H1=>∃c,x=.bl c/\Q (.bl (!c)) H1
def AQ {op}{t:TE}(h:PE X a t):PE X (.BoolOp op [a] pos) t:=λJ s Y H Q I hw=>BoolOp_one (h J s Y H Q I hw)
def AR (ha:PE X a ta)(hb:PE X (.BoolOp .And (b::cz) pos) tb):PE X (.BoolOp .And (a::b::cz) pos) (C6 ta tb):=by
 intro J s Y H Q I h;show BoolOp_and (be (ha J s Y H _ I h) λv s1 #[x,H1,I1,r1,q1]=>?_)
 obtain⟨c,rfl,q1⟩:=q1;cases r1;show IU ?_;cases c with
 | true=>exact hb J s1 Y H1 Q I1 q1
 | false=>exact#[.bl false,H1,I1,rfl,q1]
def C8 (ha:PE X a ta)(hb:PE X (.BoolOp .Or (b::cz) pos) tb):PE X (.BoolOp .Or (a::b::cz) pos) (Fb ta tb):=by
 intro J s Y H Q I h;show BoolOp_or (be (ha J s Y H _ I h) λv s1 #[x,H1,I1,r1,q1]=>?_)
 obtain⟨c,rfl,q1⟩:=q1;cases r1;show IU ?_;cases c with
 | false=>exact hb J s1 Y H1 Q I1 q1
 | true=>exact#[.bl true,H1,I1,rfl,q1]
def AS (ha:PE X a ta):PE X (.UnaryOp .Not a pos) (C7 ta):=by
 intro J s Y H Q I h;show UnaryOp_ (be (ha J s Y H _ I h) λv s1 #[x,H1,I1,r1,q1]=>?_)
 obtain⟨c,rfl,q1⟩:=q1;cases r1;exact not_of (IU #[.bl (!c),H1,I1,rfl,q1])
abbrev GL (t:TT)(ta tb:TE):TE:=λY H Q=>t Y H λc H1=>if c=true then ta Y H1 Q else tb Y H1 Q
def tP {c:HB}(hc:PT X c tA)(ha:PE X a ta)(hb:PE X b tb):PE X (.IfExp c a b pos) (GL tA ta tb):=by
 intro J s Y H Q I h;show wpAny_IfExp (be (hc J s Y H _ I h) λd s1 #[H1,I1,q1]=>?_)
 cases d with
 | true=>exact ha J s1 Y H1 Q I1 q1
 | false=>exact hb J s1 Y H1 Q I1 q1
end
abbrev SqL (K:Hl)(H:Hp)(a:Hb)(xs:G0 V):Prop:=
 Rd H a (.lst xs)\/
  ∃(o:Je) (its:Io G4) (n:G9),K.lookup a=gV o/\o.cls=.type "list"/\o.dict=td/\o.data=.seq its n/\its.size<=sizeLine/\Vals xs its.toList
abbrev SqT (K:Hl)(H:Hp)(a:Hb)(xs:G0 V):Prop:=
 Rd H a (.tup xs)\/
  ∃(o:Je) (its:Io G4) (n:G9),K.lookup a=gV o/\o.cls=.type "tuple"/\o.dict=td/\o.data=.seq its n/\its.size<=sizeLine/\Vals xs its.toList
abbrev Fc:G4->G7 V
 | .none=>gV .non
 | .bool b=>gV (.bl b)
 | .int i _=>gV (.int i)
 | .str x _=>gV (.str x)
 | .bytes b _=>gV (.byt b)
 | .float b _=>gV (.flt b)
 | .ref a=>gV (.ref a)
 | .type n=>gV (.ty n)
 | _=>td
def RelV.abs {x:V}{u:G4}(r:RelV x u):Fc u=gV x:=by
 cases x with
 | non=>cases r; rfl
 | bl _=>cases r; rfl
 | int _=>obtain⟨t,rfl⟩:=r; rfl
 | str _=>obtain⟨t,rfl⟩:=r; rfl
 | byt _=>obtain⟨t,rfl⟩:=r; rfl
 | flt _=>obtain⟨t,rfl⟩:=r; rfl
 | ref _=>cases r; rfl
 | ty _=>cases r; rfl
def RelV.inj {x y:V}{u:G4}(r:RelV x u)(q:RelV y u):x=y:=IH (r.abs.symm.trans q.abs)
def Vals.inj:∀ {xs ys:G0 V} {us:G0 G4},Vals xs us->Vals ys us->xs=ys
 | _,_,_,.nil,.nil=>rfl
 | _,_,_,.cons r t,.cons r' t'=>by rw[r.inj r',Vals.inj t t']
section
variable{X:Cx}{J:G0 (Hb×Je)}{Y:St}{H:Hp}{s:G5}{a:Hb}{xs ys:G0 V}
def SqL.of {K:Hl}(h:H a=gV (.lst xs)):SqL K H a xs:=.inl (.inl h)
def SqT.of {K:Hl}(h:H a=gV (.tup xs)):SqT K H a xs:=.inl (.inl h)
def Inv.list (I:Inv X J Y H s)(h:SqL X.K H a xs):∃its:G0 G4,Vals xs its/\PlainL s.heap a its.toArray/\xs.length<=sizeLine:=by
 rcases h with h|⟨o,its,n,hk,hc,hd,hs,hz,r⟩
 ·obtain⟨z,its,n,r,e⟩:=h.ok I.hok;exact#[its,r,#[_,n,e,rfl,rfl,rfl],z]
 ·show#[its.toList,r,#[o,n,I.kIn a o hk,hc,hd,by simpa using hs],?_]
  have e:=r.length;simp only[HZ]at e;omega
def Inv.tuple (I:Inv X J Y H s)(h:SqT X.K H a xs):∃its:G0 G4,Vals xs its/\ND s.heap a its.toArray/\xs.length<=sizeLine:=by
 rcases h with h|⟨o,its,n,hk,hc,hd,hs,hz,r⟩
 ·obtain⟨z,its,r,p⟩:=h.ok I.hok;exact#[its,r,p,z.1]
 ·show#[its.toList,r,#[o,I.kIn a o hk,hc,n,by simpa using hs],?_]
  have e:=r.length;simp only[HZ]at e;omega
def Inv.list_inj (I:Inv X J Y H s)(h:SqL X.K H a xs)(h':SqL X.K H a ys):xs=ys:=by
 obtain⟨its,r,⟨o,n,e,_,_,d⟩,_⟩:=I.list h;obtain⟨its',r',⟨o',n',e',_,_,d'⟩,_⟩:=I.list h';rw[e]at e'; cases e'
 rw[d]at d';injection d' with d1 _
 have:its=its':=by simpa using congrArg Pg d1
 subst this;exact r.inj r'
def Inv.tuple_inj (I:Inv X J Y H s)(h:SqT X.K H a xs)(h':SqT X.K H a ys):xs=ys:=by
 obtain⟨its,r,⟨o,e,_,n,d⟩,_⟩:=I.tuple h;obtain⟨its',r',⟨o',e',_,n',d'⟩,_⟩:=I.tuple h';rw[e]at e'; cases e'
 rw[d]at d';injection d' with d1 _
 have:its=its':=by simpa using congrArg Pg d1
 subst this;exact r.inj r'
end
noncomputable abbrev Cx.wish (X:Cx)(E:G4->G5->Prop):Cx:={ X with xe:=E }
noncomputable abbrev Cx.nox (X:Cx):Cx:=X.wish λ_ _=>IJ
def Cx.Ok.wish {X:Cx}(ok:X.Ok)(E:G4->G5->Prop):(X.wish E).Ok:=
 #[ok.mod,ok.kind,ok.glob,ok.blt,ok.above,ok.inj,ok.has,ok.cab,ok.hd,ok.frames,ok.stk,ok.exf,ok.bs,ok.bsz,ok.noex,ok.exfs,ok.funs,ok.frf]
def Cx.Ok.unwish {X:Cx}{E:G4->G5->Prop}(ok:(X.wish E).Ok):X.Ok:=
 #[ok.mod,ok.kind,ok.glob,ok.blt,ok.above,ok.inj,ok.has,ok.cab,ok.hd,ok.frames,ok.stk,ok.exf,ok.bs,ok.bsz,ok.noex,ok.exfs,ok.funs,ok.frf]
section
variable{X:Cx}{J:G0 (Hb×Je)}{Y:St}{H:Hp}{s:G5}{E:G4->G5->Prop}
def Inv.wish (I:Inv X J Y H s)(E:G4->G5->Prop):Inv (X.wish E) J Y H s:=#[I.ok.wish E,I.os,I.bare,I.base,I.loc,I.cell,I.free,I.freeC,I.pin,I.hok,I.len]
def Inv.unwish (I:Inv (X.wish E) J Y H s):Inv X J Y H s:=#[I.ok.unwish,I.os,I.bare,I.base,I.loc,I.cell,I.free,I.freeC,I.pin,I.hok,I.len]
def SP.unwish {D:Ends}{f:Flow}{s':G5}(h:SP (X.wish E) J D f s'):SP X J D f s':=by
 cases f with
 | next=>obtain⟨Y',H',I,q⟩:=h; exact#[Y',H',I.unwish,q]
 | brk=>obtain⟨Y',H',I,q⟩:=h; exact#[Y',H',I.unwish,q]
 | cont=>obtain⟨Y',H',I,q⟩:=h; exact#[Y',H',I.unwish,q]
 | ret u=>obtain⟨v,Y',H',I,r,q⟩:=h; exact#[v,Y',H',I.unwish,r,q]
def PSs.nox {st:G0 J8}{t:TS}(h:PSs X.nox st t):PSs X st t:=λJ s Y H D I hw=>
 Jn (h J s Y H D (I.wish _) hw) (λ_ _ q=>q.unwish) λ_ _ z=>IJ.elim z
end
section
variable{X:Cx}{st:J8}{cz:G0 J8}{t u:TS}{e:HB}{te:TE}{pos:JE}
abbrev tQ:TS:=λD Y H=>D.nx Y H
abbrev Fd (t u:TS):TS:=λD Y H=>t { D with nx:=u D } Y H
def xE:PSs X [] tQ:=λ_ _ Y H _ I h=>Ms #[Y,H,I,h]
def tR (h1:PS X st t)(h2:PSs X cz u):PSs X (st::cz) (Fd t u):=by
 intro J s Y H D I h;show wpAny_execs_cons (be (h1 J s Y H { D with nx:=u D } I h) λf s1 q=>?_)
 cases f with
 | next=>
  obtain⟨Y',H',I',q⟩:=q;exact h2 J s1 Y' H' D I' q
 | ret v=>exact q
 | brk=>exact q
 | cont=>exact q
def xF:PS X (.Pass pos) tQ:=λ_ _ Y H _ I h=>wpAny_Pass #[Y,H,I,h]
def Inv.quiet {J:G0 (Hb×Je)}{Y:St}{H:Hp}{s:G5}(I:Inv X J Y H s):interactive X.env=false:=by simp[interactive,I.ok.kind]
def AT {x j pos pos'}:PS X (.Expr (.Constant (.str x) j pos) pos') tQ:=λ_ s Y H _ I h=>wpAny_Expr (Nm (show SP X _ _ .next { s with toks:=s.toks+1 } from#[Y,H,I.tok _,h])) I.quiet
abbrev C9 (te:TE):TS:=λD Y H=>te Y H λ_ H1=>D.nx Y H1
def xG (he:PE X e te)(hs:swapsWith e td pos.line X.env=pure false:=by rfl):PS X (.Expr e pos) (C9 te):=by
 intro J s Y H D I h;exact wpAny_Expr_any (be (he J s Y H _ I h) λv s1 #[x,H1,I1,r1,q1]=>#[Y,H1,I1,q1]) I.quiet hs
abbrev Fe (te:TE):TS:=λD Y H=>te Y H D.rt
def AU (he:PE X e te):PS X (.Return (gV e) pos) (Fe te):=by
 intro J s Y H D I h;exact wpAny_Return_some (be (he J s Y H _ I h) λv s1 #[x,H1,I1,r1,q1]=>#[x,Y,H1,I1,r1,q1])
abbrev Ff (c:TT)(t u:TS):TS:=λD Y H=>c Y H λb H1=>if b=true then t D Y H1 else u D Y H1
def Da {c:HB}{a b:G0 J8}{tc:TT}(hc:PT X c tc)(ha:PSs X a t)(hb:PSs X b u):PS X (.If c a b pos) (Ff tc t u):=by
 intro J s Y H D I h;show wpAny_If (be (hc J s Y H _ I h) λd s1 #[H1,I1,q1]=>?_)
 cases d with
 | true=>exact ha J s1 Y H1 D I1 q1
 | false=>exact hb J s1 Y H1 D I1 q1
end
noncomputable abbrev TG:=V->St->Hp->(St->Hp->Prop)->Prop
noncomputable abbrev AV:=G0 V->St->Hp->(St->Hp->Prop)->Prop
abbrev PG (X:Cx)(target:HB)(t:TG):Prop:=
 ∀(J:G0 (Hb×Je)) (s:G5) (Y:St) (H:Hp) (v:V) (u:G4) (Q:St->Hp->Prop),Inv X J Y H s->RelV v u->t v Y H Q->
  wpAny (model X.prog X.w) X.A (assign target X.env u) (λ_ s'=>∃Y' H',Inv X J Y' H' s'/\Q Y' H') X.xe s
abbrev Db (X:Cx)(ts:G0 HB)(t:AV):Prop:=
 ∀(J:G0 (Hb×Je)) (s:G5) (Y:St) (H:Hp) (vs:G0 V) (us:G0 G4) (Q:St->Hp->Prop),Inv X J Y H s->Vals vs us->t vs Y H Q->
  wpAny (model X.prog X.w) X.A (assignInOrder ((assignEach ts X.env).map (·.2)) us) (λ_ s'=>∃Y' H',Inv X J Y' H' s'/\Q Y' H') X.xe s
noncomputable abbrev AW:=V->V->V->Hp->(Hp->Prop)->Prop
abbrev AX (X:Cx)(t:AW):Prop:=
 ∀(J:G0 (Hb×Je)) (s:G5) (Y:St) (H:Hp) (o i v:V) (ov iv u:G4) (Q:Hp->Prop),Inv X J Y H s->RelV o ov->RelV i iv->RelV v u->t o i v H Q->
  wpAny (model X.prog X.w) X.A (setItem ov iv u) (λ_ s'=>∃H',Inv X J Y H' s'/\Q H') X.xe s
section
variable{X:Cx}{pos:JE}
abbrev Dc (i:G9):TG:=λv Y H Q=>Q (Y.set i (gV v)) H
def qt {i:G9}{x:Hs}(hN:X.N.Nodup)(hi:X.N[i]?=gV x)(hx:xA X.env.scope x)(hf:X.fn x=true\/X.env.scope.names.lookup x=gV .local):PG X (.Name x pos) (Dc i):=by
 intro J s Y H v u Q I r h;exact NE (dR I hN hi hx r (λs' I'=>#[_,H,I',h]) hf)
abbrev Fg:AV:=λvs Y H Q=>vs=[]/\Q Y H
abbrev De (t:TG)(u:AV):AV:=λvs Y H Q=>∃v r,vs=v::r/\t v Y H λY' H'=>u r Y' H' Q
def xH:Db X [] Fg:=by
 intro J s Y H vs us Q I r h;obtain⟨e,h⟩:=h;subst e;cases r;exact LQ #[Y,H,I,h]
def tV {e:HB}{es:G0 HB}{t:TG}{u:AV}(h1:PG X e t)(h2:Db X es u)
  (hs:(assignEach (e::es) X.env).map (·.2)=assign e X.env::(assignEach es X.env).map (·.2):=by rfl):Db X (e::es) (De t u):=by
 intro J s Y H vs us Q I r h;obtain⟨v,vr,e1,h⟩:=h;subst e1;cases r with
 | cons r rr=>
  rw[hs];show JP (be (h1 J s Y H _ _ _ I r h) λ_ s1 #[Y1,H1,I1,q1]=>?_)
  exact h2 J s1 Y1 H1 _ _ Q I1 rr q1
abbrev Fh (K:Hl)(n:G9)(t:AV):TG:=λv Y H Q=>∃a xs,v=.ref a/\SqT K H a xs/\xs.length=n/\t xs Y H Q
def AY {es:G0 HB}{k:G9}{t:AV}{n:G9}(hc:X.calm=true)(h:Db X es t)
  (hn:(assignEach es X.env).length=n:=by rfl) (hst:(assignEach es X.env).findIdx? (·.1)=td:=by rfl):PG X (.Tuple es k pos) (Fh X.K n t):=by
 intro J s Y H v u Q I r hw;obtain⟨a,xs,e1,hq,hl,hw⟩:=hw;subst e1;cases r;obtain⟨its,rv,ht,hz⟩:=I.tuple hq;show assign_Tuple_tuple (I.ok.hd hc) ht (by simp[hn,<- hl,rv.length]) hst λh' hx=>?_
 have I1:Inv X J Y H { s with heap:=h' }:=I.kept (t':=s.toks) λb o e=>hx b o (HL (Hw e)) e
 exact h J _ Y H xs _ Q I1 (by simpa using rv) hw
abbrev Fi (to ti:TE)(t:AW):TG:=λv Y H Q=>to Y H λo H1=>ti Y H1 λi H2=>t o i v H2 λH3=>Q Y H3
def AZ {o i:HB}{to ti:TE}{t:AW}(ho:PE X o to)(hi:PE X i ti)(hs:AX X t)
  (ha:∀v,assign (.Subscript o i pos) X.env v=(do
   let ov <- holding [v] (eval o X.env)
   let iv <- holding [v,ov] (eval i X.env)
   standAt pos
   holding [v,ov,iv] (setItem ov iv v)
   release [v,ov,iv] []):=by intro _; rfl):PG X (.Subscript o i pos) (Fi to ti t):=by
 intro J s Y H v u Q I r h;rw[ha];show G2 (Jb (be (ho J s Y H _ I h) λov s1 #[x,H1,I1,r1,q1]=>?_))
 show G2 (Jb (be (hi J s1 Y H1 _ I1 q1) λiv s2 #[y,H2,I2,r2,q2]=>?_))
 show G2 (KI (G2 (Jb (be (hs J s2 Y H2 x y v ov iv u _ I2 r1 r2 r q2) λ_ s3 #[H3,I3,q3]=>?_))))
 exact wpAny_release #[Y,H3,I3,q3]
abbrev Fj (te:TE)(g:TG):TS:=λD Y H=>te Y H λx H1=>g x Y H1 D.nx
def A6 {tg e:HB}{te:TE}{g:TG}(he:PE X e te)(hg:PG X tg g)(hs:swapsWithSole [tg] e pos.line X.env=pure false:=by rfl)(hw:swappedStores [tg] e X.env=pure td:=by rfl)
  (h1:(assignEach [tg] X.env).map (·.2)=[assign tg X.env]:=by rfl):PS X (.Assign [tg] e pos) (Fj te g):=by
 intro J s Y H D I h;show wpAny_Assign_stores (be (he J s Y H _ I h) λv s1 #[x,H1,I1,r1,q1]=>?_) hs hw
 rw[h1];exact be (hg J s1 Y H1 x v _ I1 r1 q1) λ_ s2 q=>q
abbrev Fk (i j:G9)(ta:TA):TS:=λD Y H=>ta Y H λvs H1=>∃v w,vs=[v,w]/\D.nx ((Y.set i (gV v)).set j (gV w)) H1
def A7 {i j:G9}{x y:Hs}{a b:HB}{ta:TA}{px py pt:JE}{kt k2 pt2}(hc:X.calm=true)(hN:X.N.Nodup)(hi:X.N[i]?=gV x)(hj:X.N[j]?=gV y)(hij:i≠j)
  (hx:X.env.scope.names.lookup x=gV .local) (hy:X.env.scope.names.lookup y=gV .local) (ha:PA X [a,b] ta)
  (hw:swappedStores [.Tuple [.Name x px,.Name y py] kt pt] (.Tuple [a,b] k2 pt2) X.env=pure (gV [x,y]))
  (hs:swapsWithSole [.Tuple [.Name x px,.Name y py] kt pt] (.Tuple [a,b] k2 pt2) pos.line X.env=pure false:=by rfl) :
  PS X (.Assign [.Tuple [.Name x px,.Name y py] kt pt] (.Tuple [a,b] k2 pt2) pos) (Fk i j ta):=by
 intro J s Y H D I h;rw[Oq];show G2 (KI ?_);rw[hs];show G2 (Hd ?_);rw[HX #v[]]
 show G2 (Tuple_ (be (ha _ J s Y H _ I h) λus s1 #[vs,H1,I1,r1,q1]=>?_))
 obtain⟨v,w,e1,q1⟩:=q1;subst e1;obtain⟨u1,u2,rfl,rv,rw'⟩ : ∃u1 u2,us=[u1,u2]/\RelV v u1/\RelV w u2:=by
  cases r1 with
  | cons p q=>
   cases q with
   | cons p' q'=>
    cases q';exact#[_,_,rfl,p,p']
 show Ip ?_ (by change 2<=sizeLine; decide)
 have I2:Inv X J Y H1 { s1 with heap:=s1.heap.push { cls:=.type "tuple",data:=.seq [u1,u2].toArray } }:=I1.kept (t':=s1.toks) λb o e=>Ha _ e
 rw[hw];show G2 (Hd ?_);change wpAny (model X.prog X.w) X.A (do rule "assign.swapped-stores"; let items <- unpackItems (.ref s1.heap.objs.size) 2 td; assignInOrder [λv=>bindName X.env y v,λv=>bindName X.env x v] items.reverse; pure N4) _ _ _
 show G2 (Mh (G2 (NF (items:=[u1,u2].toArray) (I.ok.hd hc) (M2 s1.heap _) λh' hx'=>?_)))
 have I3:=I2.kept (h':=h') (t':=s1.toks) λb o e=>hx' b o (HL (Hw e)) e
 change wpAny _ _ (assignInOrder [λv=>bindName X.env y v,λv=>bindName X.env x v] [u2,u1] >>= λ_=>pure N4) _ _ _
 show G2 (JP (K3 (dR I3 hN hj (.inl hy) rw' (λs2 I4=>?_) (.inr hy))))
 show JP (K3 (dR I4 hN hi (.inl hx) rv (λs3 I5=>LQ (Hd ?_)) (.inr hx)))
 rw[LW _ _ (Ne.symm hij)]at I5;exact#[_,H1,I5,q1]
abbrev Ba (c:TT)(tb:TS):TS:=λD Y H=>∃W:G9->St->Hp->Prop,(∃m,W m Y H)/\∀m Y H,W m Y H->
 c Y H λb H1=>if b=true then ∃N:St->Hp->Prop,(∀Y' H',N Y' H'->∃m',m' < m/\W m' Y' H')/\tb { D with nx:=N,ct:=N,bk:=D.nx } Y H1 else D.nx Y H1
def tW {c:HB}{body:G0 J8}{tc:TT}{tb:TS}(hp:M3 (model X.prog X.w) X.A X.env X.xe)(hc:PT X c tc)(hb:PSs X body tb):PS X (.While c body [] pos) (Ba tc tb):=by
 intro J s Y H D I h;obtain⟨W,⟨m0,w0⟩,turn⟩:=h;show wpAny_While (codeAny_whileLoop (λn s'=>∃Y' H',Inv X J Y' H' s'/\W n Y' H') ?_ m0 #[Y,H,I,w0])
 rintro n s1 ⟨Y1,H1,I1,w1⟩;show JX hp (be (hc J s1 Y1 H1 _ I1 (turn n Y1 H1 w1)) λb s2 #[H2,I2,q2]=>?_)
 cases b with
 | true=>
  obtain⟨N,hN,q2⟩:=q2;rw[HE rfl];show JX hp (be (hb J s2 Y1 H2 _ I2 q2) λf s3 q3=>?_)
  cases f with
  | next=>
   obtain⟨Y3,H3,I3,n3⟩:=q3;obtain⟨m',hm,w3⟩:=hN Y3 H3 n3;exact#[m',hm,Y3,H3,I3,w3]
  | cont=>
   obtain⟨Y3,H3,I3,n3⟩:=q3;obtain⟨m',hm,w3⟩:=hN Y3 H3 n3;exact#[m',hm,Y3,H3,I3,w3]
  | brk=>exact q3
  | ret v=>exact q3
 | false=>
  rw[HX Ht];exact Ms #[Y1,H2,I2,q2]
end
structure It where
 go:G9->Hp->Prop
 yld:G9->Hp->V->Hp->Prop
 stop:G9->Hp->Prop
abbrev iF (X:Cx)(J:G0 (Hb×Je))(H:Hp)(b:Hb):Prop:=
 H b=td/\b≠X.env.locals/\b∉X.fs/\(b∈X.ex\/X.s₀.heap.objs.size<=b)/\(∀x c,X.env.cells.lookup x=gV c->c≠b)/\∀p∈X.pn++J,p.1≠b
def Inv.fpOk {X:Cx}{J:G0 (Hb×Je)}{Y:St}{H H':Hp}{s:G5}{b:Hb}(I:Inv X J Y H s)(hb:s.heap.objs.size<=b)(hn:H' b=td):iF X J H' b:=by
 show#[hn,J0 (HJ I.lt hb),I.nofs hb,.inr (HK I.sz hb),λx c e z=>?_,λp hp z=>?_]
 ·obtain⟨v,q⟩:=I.cell x c e;exact absurd (HJ q.lt (by rw[z]; exact hb)) (Iw _)
 ·exact absurd (HJ (Hw (I.pin p hp).1) (by rw[z]; exact hb)) (Iw _)
structure Turn (P:HP)(w:Ii)(K:Hl)(tg:HB)(tv:It)(fp:G0 Hb)(it:Hb)(tn:G9->Iv->Prop):Prop where
 mem:it∈fp
 obj:∀i h,tn i h->∀b∈fp,∃o,h.get? b=gV o/\∀v,o.data≠.cell v
 keep:∀i h h',tn i h->(∀b∈fp,∀o,h.get? b=gV o->h'.get? b=gV o)->tn i h'
 item:∀(X:Cx),X.prog=P->X.w=w->X.K=K->X.calm=true->∀(i:G9) (J:G0 (Hb×Je)) (s:G5) (Y:St) (H:Hp) (E:G4->G5->Prop),Inv X J Y H s->(∀b∈fp,iF X J H b)->tn i s.heap->tv.go i H->
  wpAny (model P w) X.A (pyNext (.ref it)) (λr s1=>∃u,r=gV u/\
   wpAny (model P w) X.A (letOwnedTupleGo tg (.ref it) u) (λ_ s2=>∃x H',Inv X J Y H' s2/\RelV x u/\tv.yld i H x H'/\tn (i+1) s2.heap/\∀b∈fp,H' b=td) E s1) E s
 done:∀(X:Cx),X.prog=P->X.w=w->X.K=K->X.calm=true->∀(i:G9) (J:G0 (Hb×Je)) (s:G5) (Y:St) (H:Hp) (E:G4->G5->Prop),Inv X J Y H s->(∀b∈fp,iF X J H b)->tn i s.heap->tv.stop i H->
  wpAny (model P w) X.A (pyNext (.ref it)) (λr s1=>r=td/\Inv X J Y H s1) E s
 self:∀(A:HY) (i:G9) (s:G5) (Q:G4->G5->Prop) (E:G4->G5->Prop),tn i s.heap->Q (.ref it) s->wpAny (model P w) A (pyIter (.ref it)) Q E s
noncomputable abbrev TI:=St->Hp->(It->Hp->Prop)->Prop
abbrev EV (X:Cx)(J:G0 (Hb×Je))(Y:St)(tg:HB)(R:It->Hp->Prop)(itv:G4)(s2:G5):Prop:=
 ∃(it:Hb) (fp:G0 Hb) (tn:G9->Iv->Prop) (tv:It) (H':Hp),itv=.ref it/\Inv X J Y H' s2/\Turn X.prog X.w X.K tg tv fp it tn/\tn 0 s2.heap/\(∀b∈fp,iF X J H' b)/\R tv H'
abbrev PI (X:Cx)(tg iter:HB)(wi:TI):Prop:=
 ∀(J:G0 (Hb×Je)) (s:G5) (Y:St) (H:Hp) (R:It->Hp->Prop),Inv X J Y H s->wi Y H R->
  wpAny (model X.prog X.w) X.A (eval iter X.env) (λv s1=>wpAny (model X.prog X.w) X.A (pyIter v) (EV X J Y tg R) X.xe s1) X.xe s
def qu {Mqa:Pp}{A:HY}{E:G4->G5->Prop}{s:G5}{tg:HB}{it:Hb}{u:G4}{o:Je}{n:IN}{vs:Io G4}{Q:Unit->G5->Prop}(ho:s.heap.get? it=gV o)(hc:o.cls=.type n)(hd:o.data=.fields vs)
    (hn:["enumerate","zip","dict_itemiterator","dict_reverseitemiterator","odict_iterator","itertools.zip_longest","itertools.pairwise"].contains n=false) (hQ:Q () s):wpAny Mqa A (letOwnedTupleGo tg (.ref it) u) Q E s:=by
  unfold letOwnedTupleGo;cases tg <;> first
    | exact Hd hQ
    | (cases u <;> first
        | exact Hd hQ
        | (show G2 (Nn ho ?_)
           rw[hc,hd];change wpAny Mqa A (if (["enumerate","zip","dict_itemiterator","dict_reverseitemiterator","odict_iterator","itertools.zip_longest","itertools.pairwise"].contains n&&vs[0]?==gV (rawInt _))=true then _ else _) Q E s
           rw[HX (by intro h; rw[hn,MK]at h; cases h)]
           exact Hd hQ))
abbrev Fn (K:Hl)(a:Hb):It:=
 #[λi H=>∃xs x,SqL K H a xs/\xs[i]?=gV x,λi H x H'=>H'=H/\∀xs,SqL K H a xs->xs[i]?=gV x,λi H=>∃xs,SqL K H a xs/\xs.length<=i]
abbrev CP (K:Hl)(a:Hb):It:=
 #[λi H=>∃xs x,SqT K H a xs/\xs[i]?=gV x,λi H x H'=>H'=H/\∀xs,SqT K H a xs->xs[i]?=gV x,λi H=>∃xs,SqT K H a xs/\xs.length<=i]
abbrev Dg (lo:Hg)(n:G9):It:=#[λi _=>i < n,λi H x H'=>H'=H/\x=.int (lo+i),λi _=>n<=i]
def rP {P:HP}{w:Ii}{K:Hl}{tg:HB}(a it:Hb):Turn P w K tg (Fn K a) [it] it (λi h=>h.IsListIter it a i) where
 mem:=by simp
 obj:=λi h st b hb=>by
  have e:b=it:=by simpa using hb
  subst e;obtain⟨o,e,c,d⟩:=st;exact#[o,e,λv z=>by rw[d]at z; cases z]
 keep:=λi h h' st k=>st.at λo e=>k it (by simp) o e
 item:=by
  intro X hP hw hK hc i J s Y H E I hf st hg;subst hP hw hK;obtain⟨xs,x,hq,hx⟩:=hg;obtain⟨its,rv,p,hz⟩:=I.list hq;obtain⟨u,hu,ru⟩:=rv.get hx;obtain⟨f0,f1,f2,f3,f4,f5⟩:=hf it (by simp)
  show wpAny_pyNext_list_item st p.isList (x:=u) (by simpa using hu) λh' st' sb=>?_
  have I1:Inv X J Y H { s with heap:=h' }:=I.turned (t':=s.toks) (λb o hb e=>(sb.2 b hb).trans e) f0 f1 f3 f4 f5
  obtain⟨o,e,c,d⟩:=id st';exact#[u,rfl,qu (s:={ s with heap:=h' }) e c d #v[] #[x,H,I1,ru,#[rfl,λys hy=>by rw[I.list_inj hy hq]; exact hx],st',λb hb=>(hf b hb).1]]
 done:=by
  intro X hP hw hK hc i J s Y H E I hf st hg;subst hP hw hK;obtain⟨xs,hq,hx⟩:=hg;obtain⟨its,rv,p,hz⟩:=I.list hq;obtain⟨f0,f1,f2,f3,f4,f5⟩:=hf it (by simp)
  have hl:=rv.length;exact wpAny_pyNext_list_end (I.ok.hd hc) st p.isList (by simp; omega) λh' eb=>#[rfl,I.turned (t':=s.toks) (λb o hb e=>eb b o hb e) f0 f1 f3 f4 f5]
 self:=λ_ _ _ _ _ st h=>wpAny_pyIter_listiter st h
def pc {P:HP}{w:Ii}{K:Hl}{tg:HB}(a it:Hb):Turn P w K tg (CP K a) [it] it (λi h=>h.IsTupleIter it a i) where
 mem:=by simp
 obj:=λi h st b hb=>by
  have e:b=it:=by simpa using hb
  subst e;obtain⟨o,e,c,d⟩:=st;exact#[o,e,λv z=>by rw[d]at z; cases z]
 keep:=λi h h' st k=>st.at λo e=>k it (by simp) o e
 item:=by
  intro X hP hw hK hc i J s Y H E I hf st hg;subst hP hw hK;obtain⟨xs,x,hq,hx⟩:=hg;obtain⟨its,rv,p,hz⟩:=I.tuple hq;obtain⟨u,hu,ru⟩:=rv.get hx;obtain⟨f0,f1,f2,f3,f4,f5⟩:=hf it (by simp)
  show wpAny_pyNext_tuple_item st (show s.heap.IsTuple a its.toArray from p) (x:=u) (by simpa using hu) λh' st' sb=>?_
  have I1:Inv X J Y H { s with heap:=h' }:=I.turned (t':=s.toks) (λb o hb e=>(sb.2 b hb).trans e) f0 f1 f3 f4 f5
  obtain⟨o,e,c,d⟩:=id st';exact#[u,rfl,qu (s:={ s with heap:=h' }) e c d #v[] #[x,H,I1,ru,#[rfl,λys hy=>by rw[I.tuple_inj hy hq]; exact hx],st',λb hb=>(hf b hb).1]]
 done:=by
  intro X hP hw hK hc i J s Y H E I hf st hg;subst hP hw hK;obtain⟨xs,hq,hx⟩:=hg;obtain⟨its,rv,p,hz⟩:=I.tuple hq;obtain⟨f0,f1,f2,f3,f4,f5⟩:=hf it (by simp)
  have hl:=rv.length;exact wpAny_pyNext_tuple_end (I.ok.hd hc) st (show s.heap.IsTuple a its.toArray from p) (by simp; omega) λh' eb=>#[rfl,I.turned (t':=s.toks) (λb o hb e=>eb b o hb e) f0 f1 f3 f4 f5]
 self:=λ_ _ _ _ _ st h=>wpAny_pyIter_tupleiter st h
def pd {P:HP}{w:Ii}{K:Hl}{tg:HB}(it:Hb)(lo:Hg)(n:G9):Turn P w K tg (Dg lo n) [it] it (λi h=>Pr h it (lo+(i:G9)*1) ((n:Hg) - (i:G9)) 1) where
 mem:=by simp
 obj:=λi h st b hb=>by
  have e:b=it:=by simpa using hb
  subst e;exact#[_,st,λv z=>by
   have z':Data.fields _=Data.cell v:=z;cases z']
 keep:=λi h h' st k=>k it (by simp) _ st
 item:=by
  intro X hP hw hK hc i J s Y H E I hf st hg;subst hP hw hK;obtain⟨f0,f1,f2,f3,f4,f5⟩:=hf it (by simp)
  have W:=Walks.range (prog:=X.prog) (w:=X.w) (I.ok.hd hc) it lo 1 n;show W.item i s _ _ hg st λv h' tk hv st' kk=>?_
  obtain⟨t,rfl⟩:=hv;have I1:Inv X J Y H { s with heap:=h',toks:=tk }:=I.turned (λb o hb e=>kk b o (by simpa using hb) e) f0 f1 f3 f4 f5
  show#[_,rfl,qu (s:={ s with heap:=h',toks:=tk }) (n:="range_iterator") st' rfl rfl #v[] #[.int (lo+i),H,I1,#[t,?_],#[rfl,rfl],st',λb hb=>(hf b hb).1]]
  rw[Int.mul_one]
 done:=by
  intro X hP hw hK hc i J s Y H E I hf st hg;subst hP hw hK;obtain⟨f0,f1,f2,f3,f4,f5⟩:=hf it (by simp)
  exact wpAny_pyNext_range_end (I.ok.hd hc) st (by have:n<=i:=hg; omega) λh' eb=>#[rfl,I.turned (t':=s.toks) (λb o hb e=>eb b o hb e) f0 f1 f3 f4 f5]
 self:=λ_ _ _ _ _ st h=>wpAny_pyIter_rangeiter st h
section
variable{X:Cx}{tg:HB}
def nA {J:G0 (Hb×Je)}{Y:St}{H:Hp}{s:G5}{R:It->Hp->Prop}{E:G4->G5->Prop}{lo hi:Hg}{t u v:Qj}{tk:G9}(I:Inv X J Y H s)(h1 : -(2 ^ 62)<=lo)(h2:lo < 2 ^ 62)(h3 : -(2 ^ 62)<=hi)(h4:hi < 2 ^ 62)
  (q:R (Dg lo (hi - lo).toNat) H):wpAny (model X.prog X.w) X.A (pyIter (.ref s.heap.objs.size)) (EV X J Y tg R) E { s with heap:=s.heap.push { cls:=.type "range",data:=.fields [.int lo t,.int hi u,.int 1 v].toArray },toks:=tk }:=by
 show wpAny_pyIter_range (IsRange.new ..) (Pf h1 h2 h3 h4) ?_;have I1:Inv X J Y H { s with heap:=s.heap.push { cls:=.type "range",data:=.fields [.int lo t,.int hi u,.int 1 v].toArray },toks:=tk }:=I.kept λb o e=>Ha _ e
 show#[(s.heap.push { cls:=.type "range",data:=.fields [.int lo t,.int hi u,.int 1 v].toArray }).objs.size,[(s.heap.push { cls:=.type "range",data:=.fields [.int lo t,.int hi u,.int 1 v].toArray }).objs.size],_,_,H,rfl,
  I1.kept (t':=tk) λb o e=>Ha _ e,pd _ lo (hi - lo).toNat,?_,λb hb=>?_,q]
 ·have e1:lo+((0:G9):Hg)*1=lo:=by simp
  have e2:(((hi - lo).toNat:G9):Hg) - ((0:G9):Hg)=Jo lo hi 1:=by rw[Nb]; split <;> omega
  change Pr _ _ (lo+((0:G9):Hg)*1) ((((hi - lo).toNat:G9):Hg) - ((0:G9):Hg)) 1;rw[e1,e2];exact Hv _ rfl
 ·have e:b=(s.heap.push { cls:=.type "range",data:=.fields [.int lo t,.int hi u,.int 1 v].toArray }).objs.size:=by simpa using hb
  subst e;exact I1.fpOk (Hj _) (I1.hok.fresh (Hj _))
abbrev Dh (ta:TA):TI:=λY H R=>ta Y H λvs H1=>∃j:Hg,vs=[.int j]/\-(2 ^ 62)<=j/\j < 2 ^ 62/\R (Dg 0 j.toNat) H1
abbrev iRng2 (ta:TA):TI:=λY H R=>ta Y H λvs H1=>∃i j:Hg,vs=[.int i,.int j]/\(-(2 ^ 62)<=i/\i < 2 ^ 62/\-(2 ^ 62)<=j/\j < 2 ^ 62)/\R (Dg i (j - i).toNat) H1
def rQ {a:HB}{ta:TA}{p pos:JE}(hg:Gl X "range")(hm:X.mg "range" = td)(ha:PA X [a] ta)(hs:starEach [a] X.env=[(false,eval a X.env)]:=by rfl):PI X tg (.Call (.Name "range" p) [a] [] pos) (Dh ta):=by
 intro J s Y H R I h;show Call_ (iE I hg hm boot_range (JK (be (ha pos J s Y H _ I h) λus s1 #[vs,H1,I1,r1,q1]=>?_) hs rfl))
 obtain⟨j,e,q1,q2,q⟩:=q1;subst e;cases r1 with
 | cons r rr=>
  cases rr;obtain⟨t,rfl⟩:=r;exact Ph (nA I1 ∅ ∅ q1 q2 (by simpa using q))
def rR {a b:HB}{ta:TA}{p pos:JE}(hg:Gl X "range")(hm:X.mg "range" = td)(ha:PA X [a,b] ta)(hs:starEach [a,b] X.env=[(false,eval a X.env),(false,eval b X.env)]:=by rfl)(hs2:starEach [b] X.env=[(false,eval b X.env)]:=by rfl) :
  PI X tg (.Call (.Name "range" p) [a,b] [] pos) (iRng2 ta):=by
 intro J s Y H R I h;show Call_ (iE I hg hm boot_range (JK (be (ha pos J s Y H _ I h) λus s1 #[vs,H1,I1,r1,q1]=>?_) (by rw[hs,hs2]) (by rw[hs2]; rfl)))
 obtain⟨i,j,e,⟨q1,q2,q3,q4⟩,q⟩:=q1;subst e;cases r1 with
 | cons r rr=>
  cases rr with
  | cons r' rr=>
   cases rr;obtain⟨t,rfl⟩:=r;obtain⟨t',rfl⟩:=r';exact call_range_2 (nA I1 q1 q2 q3 q4 q)
abbrev Fo (wi:TI)(g:TG)(tb:TS):TS:=λD Y H=>wi Y H λtv H1=>∃W:G9->G9->St->Hp->Prop,(∃m,W 0 m Y H1)/\∀i m Y H,W i m Y H->
 (tv.stop i H/\D.nx Y H)\/(tv.go i H/\∃N:St->Hp->Prop,(∀Y' H',N Y' H'->∃m',m' < m/\W (i+1) m' Y' H')/\∀x H',tv.yld i H x H'->g x Y H' λY2 H2=>tb { D with nx:=N,ct:=N,bk:=D.nx } Y2 H2)
abbrev iG (fp:G0 Hb)(h:Iv):G0 (Hb×Je):=fp.filterMap λb=>(h.get? b).map λo=>(b,o)
def eS {fp:G0 Hb}{h:Iv}{b:Hb}{o:Je}(hb:b∈fp)(e:h.get? b=gV o):(b,o)∈iG fp h:=No.mpr #[b,hb,by rw[e]; rfl]
def rS {fp:G0 Hb}{h:Iv}{p:Hb×Je}(hp:p∈iG fp h):p.1∈fp/\h.get? p.1=gV p.2:=by
 obtain⟨b,hb,e⟩:=No.mp hp;cases q:h.get? b with
 | none=>rw[q]at e; cases e
 | some o=>
  rw[q]at e;have e':(b,o)=p:=IH e;subst e';exact#[hb,q]
def Inv.pinned {J:G0 (Hb×Je)}{Y:St}{H:Hp}{s:G5}{fp:G0 Hb}(I:Inv X J Y H s)(hf:∀b∈fp,iF X J H b)(ho:∀b∈fp,∃o,s.heap.get? b=gV o/\∀v,o.data≠.cell v):Inv X (J++iG fp s.heap) Y H s:=
 I.pins_of λp hp=>(HI.mp hp).elim (λz=>I.pin p (HH _ z)) λz=>by
  obtain⟨hb,e⟩:=rS z;obtain⟨f0,f1,f2,_⟩:=hf p.1 hb;obtain⟨o,e',d⟩:=ho p.1 hb;rw[e]at e'; cases e'
  exact#[e,f0,f1,f2,d]
def Inv.unpinned {J pl:G0 (Hb×Je)}{Y:St}{H:Hp}{s:G5}(I:Inv X (J++pl) Y H s):Inv X J Y H s:=I.pins_of λp hp=>I.pin p (HH _ (JA _ hp))
def Bb {iter:HB}{body:G0 J8}{wi:TI}{g:TG}{tb:TS}{pos:JE}(hp:M3 (model X.prog X.w) X.A X.env X.xe)(hc:X.calm=true)(hi:PI X tg iter wi)(hg:PG X tg g)(hb:PSs X body tb)
  (hs:∀x,foldedSetIterable iter X.env x=pure x:=by intro _; rfl):PS X (.For tg iter body [] pos) (Fo wi g tb):=by
 intro J s Y H D I h;show wpAny_For (be (hi J s Y H _ I h) λv s1 h1=>be h1 λitv s2 h2=>?_) hs
 obtain⟨it,fp,tn,tv,H2,e,I2,T,aM,f2,W,⟨m0,w0⟩,turn⟩:=h2;subst e;have stat:∀ {H':Hp},(∀b∈fp,H' b=td)->∀b∈fp,iF X J H' b:=λhn b hb=>#[hn b hb,(f2 b hb).2]
 show codeAny_forLoop_any (λn s'=>∃i Y' H',Inv X J Y' H' s'/\tn i s'.heap/\(∀b∈fp,H' b=td)/\W i n Y' H') ?_ m0 #[0,Y,H2,I2,aM,λb hb=>(f2 b hb).1,w0]
 rintro n s3 ⟨i,Y3,H3,I3,st3,fr3,w3⟩;rcases turn i n Y3 H3 w3 with⟨stop,qn⟩|⟨go,N,hN,step⟩
 ·show JX hp (be (T.done X rfl rfl rfl hc i J s3 Y3 H3 X.xe I3 (stat fr3) st3 stop) λr s4 #[hr,I4]=>?_)
  subst hr;exact Ms #[Y3,H3,I4,qn]
 ·show JX hp (be (T.item X rfl rfl rfl hc i J s3 Y3 H3 X.xe I3 (stat fr3) st3 go) λr s4 #[u,hr,h4]=>?_)
  subst hr;show JX hp (be h4 λ_ s5 #[x,H5,I5,r5,y5,st5,fr5]=>?_)
  have I5':=I5.pinned (stat fr5) (T.obj _ _ st5);show JX hp (be (hg _ s5 Y3 H5 x u _ I5' r5 (step x H5 y5)) λ_ s6 #[Y6,H6,I6,q6]=>?_)
  show JX hp (be (hb _ s6 Y6 H6 _ I6 q6) λf s7 q7=>?_)
  have again:∀ {Y7:St} {H7:Hp},Inv X (J++iG fp s5.heap) Y7 H7 s7->N Y7 H7->∃m,m < n/\∃i Y' H',Inv X J Y' H' s7/\tn i s7.heap/\(∀b∈fp,H' b=td)/\W i m Y' H':=λ{Y7 H7} I7 n7=>by
   obtain⟨m',hm,w7⟩:=hN Y7 H7 n7;show#[m',hm,i+1,Y7,H7,I7.unpinned,T.keep _ _ _ st5 λb hb o e=>(I7.pin (b,o) (HH _ (HH _ (eS hb e)))).1,λb hb=>?_,w7]
   obtain⟨o,e,d⟩:=T.obj _ _ st5 b hb;exact(I7.pin (b,o) (HH _ (HH _ (eS hb e)))).2.1
  cases f with
  | next=>obtain⟨Y7,H7,I7,n7⟩:=q7; exact again I7 n7
  | cont=>obtain⟨Y7,H7,I7,n7⟩:=q7; exact again I7 n7
  | brk=>obtain⟨Y7,H7,I7,q7⟩:=q7; exact#[Y7,H7,I7.unpinned,q7]
  | ret v=>obtain⟨x7,Y7,H7,I7,r7,q7⟩:=q7; exact#[x7,Y7,H7,I7.unpinned,r7,q7]
end
def for_tup {K:Hl}{a:Hb}{xs:G0 V}{g:TG}{tb:TS}{D:Ends}{Y:St}{H:Hp}(Pv:G9->St->Hp->Prop)(h0:Pv 0 Y H)(hl:∀i Y H,i<=xs.length->Pv i Y H->SqT K H a xs)
  (hs:∀i x Y H,xs[i]?=gV x->Pv i Y H->g x Y H λY2 H2=>tb { D with nx:=Pv (i+1),ct:=Pv (i+1),bk:=D.nx } Y2 H2) (hd:∀Y H,Pv xs.length Y H->D.nx Y H) :
  ∃W:G9->G9->St->Hp->Prop,(∃m,W 0 m Y H)/\∀i m Y H,W i m Y H->
   ((CP K a).stop i H/\D.nx Y H)\/((CP K a).go i H/\∃N:St->Hp->Prop,(∀Y' H',N Y' H'->∃m',m' < m/\W (i+1) m' Y' H')/\∀x H',(CP K a).yld i H x H'->g x Y H' λY2 H2=>tb { D with nx:=N,ct:=N,bk:=D.nx } Y2 H2):=by
 show#[λi m Y H=>m=xs.length - i/\i<=xs.length/\Pv i Y H,#[xs.length,by simp,IS _,h0],?_]
 rintro i m Y H ⟨rfl,hi,p⟩;have q:=hl i Y H hi p
 by_cases hlt:i < xs.length
 ·show .inr #[#[xs,xs[i],q,by simp[hlt]],Pv (i+1),λY' H' p'=>#[xs.length - (i+1),∅,rfl,hlt,p'],λx H' y=>?_]
  obtain⟨e,y⟩:=y;subst e;exact hs i x Y _ (y xs q) p
 ·have e:i=xs.length:=∅
  subst e;exact .inl #[#[xs,q,Hj _],hd Y H p]
noncomputable abbrev R2:=V->V->Hp->VK->Prop
abbrev OpR (X:Cx)(f:G4->G4->Pq G4)(r:R2):Prop:=
 ∀(J:G0 (Hb×Je)) (s:G5) (Y:St) (H:Hp) (x y:V) (v u:G4) (Q:VK),Inv X J Y H s->RelV x v->RelV y u->r x y H Q->
  wpAny (model X.prog X.w) X.A (f v u) (EP X J Y Q) X.xe s
abbrev Fp (X:Cx)(f:G4->Pq G4)(r:V->Hp->VK->Prop):Prop:=
 ∀(J:G0 (Hb×Je)) (s:G5) (Y:St) (H:Hp) (x:V) (v:G4) (Q:VK),Inv X J Y H s->RelV x v->r x H Q->
  wpAny (model X.prog X.w) X.A (f v) (EP X J Y Q) X.xe s
abbrev CallR (X:Cx)(f:G4)(r:G0 V->Hp->VK->Prop):Prop:=
 ∀(J:G0 (Hb×Je)) (s:G5) (Y:St) (H:Hp) (xs:G0 V) (us:G0 G4) (Q:VK),Inv X J Y H s->Vals xs us->r xs H Q->
  wpAny (model X.prog X.w) X.A (call f us) (EP X J Y Q) X.xe s
abbrev Fq (X:Cx)(r:V->Hp->(HA->Hp->Prop)->Prop):Prop:=
 ∀(J:G0 (Hb×Je)) (s:G5) (Y:St) (H:Hp) (x:V) (v:G4) (Q:HA->Hp->Prop),Inv X J Y H s->RelV x v->r x H Q->
  wpAny (model X.prog X.w) X.A (truthy v) (TP X J Y Q) X.xe s
abbrev EW (r:R2)(ta tb:TE):TE:=λY H Q=>ta Y H λx H1=>tb Y H1 λy H2=>r x y H2 Q
abbrev GM (r:V->Hp->VK->Prop)(ta:TE):TE:=λY H Q=>ta Y H λx H1=>r x H1 Q
abbrev rI (C:Hg->Hg->Prop)(g:Hg->Hg->V):R2:=λx y H Q=>∃i j,x=.int i/\y=.int j/\C i j/\Q (g i j) H
abbrev Ac (g:Hg->Hg->V):R2:=λx y H Q=>∃i j,x=.int i/\y=.int j/\Q (g i j) H
abbrev rU (g:Hg->V):V->Hp->VK->Prop:=λx H Q=>∃i,x=.int i/\Q (g i) H
section
variable{X:Cx}{a b c:HB}{ta tb tc:TE}{pos:JE}
def Bc (ha:PE X a ta)(hb:PE X b tb){J:G0 (Hb×Je)}{s:G5}{Y:St}{H:Hp}{R:V->V->Hp->Prop}(I:Inv X J Y H s)
  (h:ta Y H λx H1=>tb Y H1 λy H2=>R x y H2) {Q:G4->G5->Prop} {f:G4->G4->Pq G4}
  (hf:∀v u s2 x y H2,Inv X J Y H2 s2->RelV x v->RelV y u->R x y H2->wpAny (model X.prog X.w) X.A (f v u) Q X.xe s2) :
  wpAny (model X.prog X.w) X.A (eval a X.env) (λv s₁=>wpAny (model X.prog X.w) X.A (eval b X.env) (λu s₂=>wpAny (model X.prog X.w) X.A (f v u) Q X.xe s₂) X.xe s₁) X.xe s:=by
 show be (ha J s Y H _ I h) λv s1 #[x,H1,I1,r1,q1]=>?_
 show be (hb J s1 Y H1 _ I1 q1) λu s2 #[y,H2,I2,r2,q2]=>?_
 exact hf v u s2 x y H2 I2 r1 r2 q2
def Di {op:NG}{r:R2}(ho:OpR X (binaryOp op) r)(ha:PE X a ta)(hb:PE X b tb):PE X (.BinOp a op b pos) (EW r ta tb):=by
 intro J s Y H Q I h;exact wpAny_BinOp (Bc ha hb I h λv u s2 x y H2 I2 rx ry q=>ho J s2 Y H2 x y v u Q I2 rx ry q)
def Dj {op:UnaryOp}{r:V->Hp->VK->Prop}(ho:Fp X (unaryOp op) r)(ha:PE X a ta):PE X (.UnaryOp op a pos) (GM r ta):=by
 intro J s Y H Q I h;exact UnaryOp_ (be (ha J s Y H _ I h) λv s1 #[x,H1,I1,r1,q1]=>ho J s1 Y H1 x v Q I1 r1 q1)
def EX {f:G4->G4->Pq G4}{C:Hg->Hg->Prop}{g:Hg->Hg->Hg}
  (rule:∀(i j:Hg) (t u:Qj) (s:G5) (Q:G4->G5->Prop) (E:G4->G5->Prop),C i j->Q (.int (g i j) s.toks) { s with toks:=s.toks+1 }->wpAny (model X.prog X.w) X.A (f (.int i t) (.int j u)) Q E s) :
  OpR X f (rI C λi j=>.int (g i j)):=by
 intro J s Y H x y v u Q I rx ry h;obtain⟨i,j,rfl,rfl,hc,q⟩:=h;obtain⟨t,rfl⟩:=rx;obtain⟨t',rfl⟩:=ry;exact rule i j t t' s _ _ hc #[.int (g i j),H,I.tok _,#[_,rfl],q]
def Dk {f:G4->G4->Pq G4}{g:Hg->Hg->Hg}
  (rule:∀(i j:Hg) (t u:Qj) (s:G5) (Q:G4->G5->Prop) (E:G4->G5->Prop),Q (.int (g i j) s.toks) { s with toks:=s.toks+1 }->wpAny (model X.prog X.w) X.A (f (.int i t) (.int j u)) Q E s) :
  OpR X f (Ac λi j=>.int (g i j)):=by
 intro J s Y H x y v u Q I rx ry h;obtain⟨i,j,rfl,rfl,q⟩:=h;obtain⟨t,rfl⟩:=rx;obtain⟨t',rfl⟩:=ry;exact rule i j t t' s _ _ #[.int (g i j),H,I.tok _,#[_,rfl],q]
def xI {f:G4->G4->Pq G4}{g:Hg->Hg->HA}
  (rule:∀(i j:Hg) (t u:Qj) (s:G5) (Q:G4->G5->Prop) (E:G4->G5->Prop),Q (.bool (g i j)) s->wpAny (model X.prog X.w) X.A (f (.int i t) (.int j u)) Q E s) :
  OpR X f (Ac λi j=>.bl (g i j)):=by
 intro J s Y H x y v u Q I rx ry h;obtain⟨i,j,rfl,rfl,q⟩:=h;obtain⟨t,rfl⟩:=rx;obtain⟨t',rfl⟩:=ry;exact rule i j t t' s _ _ #[.bl (g i j),H,I,rfl,q]
abbrev Fs (i j:Hg):Prop:=0 < j/\j < 1073741824
abbrev Ft (i j:Hg):Prop:=0<=j/\j<=1000000/\i.natAbs < 2 ^ 64
abbrev CMul (i j:Hg):Prop:=(-(2 ^ 64) < i/\i < 2 ^ 64)\/(-(2 ^ 64) < j/\j < 2 ^ 64)
def CMul.ok {i j:Hg}(h:CMul i j):IntMulOk i j:=by
 rcases h with⟨h1,h2⟩|⟨h1,h2⟩
 ·exact .of_left (O0 h1 h2)
 ·exact .of_right (O0 h1 h2)
def Bd:OpR X (binaryOp .Add) (Ac λi j=>.int (i+j)):=Dk λ_ _ _ _ _ _ _ q=>add_int q
def Be:OpR X (binaryOp .Sub) (Ac λi j=>.int (i - j)):=Dk λ_ _ _ _ _ _ _ q=>sub_int q
def Bf:OpR X (binaryOp .Mult) (rI CMul λi j=>.int (i*j)):=EX λ_ _ _ _ _ _ _ hc q=>mul_int q hc.ok
def xJ:OpR X (binaryOp .FloorDiv) (rI Fs λi j=>.int (i / j)):=EX λi j _ _ _ _ _ hc q=>by
 have h1:(0:Hg) < j:=hc.1;have h2:j < 1073741824:=hc.2;exact floordiv_int ∅ (by rw[Int.fdiv_eq_ediv_of_nonneg i ∅]; exact q) (.inl (PyProof.noPylong_small ∅))
def Bg:OpR X (binaryOp .Mod) (rI (λ_ j=>0 < j) λi j=>.int (i % j)):=EX λi j _ _ _ _ _ hc q=>by
 have h1:(0:Hg) < j:=hc;exact mod_int' ∅ (by rw[Int.fmod_eq_emod_of_nonneg i ∅]; exact q)
def Bh:OpR X (binaryOp .Pow) (rI Ft λi j=>.int (i ^ j.toNat)):=EX λ_ _ _ _ _ _ _ hc q=>pow_int_small hc.1 hc.2.1 hc.2.2 q
def unI {f:G4->Pq G4}{g:Hg->Hg}
  (rule:∀(i:Hg) (t:Qj) (s:G5) (Q:G4->G5->Prop) (E:G4->G5->Prop),Q (.int (g i) s.toks) { s with toks:=s.toks+1 }->wpAny (model X.prog X.w) X.A (f (.int i t)) Q E s) :
  Fp X f (rU λi=>.int (g i)):=by
 intro J s Y H x v Q I rx h;obtain⟨i,rfl,q⟩:=h;obtain⟨t,rfl⟩:=rx;exact rule i t s _ _ #[.int (g i),H,I.tok _,#[_,rfl],q]
def Bj:Fp X (unaryOp .USub) (rU λi=>.int (-i)):=unI λ_ _ _ _ _ q=>neg_int q
def tX {J:G0 (Hb×Je)}{Y:St}{H:Hp}{s:G5}{Q:VK}{k k':HA}(I:Inv X J Y H s)(q:Q (.bl k) H)(e:k=k'):EP X J Y Q (.bool k') s:=by
 subst e;exact#[.bl k,H,I,rfl,q]
def Dl:OpR X (compareOp .Lt) (Ac λi j=>.bl (decide (i < j))):=xI λ_ _ _ _ _ _ _ q=>lt_int q
def Dm:OpR X (compareOp .LtE) (Ac λi j=>.bl (decide (i<=j))):=xI λ_ _ _ _ _ _ _ q=>le_int q
def Dn:OpR X (compareOp .Gt) (Ac λi j=>.bl (decide (j < i))):=xI λ_ _ _ _ _ _ _ q=>gt_int q
def Do:OpR X (compareOp .GtE) (Ac λi j=>.bl (decide (j<=i))):=xI λ_ _ _ _ _ _ _ q=>ge_int q
def Bk:OpR X (compareOp .Is) (λx y H Q=>y=.non/\Q (.bl (decide (x=.non))) H):=by
 intro J s Y H x y v u Q I rx ry h;obtain⟨rfl,q⟩:=h;cases ry;show is_none_gen (tX I q ?_);cases x <;> first
  | (cases rx; rfl)
  | (obtain⟨t,rfl⟩:=rx; rfl)
def xK:OpR X (compareOp .IsNot) (λx y H Q=>y=.non/\Q (.bl (!decide (x=.non))) H):=by
 intro J s Y H x y v u Q I rx ry h;obtain⟨rfl,q⟩:=h;cases ry;show isnot_none_gen (tX I q ?_);cases x <;> first
  | (cases rx; rfl)
  | (obtain⟨t,rfl⟩:=rx; rfl)
def xL {op:Ol}{r:R2}(ho:OpR X (compareOp op) r)(ha:PE X a ta)(hb:PE X b tb)(hm:behindInMarks op b=false):PE X (.Compare a [op] [b] pos) (EW r ta tb):=by
 intro J s Y H Q I h;exact wpAny_Compare1 (Bc ha hb I h λv u s2 x y H2 I2 rx ry q=>ho J s2 Y H2 x y v u Q I2 rx ry q) hm
abbrev Ad (t:TE):TT:=λY H Q=>t Y H λx H'=>∃k,x=.bl k/\Q k H'
def xM {op:Ol}{r:R2}(ho:OpR X (compareOp op) r)(ha:PE X a ta)(hb:PE X b tb)(hm:behindInMarks op b=false):PT X (.Compare a [op] [b] pos) (Ad (EW r ta tb)):=by
 intro J s Y H Q I h;show wpAny_isTrue_Compare1 (be (ha J s Y H _ I h) λv s1 #[x,H1,I1,r1,q1]=>be (hb J s1 Y H1 _ I1 q1) λu s2 #[y,H2,I2,r2,q2]=>
  be (ho J s2 Y H2 x y v u _ I2 r1 r2 q2) λc s3 #[z,H3,I3,r3,k,e,q3]=>?_) hm
 subst e;cases r3;exact IU #[H3,I3,q3]
abbrev pe (r r':R2)(ta tb tc:TE):TE:=λY H Q=>ta Y H λx H1=>tb Y H1 λy H2=>r x y H2 λz H3=>∃k,z=.bl k/\
 (if k=true then tc Y H3 λw' H4=>r' y w' H4 Q else Q (.bl false) H3)
def tY {op op':Ol}{r r':R2}(ho:OpR X (compareOp op) r)(ho':OpR X (compareOp op') r')(ha:PE X a ta)(hb:PE X b tb)(hc:PE X c tc)
  (hm:lastMarks [op,op'] [b,c]=false:=by with_unfolding_all rfl):PE X (.Compare a [op,op'] [b,c] pos) (pe r r' ta tb tc):=by
 intro J s Y H Q I h;show Compare_chain (be (ha J s Y H _ I h) λv s1 #[x,H1,I1,r1,q1]=>chain_link (be (hb J s1 Y H1 _ I1 q1) λu s2 #[y,H2,I2,r2,q2]=>
  be (ho J s2 Y H2 x y v u _ I2 r1 r2 q2) λd s3 #[z,H3,I3,r3,k,e,q3]=>?_)) hm
 subst e;cases r3;show IU ?_;cases k with
 | false=>exact ite_ff #[.bl false,H3,I3,rfl,q3]
 | true=>exact ite_tt (chain_last (be (hc J s3 Y H3 _ I3 q3) λw' s4 #[z',H4,I4,r4,q4]=>ho' J s4 Y H4 y z' u w' Q I4 r2 r4 q4))
def tZ {op op':Ol}{r r':R2}(ho:OpR X (compareOp op) r)(ho':OpR X (compareOp op') r')(ha:PE X a ta)(hb:PE X b tb)(hc:PE X c tc)
  (hm:lastMarks [op,op'] [b,c]=false:=by with_unfolding_all rfl):PT X (.Compare a [op,op'] [b,c] pos) (Ad (pe r r' ta tb tc)):=by
 intro J s Y H Q I h;show isTrue_chain (be (ha J s Y H _ I h) λv s1 #[x,H1,I1,r1,q1]=>test_link (be (hb J s1 Y H1 _ I1 q1) λu s2 #[y,H2,I2,r2,q2]=>
  be (ho J s2 Y H2 x y v u _ I2 r1 r2 q2) λd s3 #[z,H3,I3,r3,k,e,q3]=>?_)) hm
 subst e;cases r3;show IU ?_;cases k with
 | false=>
  obtain⟨k',e',q'⟩:=q3;cases e';exact ite_ff #[H3,I3,q']
 | true=>
  show ite_tt (test_last (be (hc J s3 Y H3 _ I3 q3) λw' s4 #[z',H4,I4,r4,q4]=>be (ho' J s4 Y H4 y z' u w' _ I4 r2 r4 q4) λd' s5 #[z2,H5,I5,r5,k2,e2,q5]=>?_))
  subst e2;cases r5;exact IU #[H5,I5,q5]
abbrev Fu (K:Hl)(x:V)(H:Hp)(k:HA):Prop:=
 match x with
 | .non=>k=false
 | .bl b=>k=b
 | .int i=>k=(i != 0)
 | .str y=>y.length<=sizeLine/\k=((y.length:Hg) != 0)
 | .byt y=>y.size<=sizeLine/\k=((y.size:Hg) != 0)
 | .ref p=>(∃xs,SqL K H p xs/\k = !xs.isEmpty)\/(∃xs,SqT K H p xs/\k = !xs.isEmpty)\/∃U,H p=gV (.dK U)/\k = !U.isEmpty
 | _=>IJ
def pf {κ:Type}{U:G0 (κ×V)}{vs:G0 (κ×G4)}(r:KV U vs):(!vs.isEmpty) = !U.isEmpty:=by
 cases r <;> rfl
def jE {xs:G0 V}{its:G0 G4}(r:Vals xs its):(!its.toArray.isEmpty) = !xs.isEmpty:=by
 cases r <;> simp
def iH:(sizeLine:G9) < 2 ^ 63:=by rw[IE]; decide
def Bl:Fq X (λx H Q=>∃k,Fu X.K x H k/\Q k H):=by
 intro J s Y H x v Q I rx h;obtain⟨k,e,q⟩:=h;have hl:=iH;have hs:sizeLine=16777216:=IE;cases x with
 | non=>
  cases rx;have e':k=false:=e;subst e';exact truthy_none #[H,I,q]
 | bl b=>
  cases rx;have e':k=b:=e;subst e';exact IU #[H,I,q]
 | int i=>
  obtain⟨t,rfl⟩:=rx;have e':k=(i != 0):=e;subst e';exact PySem.P.truthy_int #[H,I,q]
 | str y=>
  obtain⟨t,rfl⟩:=rx;obtain⟨hy,e'⟩ : y.length<=sizeLine/\k=((y.length:Hg) != 0):=e;subst e';exact PySem.P.truthy_str ∅ #[H,I.tok _,q]
 | byt y=>
  obtain⟨t,rfl⟩:=rx;obtain⟨hy,e'⟩ : y.size<=sizeLine/\k=((y.size:Hg) != 0):=e;subst e';exact PySem.W.truthy_bytes ∅ #[H,I.tok _,q]
 | ref p=>
  cases rx;have e':(∃xs,SqL X.K H p xs/\k = !xs.isEmpty)\/(∃xs,SqT X.K H p xs/\k = !xs.isEmpty)\/∃U,H p=gV (.dK U)/\k = !U.isEmpty:=e;rcases e' with⟨xs,hx,e'⟩|⟨xs,hx,e'⟩|⟨U,hx,e'⟩
  ·subst e';obtain⟨its,r,pl,hz⟩:=I.list hx;have hlen:=r.length;exact wpAny_truthy_list pl.isList (by simp only[Hq]; omega) #[H,I.tok _,by rw[jE r]; exact q]
  ·subst e';obtain⟨its,r,pl,hz⟩:=I.tuple hx;have hlen:=r.length;exact truthy_tuple pl (by simp only[Hq]; omega) #[H,I.tok _,by rw[jE r]; exact q]
  ·subst e';obtain⟨hz,hS,vs,r,m⟩ : U.length<=sizeLine/\(p==sysModules)=false/\∃vs,KV U vs/\s.heap.DictOf (lZ X.prog X.w) p vs:=I.hok p _ hx;have hlen:U.length=vs.length:=LV r;exact wpAny_truthy_dict hS m ∅ #[H,I.tok _,by rw[pf r]; exact q]
 | _=>exact(show IJ from e).elim
def pg:OpR X (binaryOp .Add) (λx y H Q=>∃i j,x=.str i/\y=.str j/\i.length+j.length<=sizeLine/\Q (.str (i++j)) H):=by
 intro J s Y H x y v u Q I rx ry h;obtain⟨i,j,rfl,rfl,hz,q⟩:=h;obtain⟨t,rfl⟩:=rx;obtain⟨t',rfl⟩:=ry;exact add_str (λt' tk=>#[.str (i++j),H,I.tok _,#[_,rfl],q]) hz
def kY {x:V}{us:G0 G4}(r:Vals [x] us):∃u,us=[u]/\RelV x u:=by
 cases r with
 | cons r1 r2=>cases r2; exact#[_,rfl,r1]
def kZ:CallR X (.type "int") (λxs H Q=>(∃i,xs=[.int i]/\Q (.int i) H)\/∃k,xs=[.bl k]/\Q (.int (if k then 1 else 0)) H):=by
 intro J s Y H xs us Q I r h;rcases h with⟨i,rfl,q⟩|⟨k,rfl,q⟩
 ·obtain⟨u,rfl,t,rfl⟩:=kY r;exact call_int_int #[.int i,H,I,#[_,rfl],q]
 ·obtain⟨u,rfl,r1⟩:=kY r;cases r1;exact call_int_bool #[.int (if k then 1 else 0),H,I.tok _,#[_,rfl],q]
abbrev Fv (K:Hl)(x:V)(H:Hp)(n:G9):Prop:=
 match x with
 | .str y=>y.length<=sizeLine/\n=y.length
 | .byt y=>y.size<=sizeLine/\n=y.size
 | .ref p=>(∃xs,SqL K H p xs/\n=xs.length)\/∃xs,SqT K H p xs/\n=xs.length
 | _=>IJ
def jF:CallR X (.builtin "len") (λxs H Q=>∃x n,xs=[x]/\Fv X.K x H n/\Q (.int n) H):=by
 intro J s Y H xs us Q I r h;obtain⟨x,n,rfl,e,q⟩:=h;obtain⟨u,rfl,rx⟩:=kY r;have hl:=iH;have hs:sizeLine=16777216:=IE;cases x with
 | str y=>
  obtain⟨t,rfl⟩:=rx;obtain⟨hy,e'⟩ : y.length<=sizeLine/\n=y.length:=e;subst e';exact len_str ∅ #[.int _,H,I.tok _,#[_,rfl],q]
 | byt y=>
  obtain⟨t,rfl⟩:=rx;obtain⟨hy,e'⟩ : y.size<=sizeLine/\n=y.size:=e;subst e';exact PySem.W.len_bytes ∅ #[.int _,H,I.tok _,#[_,rfl],q]
 | ref p=>
  cases rx;have e':(∃xs,SqL X.K H p xs/\n=xs.length)\/∃xs,SqT X.K H p xs/\n=xs.length:=e;rcases e' with⟨xs,hx,e'⟩|⟨xs,hx,e'⟩
  ·subst e';obtain⟨its,r',pl,hz⟩:=I.list hx;have hlen:=r'.length;exact Calls.call_len_list pl.isList (by simp only[Hq]; omega) #[.int xs.length,H,I.tok _,#[_,by simp only[Hq]; rw[hlen]],q]
  ·subst e';obtain⟨its,r',pl,hz⟩:=I.tuple hx;have hlen:=r'.length;exact len_tuple pl (by simp only[Hq]; omega) #[.int xs.length,H,I.tok _,#[_,by simp only[Hq]; rw[hlen]],q]
 | _=>exact(show IJ from e).elim
end
structure Room (k:G9)(A:HY):Prop where
 hd:A.handled=td
 dp:A.depth+3*k+5 < recursionLimit
 un:A.units+16*k+200 < cLine
def Room.deeper {k:G9}{A:HY}(r:Room (k+1) A)(env:Na):Room k (A.deeper env):=
 #[r.hd,by have:=r.dp; show A.depth+1+3*k+5 < _; omega,by have:=r.un; show A.units+3+16*k+200 < _; omega]
def Room.depth {k:G9}{A:HY}(r:Room k A):A.depth < recursionLimit:=by have:=r.dp; omega
abbrev Bm:TA:=λ_ H Q=>Q [] H
abbrev t8 (ta:TE)(tr:TA):TA:=λY H Q=>ta Y H λx H1=>tr Y H1 λxs H2=>Q (x::xs) H2
section
variable{X:Cx}{e:HB}{es:G0 HB}{te:TE}{t:TA}{pos:JE}
def ph:PA X [] Bm:=λ_ _ _ _ H Q I h=>Calls.spliced_nil #[[],H,I,.nil,h]
def gT (ha:PE X e te)(hr:PA X es t)(hs:starEach (e::es) X.env=(false,eval e X.env)::starEach es X.env:=by rfl):PA X (e::es) (t8 te t):=by
 intro pos J s Y H Q I h;rw[hs];change wpAny _ _ (spliced ((false,eval e X.env)::backTo pos (starEach es X.env))) _ _ s;show Calls.spliced_cons (be (ha J s Y H _ I h) λu s1 #[x,H1,I1,r1,q1]=>?_)
 exact be (hr pos J s1 Y H1 _ I1 q1) λus s2 #[xs,H2,I2,r2,q2]=>#[x::xs,H2,I2,.cons r1 r2,q2]
abbrev Fw (t:TA):TE:=λY H Q=>t Y H λxs H1=>xs.length<=sizeLine/\∀p,H1 p=td->Q (.ref p) (bO H1 p (.tup xs))
abbrev Fx (t:TA):TE:=λY H Q=>t Y H λxs H1=>xs.length<=sizeLine/\∀p,H1 p=td->Q (.ref p) (bO H1 p (.lst xs))
def Bn {x1}(h:PA X es t):PE X (.Tuple es x1 pos) (Fw t):=by
 intro J s Y H Q I hq;show wpAny_Tuple_spliced (be (h pos J s Y H _ I hq) λus s1 #[xs,H1,I1,r,z,q]=>#[by rw[<- r.length]; exact z,?_])
 have hf:H1 s1.heap.objs.size=td:=I1.hok.fresh (Hj _);show#[.ref s1.heap.objs.size,bO H1 s1.heap.objs.size (.tup xs),I1.laid (t':=s1.toks) (λb u e=>Ha _ e) (Hj _) ?_,rfl,q _ hf]
 exact#[#[z,NoD.new _ _ _],us,r,#[_,Hv _ rfl,rfl,_,rfl]]
def Bo (h:PA X es t):PE X (.List es pos) (Fx t):=by
 intro J s Y H Q I hq;show Np (be (h pos J s Y H _ I hq) λus s1 #[xs,H1,I1,r,z,q]=>#[by rw[<- r.length]; exact z,?_])
 have hf:H1 s1.heap.objs.size=td:=I1.hok.fresh (Hj _);show#[.ref s1.heap.objs.size,bO H1 s1.heap.objs.size (.lst xs),I1.laid (t':=s1.toks) (λb u e=>Ha _ e) (Hj _) ?_,rfl,q _ hf]
 exact#[z,us,0,r,Hv _ rfl]
end
noncomputable abbrev Sp:=G0 V->Hp->VK->XK->Prop
noncomputable abbrev tJ:=G0 Na->Hp->G5->XK->G4->G5->Prop
structure Env0 (P:HP)(w:Ii)(K:Hl)(mg:Hs->G7 G4)(base:Iv)(A:HY)(outer:G0 Na)(s:G5)(H:Hp):Prop where
 frames:A.frames=gV outer
 mod:Mod K mg base
 bs:∀b o,base.get? b=gV o->s.heap.get? b=gV o/\H b=td
 bsz:base.objs.size<=s.heap.objs.size
 funs:s.heap.FunFrames base outer
 frf:∀b∈pb outer,H b=td
 hok:HOk P w H s.heap
 bare:LP s.gens
abbrev CE (outer:G0 Na)(P:HP)(w:Ii)(H:Hp)(s:G5)(Q:VK)(u:G4)(s':G5):Prop:=
 ∃v H',s'.os=s.os/\LP s'.gens/\Un (pb outer) [] H H' s.heap s'.heap/\HOk P w H' s'.heap/\RelV v u/\Q v H'
abbrev CR (CX:tJ)(outer:G0 Na)(P:HP)(w:Ii)(H:Hp)(s:G5)(Q:VK)(E:XK)(r:N5)(s':G5):Prop:=
 match r with
 | .ok (.ret u)=>CE outer P w H s Q u s'
 | .ok _=>IJ
 | .error e=>CX outer H s E e s'
structure FnOk (P:HP)(w:Ii)(K:Hl)(mg:Hs->G7 G4)(base:Iv)(CX:tJ)(k:G9)(f:Hb)(fd:JB)(ps:G0 Hs)(sp:Sp):Prop where
 len:∀vs H Q E,sp vs H Q E->vs.length=ps.length
 run:∀(A:HY) (outer:G0 Na) (s:G5) (H:Hp) (args:Args) (us:G0 G4) (vs:G0 V) (Q:VK) (E:XK),Room k A->Env0 P w K mg base A outer s H->NH s fd args (ps.zip us)->Vals vs us->sp vs H Q E->
  codeAny (model P w) A (.call (.ref f) args) (CR CX outer P w H s Q E) s
section
variable{X:Cx}{J:G0 (Hb×Je)}{Y:St}{H:Hp}{s s':G5}
def Inv.env0 (I:Inv X J Y H s):Env0 X.prog X.w X.K X.mg X.base X.A X.stack s H:=
 #[I.ok.frames,I.ok.mod,I.bs,HK I.ok.bsz I.sz,I.stack,I.stkFree,I.hok,I.bare]
def Inv.after {Q:VK}{u:G4}(I:Inv X J Y H s)(h:CE X.stack X.prog X.w H s Q u s'):EP X J Y Q u s':=by
 obtain⟨v,H',os,bare,un,hok,r,q⟩:=h;obtain⟨hh,g,d,t,os'⟩:=s';obtain rfl:os'=s.os:=os;exact#[v,H',I.call (h':=hh) (g':=g) (d':=d) (t':=t) (ch:=[]) un hok bare (λb z=>absurd z (by simp)),r,q]
end
abbrev nB (sp:Sp)(dvs:G0 V)(E:XK)(t:TA):TE:=λY H Q=>t Y H λvs H1=>sp (vs++dvs) H1 Q E
abbrev Binds (K:Hl)(fd:JB)(ps:G0 Hs)(ds:G0 G4):Prop:=
 ∀(s:G5) (us:G0 G4),K.In s.heap->(us++ds).length=ps.length->NH s fd #[us,[]] (ps.zip (us++ds))
def Binds.all {K:Hl}{fd:JB}{ps:G0 Hs}(h:∀us:G0 G4,us.length=ps.length->bindArgs fd #[us,[]]=pure (ps.zip us)):Binds K fd ps []:=λs us _ hl=>by
 rw[IQ]at hl ⊢;exact .of_eq (h us hl)
abbrev iI (CX:tJ)(X:Cx)(E:XK):Prop:=∀(J:G0 (Hb×Je)) (Y:St) (H:Hp) (s:G5) (e:G4) (s':G5),Inv X J Y H s->CX X.stack H s E e s'->X.xe e s'
section
variable{X:Cx}{CX:tJ}{k:G9}{f C:Hb}{fd:JB}{ps:G0 Hs}{sp:Sp}{dvs:G0 V}{ds:G0 G4}{E:XK}{x m:Hs}{p pos apos:JE}{e o:HB}{es:G0 HB}{ta:TE}{t:TA}
def l7 {J:G0 (Hb×Je)}{Y:St}{H:Hp}{s:G5}{Q:VK}{us:G0 G4}{vs:G0 V}(F:FnOk X.prog X.w X.K X.mg X.base CX k f fd ps sp)(hr:Room k X.A)(hb:Binds X.K fd ps ds)(hd:Vals dvs ds)(hx:iI CX X E)
  (I:Inv X J Y H s) (r:Vals vs us) (h:sp (vs++dvs) H Q E):wpAny (model X.prog X.w) X.A (call (.ref f) us) (EP X J Y Q) X.xe s:=by
 have r2:Vals (vs++dvs) (us++ds):=r.append hd;have hl:(us++ds).length=ps.length:=by rw[<- r2.length]; exact F.len _ _ _ _ h
 show wpAny_call (Mj (F.run X.A X.stack s H #[us,[]] (us++ds) (vs++dvs) Q E hr I.env0 (hb s us I.kIn hl) r2 h) λr s' hq=>?_)
 cases r with
 | error e=>exact hx J Y H s e s' I hq
 | ok fl=>
  cases fl with
  | ret u=>exact I.after hq
  | next=>exact IJ.elim hq
  | brk=>exact IJ.elim hq
  | cont=>exact IJ.elim hq
def xN (F:FnOk X.prog X.w X.K X.mg X.base CX k f fd ps sp)(hr:Room k X.A)(hg:Gl X x)(hm:X.mg x=gV (.ref f))(hk:Iy X.K (.ref f)=true)(hb:Binds X.K fd ps ds)(hd:Vals dvs ds)(hx:iI CX X E)
  (ha:PA X (e::es) t) (hdb:(x==("__debug__" : Hs))=false:=by decide) (he:starEach (e::es) X.env=(false,eval e X.env)::starEach es X.env:=by rfl) (hpl:(backTo pos (starEach es X.env)).any (·.1)=false:=by rfl) :
  PE X (.Call (.Name x p) (e::es) [] pos) (nB sp dvs E t):=by
 intro J s Y H Q I h;show KR (l5 I hg hm ?_ hdb);show Lw (h₀:=X.base) I.ok.mod.kin hk (be (ha pos J s Y H _ I h) λus s1 #[vs,H1,I1,r,q]=>#[I1.kIn,?_]) he hpl
 exact l7 F hr hb hd hx I1 r q
def t9 (F:FnOk X.prog X.w X.K X.mg X.base CX k f fd ps sp)(hr:Room k X.A)(hg:Gl X x)(hm:X.mg x=gV (.ref f))(hk:Iy X.K (.ref f)=true)(hb:Binds X.K fd ps ds)(hd:Vals dvs ds)(hx:iI CX X E)
  (hdb:(x==("__debug__" : Hs))=false:=by decide):PE X (.Call (.Name x p) [] [] pos) (nB sp dvs E Bm):=by
 intro J s Y H Q I h;show KR (l5 I hg hm ?_ hdb);exact PySem.W.callWith_K0 I.kIn hk (l7 (us:=[]) F hr hb hd hx I .nil h)
end
structure FnScope (N P:G0 Hs)(sc:Kh):Prop where
 kind:sc.kind=.function
 co:sc.isCoroutine=false
 gen:sc.isGenerator=false
 nd:N.Nodup
 pre:N.take P.length=P
 par:∀x∈P,sc.names.lookup x=gV .local\/sc.names.lookup x=gV .cell
 nofree:∀y∈sc.names,y.2≠.free
def lc {kindOf:Hs->G7 IV}{x:Hs}:∀ {binds:G0 (Hs×G4)} {m:Hs->G7 G4},(∀v,(x,v)∉binds)->bindL kindOf binds m x=m x
 | [],_,_=>rfl
 | (n,v)::r,m,h=>by
  unfold bindL;rw[lc λw hw=>h w (HN _ hw)]
  split
  ·have:x≠n:=by rintro rfl; exact h v Ic
   simp[this]
  ·rfl
def lf {kindOf:Hs->G7 IV}{x:Hs}:∀ {binds:G0 (Hs×G4)} {m:Hs->G7 G4},(∀v,(x,v)∉binds)->bindC kindOf binds m x=m x
 | [],_,_=>rfl
 | (n,v)::r,m,h=>by
  unfold bindC;rw[lf λw hw=>h w (HN _ hw)]
  split
  ·rfl
  ·have:x≠n:=by rintro rfl; exact h v Ic
   simp[this]
def lg {kindOf:Hs->G7 IV}{x:Hs}{v:G4}:∀ {P:G0 Hs} {vs:G0 G4} {i:G9} {m:Hs->G7 G4},P.Nodup->P[i]?=gV x->vs[i]?=gV v->kindOf x=gV .local->
  bindL kindOf (P.zip vs) m x=gV v
 | [],_,_,_,_,h,_,_=>by simp at h
 | _::_,[],_,_,_,_,h,_=>by simp at h
 | p::P,w::vs,0,m,nd,h1,h2,hk=>by
  simp at h1 h2; subst h1; subst h2
  change bindL kindOf ((p,w)::P.zip vs) m p=_;unfold bindL;rw[lc λv hv=>(Jj.mp nd).1 (Mt hv).1,HE hk]
  simp
 | p::P,w::vs,i+1,m,nd,h1,h2,hk=>by
  change bindL kindOf ((p,w)::P.zip vs) m x=_;unfold bindL;exact lg (i:=i) (Jj.mp nd).2 (by simpa using h1) (by simpa using h2) hk
def lh {kindOf:Hs->G7 IV}{x:Hs}{v:G4}:∀ {P:G0 Hs} {vs:G0 G4} {i:G9} {m:Hs->G7 G4},P.Nodup->P[i]?=gV x->vs[i]?=gV v->kindOf x≠gV .local->
  bindC kindOf (P.zip vs) m x=gV v
 | [],_,_,_,_,h,_,_=>by simp at h
 | _::_,[],_,_,_,_,h,_=>by simp at h
 | p::P,w::vs,0,m,nd,h1,h2,hk=>by
  simp at h1 h2; subst h1; subst h2
  change bindC kindOf ((p,w)::P.zip vs) m p=_;unfold bindC;rw[lf λv hv=>(Jj.mp nd).1 (Mt hv).1,HX hk]
  simp
 | p::P,w::vs,i+1,m,nd,h1,h2,hk=>by
  change bindC kindOf ((p,w)::P.zip vs) m x=_;unfold bindC;exact lh (i:=i) (Jj.mp nd).2 (by simpa using h1) (by simpa using h2) hk
abbrev fG (N:G0 Hs)(vs:G0 V):St:=vs.map gV++Iq (N.length - vs.length) td
abbrev pi (CX:tJ)(P:HP)(w:Ii)(K:Hl)(mg:Hs->G7 G4)(base:Iv)(N:G0 Hs)(qual:Hs)(scope:Kh)(f:Hb)(cd:G4)(A:HY)(outer:G0 Na)(s:G5)(H:Hp)(E:XK):Cx where
 prog:=P
 w:=w
 K:=K
 mg:=mg
 base:=base
 A:=A.deeper (envOfC qual scope s.heap.objs.size f cd)
 N:=N
 s₀:=s
 H₀:=H
 env:=envOfC qual scope s.heap.objs.size f cd
 outer:=outer
 stack:=envOfC qual scope s.heap.objs.size f cd::outer
 ex:=[]
 calm:=true
 fn:=λ_=>true
 pn:=[]
 xe:=λe s'=>wpAny (model P w) (A.deeper (envOfC qual scope s.heap.objs.size f cd)) (leaving (envOfC qual scope s.heap.objs.size f cd) e) (λ_ s''=>CX outer H s E e s'') (λe' s''=>CX outer H s E e' s'') s'
def nC {sc:Kh}{n:G9}{x:Hs}(h:sc.names.lookup x=gV .cell):∃c,(cellsFrom n sc.names []).lookup x=gV c:=by
 have q:=Mk sc.names n [] (.inl h);exact IA.mp q
def rT {CX:tJ}{P:HP}{w:Ii}{K:Hl}{mg:Hs->G7 G4}{base:Iv}{N ps:G0 Hs}{qual:Hs}{scope:Kh}{f:Hb}{cd:G4}{A:HY}{outer:G0 Na}{s s1:G5}{H:Hp}{E:XK}{us:G0 G4}{vs:G0 V}
  (S:FnScope N ps scope) (hd:A.handled=td) (e0:Env0 P w K mg base A outer s H) (hl:vs.length=ps.length) (r:Vals vs us)
  (x:InCallC s s.heap.objs.size (bindL (envOfC qual scope s.heap.objs.size f cd).kindOf (ps.zip us) λ_=>td) (cellsFrom (s.heap.objs.size+1) scope.names []) (bindC (envOfC qual scope s.heap.objs.size f cd).kindOf (ps.zip us) λ_=>td) s1) :
  Inv (pi CX P w K mg base N qual scope f cd A outer s H E) [] (fG N vs) H s1:=by
 have hpl:ps.length<=N.length:=by have:=congrArg Ps S.pre; rw[HD]at this; omega
 obtain⟨h1,tk,rfl,hk⟩:=x.done;have noA:∀b:Hb,b∉(pi CX P w K mg base N qual scope f cd A outer s H E).ex:=λb z=>absurd (show b∈([]:G0 Hb)from z) (by simp)
 show#[#[e0.mod,S.kind,rfl,rfl,Hj _,λy z c h1 h2=>?_,λy hy=>?_,λy c _ h=>?_,λ_=>hd,Around.frames_deeper e0.frames,.inr #[rfl,rfl],λb z=>absurd z (noA b),e0.bs,e0.bsz,λb _ _=>noA b,λb z=>absurd z (noA b),e0.funs,e0.frf],
  rfl,e0.bare,Un.kept hk,#[_,x.toInCall.ns,λi y v h1 h2 h3=>?_],λy c h=>#[_,x.cell y c h],e0.hok.fresh (Hj _),λy c h=>?_,λp hp=>absurd (show p∈([]:G0 (Hb×Je))from hp) (by simp),e0.hok.kept hk,?_]
 ·exact name_of_addr x.apart (Kb h1) (Kb h2)
 ·have hy:scope.names.lookup y=gV .cell\/scope.names.lookup y=gV .free:=hy;rcases hy with hy|hy
  ·exact nC hy
  ·exact absurd rfl (S.nofree _ (Kb hy))
 ·exact K1 (x.above y c (Kb h))
 ·have hi:i < vs.length:=by
   unfold fG at h2
   by_cases hi:i < vs.length
   ·exact hi
   ·rw[Ik (by simpa using hi)]at h2
    rw[List.getElem?_replicate]at h2;split at h2 <;> cases h2
  have ha:vs[i]?=gV v:=by
   unfold fG at h2;rw[HV (by simpa using hi),Hc]at h2
   cases e:vs[i]? with
   | none=>rw[e]at h2; cases h2
   | some a=>rw[e]at h2; cases h2; rfl
  obtain⟨u,hu,rv⟩:=r.get ha;have hp:ps[i]?=gV y:=by
   rw[<- S.pre,KJ ∅]; exact h1
  have ndP:ps.Nodup:=by rw[<- S.pre]; exact S.nd.sublist (NJ _ _)
  show#[u,rv,?_];rcases S.par y (Hn hp)with k|k
  ·exact .inl #[k,lg ndP hp hu k]
  ·obtain⟨c,e⟩:=nC (n:=s.heap.objs.size+1) k;show .inr #[.inl k,c,e,?_];have q:=x.cell y c e;rw[lh ndP hp hu (by change scope.names.lookup y≠_; rw[k]; decide)]at q
   exact q
 ·exact e0.hok.fresh (K1 (x.above y c (Kb h)))
 ·unfold fG;change _=N.length;rw[G3,G1,MC];omega
def Dp {CX:tJ}{P:HP}{w:Ii}{K:Hl}{mg:Hs->G7 G4}{base:Iv}{k:G9}{f:Hb}{name qual:Hs}{params:Arguments}{body:G0 J8}{scope:Kh}{dV kV doc pm cdv ct oc:G4}{an od:G7 Hb}
  {osl:Io (G7 G4)} {N ps:G0 Hs} {sp:Sp} (lk:K.lookup f=gV #[oc,od,.func (Jz name qual params body scope dV kV doc pm an cdv ct),osl]) (hcd:Ke K cdv qual=true) (S:FnScope N ps scope)
  (len:∀vs H Q E,sp vs H Q E->vs.length=ps.length)
  (hbody:∀(A:HY) (outer:G0 Na) (s:G5) (H:Hp) (vs:G0 V) (Q:VK) (E:XK),Room k (A.deeper (envOfC qual scope s.heap.objs.size f cdv))->sp vs H Q E->
   ∃t,PSs (pi CX P w K mg base N qual scope f cdv A outer s H E) body t/\t { nx:=λ_ H'=>Q .non H',rt:=Q } (fG N vs) H) :
  FnOk P w K mg base CX (k+1) f (Jz name qual params body scope dV kV doc pm an cdv ct) ps sp:=by
 show#[len,λA outer s H args us vs Q E hr e0 hb r hsp=>?_]
 have hl:=len _ _ _ _ hsp;have KX:K.In s.heap:=e0.mod.kin.keeps λb o e=>(e0.bs b o e).1
 have lim:s.heap.NoLimit:=e0.mod.nolimit.keeps λb o e=>(e0.bs b o e).1
 have hkind:∀y∈ps.zip us,scope.names.lookup y.1=gV .local\/(scope.names.lookup y.1=gV .cell/\((cellsFrom (s.heap.objs.size+1) scope.names []).lookup y.1).isSome=true):=λ#[n,v] hy=>by
  rcases S.par n (Mt hy).1 with q|q
  ·exact .inl q
  ·exact .inr #[q,Mk _ _ _ (.inl q)]
 show codeAny_call_function hr.depth (KX _ _ lk) rfl S.co S.gen rfl (PySem.W.codeRec_of KX hcd) (hb _ _ _ _ ?_);show wpAny_newFunctionEnv_cells S.kind hkind λenv he s1 x=>?_
 subst he;show#[lim.keeps x.toInCall.keep,codeAny_func ?_];obtain⟨t,ht,hq⟩:=hbody A outer s H vs Q E (hr.deeper _) hsp;have I:Inv (pi CX P w K mg base N qual scope f cdv A outer s H E) [] (fG N vs) H s1:=rT S hr.hd e0 hl r x;show Jn (ht [] s1 (fG N vs) H _ I hq) (λfl s' hs=>?_) λe s' hs=>hs
 have fin:∀ {Y':St} {H':Hp} {v:V} {u:G4},Inv (pi CX P w K mg base N qual scope f cdv A outer s H E) [] Y' H' s'->RelV v u->Q v H'->CE outer P w H s Q u s':=
  λ{Y' H' v u} tv rv q=>#[v,H',tv.os,tv.bare,tv.base,tv.hok,rv,q]
 cases fl with
 | ret u=>
  obtain⟨v,Y',H',tv,rv,q⟩:=hs;exact fin tv rv q
 | next=>
  obtain⟨Y',H',tv,q⟩:=hs;exact fin (v:=V.non) (u:=Ix) tv rfl q
 | brk=>
  obtain⟨_,_,_,q⟩:=hs;exact IJ.elim q
 | cont=>
  obtain⟨_,_,_,q⟩:=hs;exact IJ.elim q
section
variable{X:Cx}{x:Hs}{p pos:JE}{e:HB}{es:G0 HB}{t:TA}{id T:IN}{r:G0 V->Hp->VK->Prop}
abbrev Gq (r:G0 V->Hp->VK->Prop)(t:TA):TE:=λY H Q=>t Y H λvs H1=>r vs H1 Q
def nD (hc:CallR X (.builtin id) r)(hg:Gl X x)(hm:X.mg x=td)(hv:bootBuiltins x=gV (.builtin id))(ha:PA X (e::es) t)(hn:x≠"__name__":=by decide)(hdb:(x==("__debug__" : Hs))=false:=by decide)
  (he:starEach (e::es) X.env=(false,eval e X.env)::starEach es X.env:=by rfl) (hpl:(backTo pos (starEach es X.env)).any (·.1)=false:=by rfl):PE X (.Call (.Name x p) (e::es) [] pos) (Gq r t):=by
 intro J s Y H Q I h;show KR (iE I hg hm hv ?_ hn hdb);exact N6 (be (ha pos J s Y H _ I h) λus s1 #[vs,H1,I1,r1,q1]=>hc J s1 Y H1 vs us Q I1 r1 q1) he hpl
def rV (hc:CallR X (.type T) r)(hg:Gl X x)(hm:X.mg x=td)(hv:bootBuiltins x=gV (.type T))(ha:PA X (e::es) t)(hn:x≠"__name__":=by decide)(hdb:(x==("__debug__" : Hs))=false:=by decide)
  (he:starEach (e::es) X.env=(false,eval e X.env)::starEach es X.env:=by rfl) (hpl:(backTo pos (starEach es X.env)).any (·.1)=false:=by rfl):PE X (.Call (.Name x p) (e::es) [] pos) (Gq r t):=by
 intro J s Y H Q I h;show KR (iE I hg hm hv ?_ hn hdb);exact JK (be (ha pos J s Y H _ I h) λus s1 #[vs,H1,I1,r1,q1]=>hc J s1 Y H1 vs us Q I1 r1 q1) he hpl
end
end L2
namespace HT
open PySem PyProof.Rows
section
open PySem.SeqAt
open PySem.AutoSeq1 (wpAny_loadPart')
open PySem.MeetsSeq PySem.MeetsSeq2 PySem.MeetsSeq3
end
section
variable{prog:HP}{w:Ii}{A:HY}{E:G4->G5->Prop}{s:G5}
def xO {t b:Hb}{vs ws:G0 G4}{Q:G4->G5->Prop}(ht:ND s.heap t vs.toArray)(hb:ND s.heap b ws.toArray)(hv:vs≠[])
  (h1:ws=[]->Q (.ref t) s) (h2:ws≠[]->Q (.ref s.heap.objs.size) { s with heap:=s.heap.push { cls:=.type "tuple",data:=.seq (vs++ws).toArray } })
  (hsz:vs.length+ws.length<=sizeLine):wpAny (model prog w) A (binaryOp .Add (.ref t) (.ref b)) Q E s:=by
 obtain⟨⟨cls,dd,data,sl⟩,ho,hc,n,hd⟩:=id ht;obtain⟨⟨cls2,dd2,data2,sl2⟩,ho2,hc2,n2,hd2⟩:=id hb;simp only at hc hd hc2 hd2;subst hc hd hc2 hd2;have e:vs.toArray++ws.toArray=(vs++ws).toArray:=by simp
 by_cases hw:ws=[]
 ·exact NK #[_,ho,rfl] #[_,ho2,rfl] L6 Nc K4 KW (KL _ _)
   (tuple_addW1 t b vs.toArray ws.toArray n n2 dd dd2 sl sl2 (by simpa using hv) (by simp[hw])) #[ho,ho2,h1 hw]
 ·show NK #[_,ho,rfl] #[_,ho2,rfl] L6 Nc K4 KW (KL _ _)
   (tuple_addW2 t b vs.toArray ws.toArray n n2 dd dd2 sl sl2 (by simpa using hv) (by simpa using hw) (by rw[Hq,Hq]; exact hsz)) #[ho,ho2,?_]
  rw[e];exact h2 hw
abbrev cm (n d:G9):G7 Hg->G9
 | none=>d
 | some v=>if v < 0 then(v+(n:Hg)).toNat else min v.toNat n
def jG (n d:G9):cm n d td=d:=rfl
def qv (n d k:G9):cm n d (gV (k:Hg))=min k n:=by
 show(if (k:Hg) < 0 then((k:Hg)+(n:Hg)).toNat else min (k:Hg).toNat n)=min k n
 rw[HX ∅,Hr]
def Bp (n d:G9)(hd:d<=n)(o:G7 Hg):cm n d o<=n:=by
 cases o with
 | none=>exact hd
 | some v=>
  show(if v < 0 then(v+(n:Hg)).toNat else min v.toNat n)<=n
  by_cases hv:v < 0
  ·rw[HE hv]; omega
  ·rw[HX hv]; exact Nat.min_le_right _ _
def qw (v:Hg)(n d:G9):(if v < 0 then max (v+(n:Hg)) 0 else min v (n:Hg))=((cm n d (gV v):G9):Hg):=by
 show(if v < 0 then max (v+(n:Hg)) 0 else min v (n:Hg))=(((if v < 0 then(v+(n:Hg)).toNat else min v.toNat n):G9):Hg)
 by_cases hv:v < 0
 ·simp only[HE hv]; omega
 ·simp only[HX hv]; omega
def pj (lo hi:G7 Hg)(n:G9):KC lo hi 1 (n:Hg)=(((cm n 0 lo:G9):Hg),((cm n n hi:G9):Hg)):=by
 have h1:¬ ((1:Hg) < 0):=∅
 unfold KC;simp only[h1,J1];show OE ?_ ?_
 ·cases lo with
  | none=>rfl
  | some v=>exact qw v n 0
 ·cases hi with
  | none=>rfl
  | some v=>exact qw v n n
def pk (i j:G9):JW (i:Hg) (j:Hg) 1=j - i:=by
 unfold JW;have h1:(1:Hg) > 0:=∅
 simp only[h1,Ki,Int.ediv_one];split <;> omega
def jH {v:G4}{o:G7 Hg}{Q:G7 Hg->G5->Prop}(p:Lx v o)(h:Q o s):wpAny (model prog w) A (Os v) Q E s:=by
 cases p with
 | none=>exact OF h
 | int i t=>exact slicePart_int h
def eB {sl:Hb}{vl vu:G4}{lo hi:G7 Hg}{n:G9}{Q:Hg×Hg×G9->G5->Prop}(hs:s.heap.IsSliceOf sl vl vu .none)(pl:Lx vl lo)(pu:Lx vu hi)
  (h:Q (((cm n 0 lo:G9):Hg),1,cm n n hi - cm n 0 lo) s):wpAny (model prog w) A (Ly (.ref sl) (pure (n:Hg))) Q E s:=by
 obtain⟨os,hos,hcs,hds⟩:=id hs;unfold Ly OW;show G2 (G2 (JC hos hds (x:=vl) rfl (G2 (JC hos hds (x:=vu) rfl (G2 (JC hos hds (x:=.none) rfl (Hd ?_)))))));show G2 (OF ?_);change wpAny _ _ (if ((1:Hg)==0)=true then _ else _) _ _ s
 rw[HX #v[]]
 show G2 (jH pl (G2 (jH pu (G2 (Hd ?_)))));change wpAny _ _ (match KC lo hi 1 (n:Hg)with|(lo,hi)=>pure (lo,(1:Hg),JW lo hi 1)) _ _ s
 rw[pj lo hi n];change wpAny _ _ (pure (((cm n 0 lo:G9):Hg),(1:Hg),JW ((cm n 0 lo:G9):Hg) ((cm n n hi:G9):Hg) 1)) _ _ s;rw[pk];exact Hd h
def ub (xs:Io G4)(i k:G9):((Ho k).filterMap λ(m:G9)=>xs[((i:Hg)+(m:Hg)*1).toNat]?).toArray=((xs.toList.drop i).take k).toArray:=by
 have e:(λ(m:G9)=>xs[((i:Hg)+(m:Hg)*1).toNat]?)=λm=>xs[i+m]?:=by
  funext m
  have:((i:Hg)+(m:Hg)*1).toNat=i+m:=∅
  rw[this]
 rw[e];have:=pick_run xs i k;rw[List.filterMap_map]at this;have e2:((λx=>xs[x]?)∘λx=>i+x)=λm=>xs[i+m]?:=rfl
 rw[e2]at this;rw[this]
def gU {t sl:Hb}{items:Io G4}{vl vu:G4}{lo hi:G7 Hg}{Q:G4->G5->Prop}(ht:ND s.heap t items)(hs:s.heap.IsSliceOf sl vl vu .none)(pl:Lx vl lo)(pu:Lx vu hi)
  (hw:¬ (cm items.size 0 lo=0/\cm items.size items.size hi=items.size))
  (h:Q (.ref s.heap.objs.size) { s with heap:=s.heap.push { cls:=.type "tuple",data:=.seq ((items.toList.drop (cm items.size 0 lo)).take (cm items.size items.size hi - cm items.size 0 lo)).toArray } })
  (hsz:items.size<=sizeLine):wpAny (model prog w) A (getItem (.ref t) (.ref sl)) Q E s:=by
 have htake:sizeOk (.seq ((items.toList.drop (cm items.size 0 lo)).take (cm items.size items.size hi - cm items.size 0 lo)).toArray):=by
  show((items.toList.drop (cm items.size 0 lo)).take (cm items.size items.size hi - cm items.size 0 lo)).toArray.size<=sizeLine;rw[Hq,HD,Jp,HZ];omega
 have hj:cm items.size items.size hi<=items.size:=Bp _ _ (Hj _) hi;obtain⟨os,hos,hcs,hds⟩:=id hs;have hTs:s.TypeIs (.ref sl) "slice":=#[os,hos,hcs];unfold getItem
 try with_reducible show Jb ?_
 first|refine G2 (Hd ?_)|skip
 show G2 (NL ht.typeIs #v[] ?_)
 show G2 (IF (name:=IW "__getitem__") ht.typeIs Jw
  (IR Jw ht.typeIs M6 ?_ (Nq _ _)))
 change wpAny _ _ (Ky (.ref t) >>= _) _ _ s;show G2 (O1 ht ?_);show G2 (Lr hTs ?_);rw[HE #v[]]
 show G2 (eB hs pl pu ?_);have hno:¬ ((((cm items.size 0 lo:G9):Hg)==0&&(1:Hg)==1&&(cm items.size items.size hi - cm items.size 0 lo)==items.size)=true):=by
  intro q;rw[G8,G8]at q;have q1:((cm items.size 0 lo:G9):Hg)=0:=eq_of_beq q.1.1;have q2:cm items.size items.size hi - cm items.size 0 lo=items.size:=eq_of_beq q.2;exact hw #[∅,∅]
 change wpAny _ _ (if (((cm items.size 0 lo:G9):Hg)==0&&(1:Hg)==1&&(cm items.size items.size hi - cm items.size 0 lo)==items.size)=true then _ else _) _ _ s
 rw[HX hno,ub]
 first
  | exact G2 (m:=Jh _) (Ip (Hd #[_,rfl,Hd h]) htake)
  | exact G2 (m:=Jh _) (Ip (G2 (Hd (Hd #[_,rfl,Hd h]))) htake)
  | exact G2 (G2 (m:=Jh _) (Ip (Hd (Hd #[_,rfl,Hd h])) htake))
  | exact G2 (G2 (m:=Jh _) (Ip (Hd #[_,rfl,Hd h]) htake))
end
end HT
namespace L2
open PySem PySem.Spec PyProof.Rows
noncomputable abbrev TO:=St->Hp->(G7 Hg->Hp->Prop)->Prop
abbrev PO (X:Cx)(e:G7 HB)(t:TO):Prop:=
 ∀(J:G0 (Hb×Je)) (s:G5) (Y:St) (H:Hp) (Q:G7 Hg->Hp->Prop),Inv X J Y H s->t Y H Q->
  wpAny (model X.prog X.w) X.A (evalPart e X.env) (λu s'=>∃o H',Inv X J Y H' s'/\Lx u o/\Q o H') X.xe s
abbrev xP:TO:=λ_ H Q=>Q td H
abbrev Dq (t:TE):TO:=λY H Q=>t Y H λx H1=>∃i,x=.int i/\Q (gV i) H1
section
variable{X:Cx}{e:HB}{te:TE}{lo hi:G7 HB}{tl th:TO}{pos p2:JE}
def xQ:PO X td xP:=by
 intro J s Y H Q I h;rw[O2];exact Hd #[td,H,I,.none,h]
def xR (h:PE X e te):PO X (gV e) (Dq te):=by
 intro J s Y H Q I hw;rw[evalPart_some];show be (h J s Y H _ I hw) λu s1 #[x,H1,I1,r1,q1]=>?_
 obtain⟨i,rfl,q⟩:=q1;obtain⟨t,rfl⟩:=r1;exact#[gV i,H1,I1,.int i t,q]
abbrev Dr (X:Cx)(r:V->G7 Hg->G7 Hg->Hp->VK->Prop):Prop:=
 ∀(J:G0 (Hb×Je)) (s:G5) (Y:St) (H:Hp) (x:V) (v vl vu:G4) (lo hi:G7 Hg) (sl:Hb) (Q:VK),Inv X J Y H s->RelV x v->s.heap.IsSliceOf sl vl vu .none->Lx vl lo->Lx vu hi->r x lo hi H Q->
  ∃T id,typeLookup (.type T) "__getitem__" = pure (gV (.builtin id))/\s.TypeIs v T/\wpAny (model X.prog X.w) X.A (getItem v (.ref sl)) (EP X J Y Q) X.xe s
abbrev GN (r:V->G7 Hg->G7 Hg->Hp->VK->Prop)(te:TE)(tl th:TO):TE:=λY H Q=>te Y H λx H1=>tl Y H1 λl H2=>th Y H2 λu H3=>r x l u H3 Q
def ud {r:V->G7 Hg->G7 Hg->Hp->VK->Prop}(hr:Dr X r)(he:PE X e te)(hl:PO X lo tl)(hu:PO X hi th):PE X (.Subscript e (.Slice lo hi td p2) pos) (GN r te tl th):=by
 intro J s Y H Q I h;show OG (be (he J s Y H _ I h) λv s1 #[x,H1,I1,r1,q1]=>?_)
 show wpAny_Slice (be (hl J s1 Y H1 _ I1 q1) λvl s2 #[l,H2,I2,pl,q2]=>be (hu J s2 Y H2 _ I2 q2) λvu s3 #[u,H3,I3,pu,q3]=>?_)
 rw[O2];show Hd ?_;have I4:Inv X J Y H3 { s3 with heap:=s3.heap.push { cls:=.type "slice",data:=.fields [vl,vu,.none].toArray } }:=I3.kept (t':=s3.toks) λb ob q=>Ha _ q
 obtain⟨T,id,hT,ht,hg⟩:=hr J { s3 with heap:=s3.heap.push { cls:=.type "slice",data:=.fields [vl,vu,.none].toArray } } Y H3 x v vl vu l u s3.heap.objs.size Q I4 r1 (PQ ..) pl pu q3
 change wpAny (model X.prog X.w) X.A (subscriptTail e (.Slice lo hi td p2) v (.ref s3.heap.objs.size)) (EP X J Y Q) X.xe { s3 with heap:=s3.heap.push { cls:=.type "slice",data:=.fields [vl,vu,.none].toArray } }
 exact tail_any (ops:=[.ref s3.heap.objs.size,v]) ht hT hg (by with_unfolding_all rfl)
abbrev jI (xs:G0 V)(lo hi:G7 Hg):G0 V:=(xs.drop (HT.cm xs.length 0 lo)).take (HT.cm xs.length xs.length hi - HT.cm xs.length 0 lo)
def jc (xs:G0 V)(lo hi:G7 Hg):(jI xs lo hi).length<=xs.length:=by
 unfold jI;rw[HD,Jp];omega
abbrev Fy (K:Hl):V->G7 Hg->G7 Hg->Hp->VK->Prop:=λx lo hi H Q=>∃a xs,x=.ref a/\SqT K H a xs/\
 ¬ (HT.cm xs.length 0 lo=0/\HT.cm xs.length xs.length hi=xs.length)/\∀p,H p=td->Q (.ref p) (bO H p (.tup (jI xs lo hi)))
def Bq:Dr X (Fy X.K):=by
 intro J s Y H x v vl vu lo hi sl Q I rx hs pl pu h;obtain⟨a,xs,rfl,hx,hw,q⟩:=h;cases rx;obtain⟨its,r,ht,hz⟩:=I.tuple hx;have hlen:its.toArray.size=xs.length:=by rw[Hq]; exact r.length.symm
 show#["tuple",_,PyProof.Rows.slot_tuple_getitem.lookup,ht.typeIs,?_];show HT.gU ht hs pl pu (by rw[hlen]; exact hw) ?_ (by rw[hlen]; exact hz)
 rw[hlen];show#[.ref s.heap.objs.size,_,I.laid (t':=s.toks) (o:=.tup (jI xs lo hi)) (λb ob q=>Ha _ q) (Hj _) ?_,rfl,q _ (I.hok.fresh (Hj _))]
 exact#[#[HK (jc xs lo hi) hz,NoD.new _ _ _],_,(r.drop (HT.cm xs.length 0 lo)).take (HT.cm xs.length xs.length hi - HT.cm xs.length 0 lo),M2 _ _]
def Vals.nil_iff {xs:G0 V}{us:G0 G4}(r:Vals xs us):us=[]↔xs=[]:=by
 cases r with
 | nil=>simp
 | cons _ _=>simp
end
abbrev qx (n:G9)(i:Hg):G7 G9:=if 0<=i then(if i < n then gV i.toNat else td)else if -(n:Hg)<=i then gV (i+n).toNat else td
abbrev nE {α:Type}(xs:G0 α)(i:Hg):G7 α:=(qx xs.length i).bind λj=>xs[j]?
def qy {n:G9}{i:Hg}{j:G9}(h:qx n i=gV j):seqIndex? i n=gV j/\j < n/\-(n:Hg)<=i/\i < n:=by
 unfold qx at h
 by_cases h0:0<=i
 ·rw[HE h0]at h
  by_cases h1:i < n
  ·rw[HE h1]at h;have e:i.toNat=j:=IH h;exact#[by rw[Om h0 h1,e],∅,∅,h1]
  ·rw[HX h1]at h; cases h
 ·rw[HX h0]at h
  by_cases h1 : -(n:Hg)<=i
  ·rw[HE h1]at h;have e:(i+n).toNat=j:=IH h;exact#[by rw[NM ∅ h1,e],∅,h1,∅]
  ·rw[HX h1]at h; cases h
def l9 {α:Type}{xs:G0 α}{i:Hg}{v:α}(h:nE xs i=gV v):∃j,seqIndex? i xs.length=gV j/\xs[j]?=gV v/\j < xs.length/\-(xs.length:Hg)<=i/\i < xs.length:=by
 unfold nE at h;cases e:qx xs.length i with
 | none=>rw[e]at h; cases h
 | some j=>
  rw[e]at h;obtain⟨h1,h2,h3,h4⟩:=qy e;exact#[j,h1,h,h2,h3,h4]
def atI_nat {α:Type}{xs:G0 α}{j:G9}{v:α}(h:xs[j]?=gV v):nE xs (j:Hg)=gV v:=by
 have hj:j < xs.length:=(Hm.mp h).1;have e:qx xs.length (j:Hg)=gV j:=by
  unfold qx;rw[HE ∅,HE ∅]; simp
 unfold nE; rw[e]; exact h
abbrev fY (b:HB):Prop:=∀o i,subscripted b false o i=operate [o,i] (getItem o i)
abbrev IxR (X:Cx)(r:R2):Prop:=
 ∀(value slice:HB) (J:G0 (Hb×Je)) (s:G5) (Y:St) (H:Hp) (x y:V) (v u:G4) (Q:VK),Inv X J Y H s->RelV x v->RelV y u->r x y H Q->
  subscripted slice false v u=operate [v,u] (getItem v u)->wpAny (model X.prog X.w) X.A (subscriptTail value slice v u) (EP X J Y Q) X.xe s
abbrev MtR (X:Cx)(id:IN)(r:V->G0 V->Hp->VK->Prop):Prop:=
 ∀(J:G0 (Hb×Je)) (s:G5) (Y:St) (H:Hp) (x:V) (xs:G0 V) (v:G4) (us:G0 G4) (Q:VK),Inv X J Y H s->RelV x v->Vals xs us->r x xs H Q->
  wpAny (model X.prog X.w) X.A (call (.builtin id) (v::us)) (EP X J Y Q) X.xe s
section
variable{X:Cx}{a b:HB}{ta tb:TE}{pos:JE}
def Ds {r:R2}(hr:IxR X r)(ha:PE X a ta)(hb:PE X b tb)(hs:fY b):PE X (.Subscript a b pos) (EW r ta tb):=by
 intro J s Y H Q I h;exact OG (Bc ha hb I h λv u s2 x y H2 I2 rx ry q=>hr a b J s2 Y H2 x y v u Q I2 rx ry q (hs _ _))
abbrev Fz (K:Hl):R2:=λx y H Q=>∃p xs i v,x=.ref p/\y=.int i/\SqL K H p xs/\nE xs i=gV v/\Q v H
abbrev FB (K:Hl):R2:=λx y H Q=>∃p xs i v,x=.ref p/\y=.int i/\SqT K H p xs/\nE xs i=gV v/\Q v H
abbrev FC:R2:=λx y H Q=>∃z i c,x=.str z/\y=.int i/\z.length<=sizeLine/\nE z.cps.toList i=gV c/\Q (.str #[[c].toArray]) H
def xS:IxR X (Fz X.K):=by
 intro value slice J s Y H x y v u Q I rx ry h hs;obtain⟨p,xs,i,z,rfl,rfl,hq,he,q⟩:=h;cases rx;obtain⟨t,rfl⟩:=ry;obtain⟨its,r,pl,hz⟩:=I.list hq;obtain⟨j,h1,h2,h3,h4,h5⟩:=l9 he;obtain⟨w,ew,rw'⟩:=r.get h2;have hl:=r.length;have hn:=iH;have fin:EP X J Y Q w s:=#[z,H,I,rw',q]
 by_cases h0:0<=i
 ·have hj:i.toNat=j:=by
   rw[Om h0 h5]at h1;exact IH h1
  exact OH pl.isList h0 ∅ (by rw[hj]; simpa using ew) fin hs
 ·have hj:(i+(its.toArray.size:Hg)).toNat=j:=by
   rw[NM ∅ h4]at h1
   rw[Hq,<- hl];exact IH h1
  exact K5 (x:=w) pl.isList.typeIs slot_list_getitem.lookup
   (wpAny_getItem_list_neg (Q:=λr s'=>r=w/\EP X J Y Q r s') pl.isList ∅ (by rw[Hq] <;> omega) ∅ (by rw[hj]; simpa using ew) #[rfl,fin]) hs
def Br:IxR X (FB X.K):=by
 intro value slice J s Y H x y v u Q I rx ry h hs;obtain⟨p,xs,i,z,rfl,rfl,hq,he,q⟩:=h;cases rx;obtain⟨t,rfl⟩:=ry;obtain⟨its,r,pl,hz⟩:=I.tuple hq;obtain⟨j,h1,h2,h3,h4,h5⟩:=l9 he;obtain⟨w,ew,rw'⟩:=r.get h2;have hl:=r.length;have hn:=iH;have fin:EP X J Y Q w s:=#[z,H,I,rw',q];exact K5 (x:=w) pl.typeIs slot_tuple_getitem.lookup
  (getItem_tuple (j:=j) (Q:=λr s'=>r=w/\EP X J Y Q r s') pl ∅ ∅ (by rw[Hq,<- hl]; exact h1) (by simpa using ew) #[rfl,fin]) hs
def Bs:IxR X FC:=by
 intro value slice J s Y H x y v u Q I rx ry h hs;obtain⟨z,i,c,rfl,rfl,hz,he,q⟩:=h;obtain⟨t,rfl⟩:=rx;obtain⟨t',rfl⟩:=ry;obtain⟨j,h1,h2,h3,h4,h5⟩:=l9 he;have hl:z.cps.toList.length=z.length:=by simp[Str.length]
 rw[hl]at h1 h4 h5;have hn:=iH;exact tail_any (typeIs_str s z t) slot_str_getitem.lookup (getItem_str (c:=c) (by
  have e1:decide (i < -(2 ^ 63:Hg))=false:=HQ ∅
  have e2:decide (i>=2 ^ 63)=false:=HQ ∅
  rw[e1,e2,Nd]) (by rw[h1]; simpa using h2) #[.str #[[c].toArray],H,I.tok _,#[_,rfl],q]) hs
def po (its:G0 G4)(n j:G9)(u:G4):IY (·.setIfInBounds j u) { cls:=.type "list",data:=.seq its.toArray n }={ cls:=.type "list",data:=.seq (its.set j u).toArray n }:=by
 simp[IY]
def Inv.lst {J:G0 (Hb×Je)}{Y:St}{H:Hp}{s:G5}{p:Hb}{xs:G0 V}(I:Inv X J Y H s)(h:H p=gV (.lst xs)) :
  ∃(its:G0 G4) (n:G9),Vals xs its/\s.heap.get? p=gV { cls:=.type "list",data:=.seq its.toArray n }/\xs.length<=sizeLine:=by
 obtain⟨z,its,n,r,e⟩:=I.hok p _ h;exact#[its,n,r,e,z]
def Inv.lstUpd {J:G0 (Hb×Je)}{Y:St}{H:Hp}{s:G5}{p:Hb}{xs ys:G0 V}{its its':G0 G4}{n n':G9}{f:Je->Je}(I:Inv X J Y H s)(h:H p=gV (.lst xs))
  (ho:s.heap.get? p=gV { cls:=.type "list",data:=.seq its.toArray n }) (hf:f { cls:=.type "list",data:=.seq its.toArray n }={ cls:=.type "list",data:=.seq its'.toArray n' }) (r:Vals ys its') (hz:ys.length<=sizeLine) (t:G9) :
  Inv X J Y (bO H p (.lst ys)) { s with heap:=s.heap.update p f,toks:=t }:=by
 have e:(s.heap.update p f).get? p=gV { cls:=.type "list",data:=.seq its'.toArray n' }:=by
  rw[JT f ho (by rw[hf] <;> rfl),hf]
 show I.write (x:=p) (e:=p) (by rw[h]; trivial) (.inl rfl) (λb u hb q=>(Iz _ _ (Ne.symm hb)).trans q) #[_,e] ?_
 exact#[hz,its',n',r,e]
abbrev Dt:V->V->V->Hp->(Hp->Prop)->Prop:=λo i v H Q=>∃p xs k j,o=.ref p/\i=.int k/\H p=gV (.lst xs)/\qx xs.length k=gV j/\Q (bO H p (.lst (xs.set j v)))
def ue:AX X Dt:=by
 intro J s Y H o i v ov iv u Q I ro ri rv h;obtain⟨p,xs,k,j,rfl,rfl,hp,hj,q⟩:=h;cases ro;obtain⟨t,rfl⟩:=ri;obtain⟨its,n,r,ho,hz⟩:=I.lst hp;obtain⟨h1,h2,h3,h4⟩:=qy hj;have hl:=r.length;have hn:=iH;have I':Inv X J Y (bO H p (.lst (xs.set j v))) { s with heap:=s.heap.update p (IY (·.setIfInBounds j u)) }:=
  I.lstUpd hp ho (po its n j u) (r.set rv j) (by rw[Ot]; exact hz) s.toks
 by_cases h0:0<=k
 ·have hk:k.toNat=j:=by
   rw[Om h0 h4]at h1;exact IH h1
  exact PySem.W.ki_setAt ho h0 ∅ (by rw[Hq,<- hl]; exact h4) (by rw[hk]; exact#[_,I',q])
 ·have hk:(k+(its.toArray.size:Hg)).toNat=j:=by
   rw[NM ∅ h3]at h1
   rw[Hq,<- hl];exact IH h1
  exact PySem.W.ki_setBack ho ∅ (by rw[Hq,<- hl]; exact h3) ∅ (by rw[hk]; exact#[_,I',q])
def ma (lo hi:G7 Hg)(n:G9):(sliceBounds lo hi td n).1=((HT.cm n 0 lo:G9):Hg)/\(sliceBounds lo hi td n).2.1=((HT.cm n n hi:G9):Hg)/\(sliceBounds lo hi td n).2.2=1:=by
 show#[?_,?_,rfl]
 ·cases lo with
  | none=>simp[sliceBounds,HT.cm]
  | some i=>
   simp only[sliceBounds,HT.cm,N7,show(1:Hg) > 0 by decide,Ki]
   by_cases h:i < 0
   ·simp only[h,Ki] <;> omega
   ·simp only[h,J1] <;> omega
 ·cases hi with
  | none=>simp[sliceBounds,HT.cm]
  | some i=>
   simp only[sliceBounds,HT.cm,N7,show(1:Hg) > 0 by decide,Ki]
   by_cases h:i < 0
   ·simp only[h,Ki] <;> omega
   ·simp only[h,J1] <;> omega
def kN (its:G0 G4)(lo hi:G7 Hg):slicePick its.toArray lo hi td=((its.drop (HT.cm its.length 0 lo)).take (HT.cm its.length its.length hi - HT.cm its.length 0 lo)).toArray:=by
 obtain⟨h1,h2,h3⟩:=ma lo hi its.toArray.size;unfold slicePick;rw[h1,h2,h3];simp only[sliceRange_one,pick_run,Hq] <;> rfl
abbrev FD (K:Hl):V->G7 Hg->G7 Hg->Hp->VK->Prop:=λx lo hi H Q=>∃a xs,x=.ref a/\SqL K H a xs/\∀p,H p=td->Q (.ref p) (bO H p (.lst (jI xs lo hi)))
def xT:Dr X (FD X.K):=by
 intro J s Y H x v vl vu lo hi sl Q I rx hs pl pu h;obtain⟨a,xs,rfl,hx,q⟩:=h;cases rx;obtain⟨its,r,ht,hz⟩:=I.list hx;have hlen:=r.length;show#["list",_,slot_list_getitem.lookup,ht.isList.typeIs,?_];show wpAny_getItem_list_slice ht.isList hs pl pu .none (by simp) ?_ (by rw[Hq] <;> omega)
 rw[kN,<- hlen];show#[.ref s.heap.objs.size,_,I.laid (t':=s.toks) (o:=.lst (jI xs lo hi)) (λb ob q=>Ha _ q) (Hj _) ?_,rfl,q _ (I.hok.fresh (Hj _))]
 exact#[HK (jc xs lo hi) hz,_,0,(r.drop (HT.cm xs.length 0 lo)).take (HT.cm xs.length xs.length hi - HT.cm xs.length 0 lo),Hv _ rfl]
abbrev gB:V->HA
 | .non=>true
 | .bl _=>true
 | .int _=>true
 | .str _=>true
 | _=>false
abbrev xU:V->V->HA
 | .non,.non=>true
 | .bl a,.bl b=>a==b
 | .bl a,.int b=>(if a then 1 else 0)==b
 | .int a,.bl b=>a==(if b then 1 else 0)
 | .int a,.int b=>a==b
 | .str a,.str b=>a==b
 | _,_=>false
def Bt {A:HY}{s:G5}{y x:V}{u v:G4}(ry:RelV y u)(rx:RelV x v)(fy:gB y=true)(fx:gB x=true):Lf A s u v (xU y x):=by
 cases y with
 | non=>
  cases ry;cases x with
  | non=>cases rx; exact P9 _
  | bl b=>cases rx; exact Pu b
  | int b=>obtain⟨t,rfl⟩:=rx; exact PF b t
  | str b=>obtain⟨t,rfl⟩:=rx; exact PH b t
  | _=>exact absurd (show false=true from fx) Ht
 | bl a=>
  cases ry;cases x with
  | non=>cases rx; exact Pw a
  | bl b=>cases rx; exact Px a b
  | int b=>obtain⟨t,rfl⟩:=rx; exact PJ a b t
  | str b=>obtain⟨t,rfl⟩:=rx; exact PK a b t
  | _=>exact absurd (show false=true from fx) Ht
 | int a=>
  obtain⟨t',rfl⟩:=ry;cases x with
  | non=>cases rx; exact PL a t'
  | bl b=>cases rx; exact PM a t' b
  | int b=>obtain⟨t,rfl⟩:=rx; exact PR a t' b t
  | str b=>obtain⟨t,rfl⟩:=rx; exact Nj a t' b t
  | _=>exact absurd (show false=true from fx) Ht
 | str a=>
  obtain⟨t',rfl⟩:=ry;cases x with
  | non=>cases rx; exact PN a t'
  | bl b=>cases rx; exact PP a t' b
  | int b=>obtain⟨t,rfl⟩:=rx; exact Nk a t' b t
  | str b=>obtain⟨t,rfl⟩:=rx; exact PU a t' b t
  | _=>exact absurd (show false=true from fx) Ht
 | _=>exact absurd (show false=true from fy) Ht
abbrev nF (x:V)(u:G4):HA:=match u with
 | .none=>xU .non x
 | .bool b=>xU (.bl b) x
 | .int i _=>xU (.int i) x
 | .str z _=>xU (.str z) x
 | _=>false
def pq {x y:V}{u:G4}(r:RelV y u)(f:gB y=true):nF x u=xU y x:=by
 cases y with
 | non=>cases r; rfl
 | bl b=>cases r; rfl
 | int i=>obtain⟨t,rfl⟩:=r; rfl
 | str z=>obtain⟨t,rfl⟩:=r; rfl
 | _=>exact absurd (show false=true from f) Ht
def gW {x:V}:∀ {xs:G0 V} {us:G0 G4},Vals xs us->xs.all gB=true->us.any (nF x)=xs.any λy=>xU y x
 | _,_,.nil,_=>rfl
 | y::xs,u::us,.cons r t,f=>by
  rw[HW,G8]at f;rw[JO,JO,pq r f.1,gW t f.2]
def eC {A:HY}{s:G5}{x:V}{v:G4}(rx:RelV x v)(fx:gB x=true):∀ {xs:G0 V} {us:G0 G4},Vals xs us->xs.all gB=true->∀u∈us,Lf A s u v (nF x u)
 | _,_,.nil,_=>λu hu=>by cases hu
 | y::xs,u::us,.cons r t,f=>λu' hu=>by
  rw[HW,G8]at f;rcases HF.mp hu with rfl|hu
  ·rw[pq r f.1]; exact Bt r rx f.1 fx
  ·exact eC rx fx t f.2 u' hu
abbrev EY (x:V)(xs:G0 V):HA:=xs.any λy=>xU y x
abbrev FH (K:Hl)(neg:HA):R2:=λx y H Q=>∃p xs,y=.ref p/\(SqL K H p xs\/SqT K H p xs)/\gB x=true/\xs.all gB=true/\Q (.bl (if neg then !EY x xs else EY x xs)) H
def rW:OpR X (compareOp .In) (FH X.K false):=by
 intro J s Y H x y v u Q I rx ry h;obtain⟨p,xs,rfl,hq,fx,fs,q⟩:=h;cases ry;rcases hq with hq|hq
 ·obtain⟨its,r,pl,hz⟩:=I.list hq;show Ou (nF x) pl.isList (λw hw=>eC rx fx r fs w (by simpa using hw)) #[.bl _,H,I,rfl,?_]
  rw[show its.toArray.any (nF x)=its.any (nF x) by simp,gW r fs]
  exact q
 ·obtain⟨its,r,pl,hz⟩:=I.tuple hq;show N8 (nF x) pl (λw hw=>eC rx fx r fs w (by simpa using hw)) #[.bl _,H,I,rfl,?_]
  rw[show its.toArray.any (nF x)=its.any (nF x) by simp,gW r fs]
  exact q
def md:OpR X (compareOp .NotIn) (FH X.K true):=by
 intro J s Y H x y v u Q I rx ry h;obtain⟨p,xs,rfl,hq,fx,fs,q⟩:=h;cases ry;rcases hq with hq|hq
 ·obtain⟨its,r,pl,hz⟩:=I.list hq;show Nr (nF x) pl.isList (λw hw=>eC rx fx r fs w (by simpa using hw)) #[.bl _,H,I,rfl,?_]
  rw[show its.toArray.any (nF x)=its.any (nF x) by simp,gW r fs]
  exact q
 ·obtain⟨its,r,pl,hz⟩:=I.tuple hq;show SeqAt.notIn_tupleAt (nF x) pl (λw hw=>eC rx fx r fs w (by simpa using hw)) #[.bl _,H,I,rfl,?_]
  rw[show its.toArray.any (nF x)=its.any (nF x) by simp,gW r fs]
  exact q
def mf:CallR X (.type "list") (λxs H Q=>∃p ys,xs=[.ref p]/\(SqL X.K H p ys\/SqT X.K H p ys)/\∀l,H l=td->Q (.ref l) (bO H l (.lst ys))):=by
 intro J s Y H xs us Q I r h;obtain⟨p,ys,rfl,hq,q⟩:=h;obtain⟨u,rfl,rx⟩:=kY r;cases rx;have fin:∀(its:G0 G4),Vals ys its->ys.length<=sizeLine->∀(h':Iv) (c':G9),(∀b o',s.heap.get? b=gV o'->h'.get? b=gV o')->
   h'.get? s.heap.objs.size=gV { cls:=.type "list",dict:=td,data:=.seq its.toArray c',slots:=#[] }->EP X J Y Q (.ref s.heap.objs.size) { s with heap:=h' }:=λits r' hz h' c' kp e=>
  #[.ref s.heap.objs.size,_,I.laid (t':=s.toks) kp (Hj _) (show ObjOk X.prog X.w _ h' _ (.lst ys)from#[hz,its,c',r',e]),rfl,q _ (I.hok.fresh (Hj _))]
 rcases hq with hq|hq
 ·obtain⟨its,r',pl,hz⟩:=I.list hq;have hlen:=r'.length;obtain⟨o,ho,hc,n,hd⟩:=pl.isList;exact O3 p (.inl rfl) ho hc hd (λh' c' kp e=>fin its r' hz h' c' kp e) (by simp only[Hq] <;> omega)
 ·obtain⟨its,r',pl,hz⟩:=I.tuple hq;have hlen:=r'.length;obtain⟨o,ho,hc,n,hd⟩:=pl;exact O3 p (.inr rfl) ho hc hd (λh' c' kp e=>fin its r' hz h' c' kp e) (by simp only[Hq] <;> omega)
def gC:CallR X (.type "tuple") (λxs H Q=>∃p ys,xs=[.ref p]/\((SqL X.K H p ys/\∀l,H l=td->Q (.ref l) (bO H l (.tup ys)))\/(SqT X.K H p ys/\Q (.ref p) H))):=by
 intro J s Y H xs us Q I r h;obtain⟨p,ys,rfl,h⟩:=h;obtain⟨u,rfl,rx⟩:=kY r;cases rx;rcases h with⟨hq,q⟩|⟨hq,q⟩
 ·obtain⟨its,r',pl,hz⟩:=I.list hq;have hlen:=r'.length;show call_tuple_list pl.isList (λh' kp=>?_) (by simp only[Hq] <;> omega)
  have I1:Inv X J Y H { s with heap:=h' }:=I.kept (t':=s.toks) kp
  have I2:Inv X J Y (bO H h'.objs.size (.tup ys)) { s with heap:=h'.push { cls:=.type "tuple",data:=.seq its.toArray } }:=
   I1.laid (t':=s.toks) (λb o e=>Ha _ e) (Hj _) (show ObjOk X.prog X.w _ _ _ (.tup ys)from#[#[hz,NoD.new _ _ _],its,r',M2 _ _])
  exact#[.ref h'.objs.size,_,I2,rfl,q _ (I1.hok.fresh (Hj _))]
 ·obtain⟨its,r',pl,hz⟩:=I.tuple hq;exact call_tuple_same pl #[.ref p,H,I,rfl,q]
abbrev FJ (K:Hl)(T:IN)(x:V)(H:Hp):Prop:=match x with
 | .str _=>T = "str"
 | .int _=>T = "int"
 | .ref p=>(T = "list"/\∃xs,SqL K H p xs)\/(T = "tuple"/\∃o,K.lookup p=gV o/\o.cls=.type "tuple"/\o.dict=td)\/
   (T = "dict"/\((∃U,H p=gV (.dK U))\/∃U,H p=gV (.dT U)))\/(T = "set"/\∃S n,H p=gV (.set S n))
 | _=>IJ
def ug {J:G0 (Hb×Je)}{Y:St}{H:Hp}{s:G5}{T:IN}{x:V}{v:G4}(I:Inv X J Y H s)(r:RelV x v)(ty:FJ X.K T x H) :
  s.TypeIs v T/\∀a,v=.ref a->∃ob,s.heap.get? a=gV ob/\ob.dict=td:=by
 cases x with
 | str z=>
  obtain⟨t,rfl⟩:=r;cases(show T = "str" from ty)
  exact#[typeIs_str s z t,λ_ e=>nomatch e]
 | int i=>
  obtain⟨t,rfl⟩:=r;cases(show T = "int" from ty)
  exact#[OI s i t,λ_ e=>nomatch e]
 | ref p=>
  cases r;rcases ty with⟨rfl,xs,hq⟩|⟨rfl,o,hk,hc,hd⟩|⟨rfl,hk⟩|⟨rfl,S,n,hk⟩
  ·obtain⟨its,_,pl,_⟩:=I.list hq;show#[pl.isList.typeIs,λa e=>?_]
   cases e;obtain⟨o,n,e,c,hd,_⟩:=pl;exact#[o,e,hd]
  ·show#[#[o,I.kIn p o hk,hc],λa e=>?_]
   cases e;exact#[o,I.kIn _ o hk,hd]
  ·have z:∃o,s.heap.get? p=gV o/\o.ExactDict:=by
    rcases hk with⟨U,hk⟩|⟨U,hk⟩
    ·obtain⟨_,_,_,_,o,_,_,e,ex,_⟩:=I.hok p _ hk;exact#[o,e,ex]
    ·obtain⟨_,_,_,_,o,_,_,e,ex,_⟩:=I.hok p _ hk;exact#[o,e,ex]
   obtain⟨o,e,ex⟩:=z;show#[#[o,e,ex.1],λa e2=>?_]
   cases e2;exact#[o,e,ex.2.1]
  ·obtain⟨o,_,_,_,e,ex,_⟩:=I.hok p _ hk;show#[#[o,e,ex.1],λa e2=>?_]
   cases e2;exact#[o,e,ex.2.1]
 | _=>exact IJ.elim ty
variable{o e:HB}{es:G0 HB}{to:TE}{t:TA}{name:Hs}{apos cpos:JE}{T id:IN}{r:V->G0 V->Hp->VK->Prop}
end
abbrev FK (X:Cx)(id:IN)(r:V->G0 V->Hp->VK->Prop):Prop:=
 ∀(J:G0 (Hb×Je)) (s:G5) (Y:St) (H:Hp) (x:V) (xs:G0 V) (v:G4) (us:G0 G4) (Q:VK),Inv X J Y H s->RelV x v->Vals xs us->r x xs H Q->
  wpAny (model X.prog X.w) X.A (call (.builtin id) (v::us)) (EP X J Y Q) X.xe s
def Vals.one:∀ {x:V} {us:G0 G4},Vals [x] us->∃u,us=[u]/\RelV x u
 | _,_,.cons r .nil=>#[_,rfl,r]
def Vals.eraseIdx:∀ {xs:G0 V} {us:G0 G4} (i:G9),Vals xs us->Vals (xs.eraseIdx i) (us.eraseIdx i)
 | _,_,_,.nil=>.nil
 | _,_,0,.cons _ t=>t
 | _,_,i+1,.cons r t=>.cons r (Vals.eraseIdx i t)
def Vals.rep {xs:G0 V}{us:G0 G4}(h:Vals xs us):∀k:G9,Vals (Iq k xs).flatten (Iq k us).flatten
 | 0=>.nil
 | k+1=>by
  rw[Ju,Ju,J2,J2];exact Vals.append h (Vals.rep h k)
def ll {α:Type}:∀(l:G0 α) (i:G9),(l.eraseIdx i).length<=l.length
 | [],_=>Hj _
 | _::_,0=>J3 _
 | _::r,i+1=>N9 (ll r i)
def ln (its:G0 G4):∀(k:G9) (acc:G0 G4),
  OJ (λx1 x2=>x1++x2) acc.toArray (Iq k its.toArray)=(acc++(Iq k its).flatten).toArray
 | 0,acc=>by simp
 | k+1,acc=>by
  have e:acc.toArray++its.toArray=(acc++its).toArray:=by simp
  have e2:(acc++its)++(Iq k its).flatten=acc++(Iq (k+1) its).flatten:=by
   rw[Ju,J2,K6]
  rw[<- e2,<- ln its k (acc++its),<- e,Ju,List.foldl_cons]
section
variable{X:Cx}{J:G0 (Hb×Je)}{Y:St}{H:Hp}{s:G5}{l b:Hb}{xs ys zs:G0 V}
def Inv.lset {its its':G0 G4}{n:G9}{f:Io G4->Io G4}{t':G9}(I:Inv X J Y H s)(hH:H l=gV (.lst xs))
  (e:s.heap.get? l=gV { cls:=.type "list",data:=.seq its.toArray n }) (hf:f its.toArray=its'.toArray) (hv:Vals ys its') (hz:ys.length<=sizeLine) :
  Inv X J Y (bO H l (.lst ys)) { s with heap:=s.heap.update l (IY f),toks:=t' }:=by
 have q:=Oa e f;rw[hf]at q;show I.write (x:=l) (e:=l) (by rw[hH]; exact trivial) (.inl rfl) (λb' u hb hu=>(Iz s.heap (IY f) (Ne.symm hb)).trans hu) #[_,q] ?_
 exact#[hz,its',_,hv,q]
def Inv.lnew {its:G0 G4}{t':G9}(I:Inv X J Y H s)(hv:Vals ys its)(hz:ys.length<=sizeLine) :
  Inv X J Y (bO H s.heap.objs.size (.lst ys)) { s with heap:=s.heap.push { cls:=.type "list",data:=.seq its.toArray },toks:=t' }:=
 I.laid (λ_ _ q=>Ha _ q) (Hj _) #[hz,its,0,hv,Hv _ rfl]
def Inv.fresh (I:Inv X J Y H s):H s.heap.objs.size=td:=I.hok.fresh (Hj _)
def Inv.lstM (I:Inv X J Y H s)(hH:H l=gV (.lst xs)):xs.length<=sizeLine/\∃(its:G0 G4) (n:G9),Vals xs its/\xs.length=its.length/\s.heap.get? l=gV { cls:=.type "list",data:=.seq its.toArray n }:=by
 obtain⟨z,its,n,r,e⟩:=I.hok l _ hH;exact#[z,its,n,r,r.length,e]
def nG {n:G9}(h:n<=sizeLine):J6 n=false:=by
 unfold J6;exact HQ ∅
end
section
variable{X:Cx}
abbrev xV:V->G0 V->Hp->VK->Prop:=λx vs H Q=>∃l xs y,x=.ref l/\vs=[y]/\H l=gV (.lst xs)/\xs.length < sizeLine/\Q .non (bO H l (.lst (xs++[y])))
def rX:FK X "list.append" xV:=by
 intro J s Y H x vs v us Q I rx rv h;obtain⟨l,xs,y,rfl,rfl,hH,hz,q⟩:=h;cases rx;obtain⟨u,rfl,ru⟩:=rv.one;obtain⟨z,its,n,r,hl,e⟩:=I.lstM hH;show Lg F.slot_list_append #[_,e,rfl] F.entry_list_append (F.args_list_append_2 _ _) (NN l its.toArray n u (by rw[Hq]; omega)) #[e,?_]
 show#[.non,_,I.lset (its':=its++[u]) hH e (by simp) (r.append #v[ru]) ?_,rfl,q]
 rw[G3,HS];omega
abbrev xW:V->G0 V->Hp->VK->Prop:=λx vs H Q=>∃l b xs zs,x=.ref l/\vs=[.ref b]/\H l=gV (.lst xs)/\H b=gV (.lst zs)/\xs.length+zs.length<=sizeLine/\Q .non (bO H l (.lst (xs++zs)))
def rY:FK X "list.extend" xW:=by
 intro J s Y H x vs v us Q I rx rv h;obtain⟨l,b,xs,zs,rfl,rfl,hH,hB,hz,q⟩:=h;cases rx;obtain⟨u,rfl,ru⟩:=rv.one;cases ru;obtain⟨z,its,n,r,hl,e⟩:=I.lstM hH;obtain⟨z2,its2,n2,r2,hl2,e2⟩:=I.lstM hB;have hsz:its.toArray.size+its2.toArray.size<=sizeLine:=by rw[Hq,Hq]; omega
 have hlong:¬ (!its.toArray.isEmpty&&J6 (its.toArray.size+its2.toArray.size))=true:=by
  rw[nG hsz,Bool.and_false];exact Ht
 show Lg F.slot_list_extend #[_,e,rfl] F.entry_list_extend (F.args_list_extend_2 _ _)
  (NO l its.toArray n b its2.toArray n2 hlong (by rw[Hq]; omega) ∅) #[e,e2,?_]
 show#[.non,_,I.lset (its':=its++its2) hH e (by simp) (r.append r2) ?_,rfl,q]
 rw[G3];omega
abbrev Bu:V->G0 V->Hp->VK->Prop:=λx vs H Q=>∃l xs i k y,x=.ref l/\vs=[.int i]/\H l=gV (.lst xs)/\-(2 ^ 63)<=i/\i < 2 ^ 63/\seqIndex? i xs.length=gV k/\xs[k]?=gV y/\Q y (bO H l (.lst (xs.eraseIdx k)))
def uh:FK X "list.pop" Bu:=by
 intro J s Y H x vs v us Q I rx rv h;obtain⟨l,xs,i,k,y,rfl,rfl,hH,h1,h2,hk,hy,q⟩:=h;cases rx;obtain⟨u,rfl,ru⟩:=rv.one;obtain⟨t,rfl⟩:=ru;obtain⟨z,its,n,r,hl,e⟩:=I.lstM hH;obtain⟨w,hw,rw'⟩:=r.get hy;show Lg F.slot_list_pop #[_,e,rfl] F.entry_list_pop (F.args_list_pop_2 _ _)
  (Py l its.toArray n i t k w (OL h1 h2) (by rw[Hq,<- hl]; exact hk) (by rw[<- Jf]; exact hw) (by rw[Hq]; omega)) #[e,?_]
 show#[y,_,I.lset (its':=its.eraseIdx k) hH e ?_ (r.eraseIdx k) ?_,rw',q]
 ·change its.toArray.eraseIdxIfInBounds k=(its.eraseIdx k).toArray;rw[List.eraseIdxIfInBounds_toArray]
 ·have:=ll xs k;omega
abbrev FL:R2:=λx y H Q=>∃l b xs zs,x=.ref l/\y=.ref b/\H l=gV (.lst xs)/\H b=gV (.lst zs)/\xs.length+zs.length<=sizeLine/\∀p,H p=td->Q (.ref p) (bO H p (.lst (xs++zs)))
def Bv:OpR X (binaryOp .Add) FL:=by
 intro J s Y H x y v u Q I rx ry h;obtain⟨l,b,xs,zs,rfl,rfl,hH,hB,hz,q⟩:=h;cases rx;cases ry;obtain⟨z,its,n,r,hl,e⟩:=I.lstM hH;obtain⟨z2,its2,n2,r2,hl2,e2⟩:=I.lstM hB;show PySem.P.add_list e e2 ?_ (by rw[Hq,Hq]; omega)
 have ea:its.toArray++its2.toArray=(its++its2).toArray:=by simp
 rw[ea];exact#[.ref _,_,I.lnew (t':=s.toks) (r.append r2) (by rw[G3]; omega),rfl,q _ I.fresh]
abbrev FM:R2:=λx y H Q=>∃l k xs,x=.ref l/\y=.int k/\H l=gV (.lst xs)/\-(2 ^ 63)<=k/\k < 2 ^ 63/\xs.length*k.toNat<=sizeLine/\
 ∀p,H p=td->Q (.ref p) (bO H p (.lst (Iq k.toNat xs).flatten))
def xX {α:Type}(xs:G0 α)(k:G9):(Iq k xs).flatten.length=k*xs.length:=by
 induction k with
 | zero=>simp
 | succ k ih=>rw[Ju,J2,G3,ih,Ml,Nat.add_comm]
def Bw:OpR X (binaryOp .Mult) FM:=by
 intro J s Y H x y v u Q I rx ry h;obtain⟨l,k,xs,rfl,rfl,hH,h1,h2,hz,q⟩:=h;cases rx;obtain⟨t,rfl⟩:=ry;obtain⟨z,its,n,r,hl,e⟩:=I.lstM hH;have hlen:its.toArray.size*k.toNat<=sizeLine:=by rw[Hq,<- hl]; exact hz
 have hcap:¬ its.toArray.size*k.toNat > (2 ^ 63 - 1) / 8:=by
  have:(sizeLine:G9)<=(2 ^ 63 - 1) / 8:=by decide
  omega
 have hfit:¬ (!OM k)=true:=by
  rw[OL h1 h2];exact Ht
 have hlong:¬ J6 (its.toArray.size*k.toNat)=true:=by
  rw[nG hlen];exact Ht
 have hnew:OJ (λx1 x2=>x1++x2) #[] (Iq (if its.toArray.isEmpty=true then 0 else k.toNat) its.toArray)=(Iq k.toNat its).flatten.toArray:=by
  have f0:∀m:G9,OJ (λx1 x2=>x1++x2) #[] (Iq m its.toArray)=(Iq m its).flatten.toArray:=λm=>by
   have:=ln its m [];rw[Ov]at this;exact this
  rw[f0];cases its with
  | nil=>simp
  | cons a r'=>rw[HX (by simp)]
 show wpAny_binaryOp_repeat_ref (T:="list") (U:="int") #v[] #[_,e,rfl] (λs'=>OI s' k t) noFill_list_mul F.fills_int_mul F.slot_int_rmul repeat_list F.slot_int_index.lookup
  (Lg F.slot_int_rmul (OI s k t) F.entry_int_rmul (F.args_int_rmul_2 _ _) (int___rmul___int_list k t l its.toArray n)
   #[e,rfl,#[_,e,rfl],Lg F.slot_list_mul #[_,e,rfl] F.entry_list_mul (F.args_list_mul_2 _ _) (NC l its.toArray n k t hfit hcap hlong) #[e,?_]])
 rw[hnew];exact#[.ref _,_,I.lnew (t':=s.toks) (r.rep k.toNat) (by rw[xX,Nat.mul_comm]; exact hz),rfl,q _ I.fresh]
end
section
variable{X:Cx}{J:G0 (Hb×Je)}{Y:St}{H:Hp}{s:G5}{a:Hb}{y v:V}{u r:G4}{o:G7 V}{A:HY}{E:G4->G5->Prop}
def Inv.big (I:Inv X J Y H s):sysModules < s.heap.objs.size:=by
 have h:mainGlobals < s.heap.objs.size:=(I.mod.glob.keeps I.bk).lt;exact JL #v[] h
def mh {h':Iv}{t':G9}{ob:HO}(I:Inv X J Y H s)(mu:C0 (H a))(hs:JZ a s.heap h')(he:∃q,h'.get? a=gV q)(new:ObjOk X.prog X.w (bO H a ob) h' a ob) :
  Inv X J Y (bO H a ob) { s with heap:=h',toks:=t' }:=
 I.write (x:=a) (e:=a) mu (.inl rfl) (λb q hb z=>(hs.2 b hb).trans z) he new
end
noncomputable abbrev VV:G0 (V×V)->G0 (G4×G4)->Prop:=Mf λp q=>RelV p.1 q.1/\RelV p.2 q.2
structure M1 (X:Cx)(o:HB)(m:Hs)(apos:JE)(e:HB)(cpos:JE):Prop where
 base:attributeBase o m X.env (eval o X.env)=eval o X.env
 kU:((backTo cpos (starEach [e] X.env)).all (λx=>!x.1)&&(backToKw cpos (keywordEach [] X.env)).all (λx=>x.1.isSome)
  && decide (([e]:G0 HB).length+([]:G0 M4).length+(if ([]:G0 M4).isEmpty then 0 else 1) < 30))=true
 line:(apos.endLine==cpos.line)=true
 trees:backTo cpos (starEach [e] X.env)=[(false,eval e X.env)]
end L2
namespace Att
open PySem PySem.W PySem.Calls PyProof.Rows
def jp {P:Nt}{h:Iv}:∀(ns:G0 Hg) (vs:G0 G4),WellAll P h vs (ns.map WData.int)->OB vs ns:=by
 intro ns
 induction ns with
 | nil=>
  intro vs w;rw[NP]at w;cases w;exact .nil
 | cons n ns ih=>
  intro vs w;rw[IK]at w;cases w with
  | cons a b=>
   cases a;exact .cons _ _ (ih _ b)
def rZ {l:OpenLaw}{n:G9}(hn:l.most=gV n){P:Nt}{h:Iv}{args:G0 WData}{vals:G0 G4}
  (hpre:l.row.toRowW.claim.pre args=true) (hwl:WellAll P h vals args) :
  ∃a vs ns,vals=[Im a]/\args=[WData.list (ns.map WData.int)]/\h.get? a=gV { cls:=.type "list",data:=.seq vs.toArray }/\OB vs ns/\ns.length<=n:=by
 have hsh:WShape.hasAll [] args [.list .int]=true:=(pre_splitW hpre).1;have hc:l.pre.holds [] { args:=args }=true:=(pre_splitW hpre).2;obtain⟨d,r,rfl,h1,h2⟩:=hasAllW_cons hsh;obtain rfl:=hasAllW_nil h2;obtain⟨xs,rfl,h3⟩:=hasW_list h1;obtain⟨ns,rfl⟩:=items_int h3;have hlen:ns.length<=n:=by
  unfold OpenLaw.pre at hc;have h4:(WTm.not (.lt (.lit (.int (n:Hg))) (.len (.arg 0)))).holds [] { args:=[.list (ns.map .int)] }=true:=by
   have h4:=(holds_andW hc).1;rw[hn]at h4;exact h4
  have h5:=condW_of h4 (w_not (w_lt w_lit (w_len_list (w_arg rfl))));rw[G1]at h5;show Nat.le_of_not_lt λq=>?_
  have q':(n:Hg) < ((ns.length:G9):Hg):=∅
  first
   | (rw[IL q']at h5; exact absurd h5 #v[])
   | (simp at h5; omega)
 cases hwl with
 | cons w1 w2=>
  cases w2;cases w1 with
  | list ho hall=>exact#[_,_,ns,rfl,rfl,ho,jp ns _ hall,hlen]
def r0 (l:OpenLaw)(args:G0 WData):l.row.toRowW.claim.post args (.bool true) args=true:=
 postW_of (r:=l.row.toRowW) (X:=(true==true))
  (show WShape.has [] (.bool true) .bool=true by first|rfl|decide|simp[WShape.has,WShape.arms,WShape.armsAll])
  (show(WTm.eq .res (.lit (.bool true))).value [] { args:=args,res:=gV (.bool true),after:=args }=gV (.bool (true==true))from w_eq_bool (w_res rfl) w_lit) rfl
def attach_call {l:OpenLaw}{n:G9}{q:HP}{loose:G0 Hs}{XP:(Hs->G7 G4)->Iv->Prop}{YP:Ii->Iv->Prop}{d:DefRec}
  (hn:l.most=gV n) (hdf:d.params.defaults=[])
  (call:∀(w:Ii) (s₀ s₁:G5) (mg mb:Hs->G7 G4) (fa:Hb) (o:Je) (pm cd doc:G4) (a:Hb) (vs:G0 G4) (ns:G0 Hg),
   Ground q loose [] XP w s₀ mg mb s₁.heap->YP w s₁.heap->
   s₁.heap.get? fa=gV o->o.data=.func (docDef d.name d.params d.body d.scope pm cd doc)->s₁.heap.CodeRec cd d.name->mg d.name=gV (.ref fa)->
   s₁.heap.get? a=gV { cls:=.type "list",data:=.seq vs.toArray }->OB vs ns->ns.length<=n->s₁.gens=#[]->
   codeAny (model l.prog w) callerA (.call (.ref fa) #[[.ref a],[]]) (λr s'=>r=.ok (.ret (.bool true))/\OldK s₁.heap s'.heap/\s'.os=s₁.os/\LP s'.gens) s₁) :
  WalkO q loose XP YP l.row.toRowW d [] (λf vs=>ON f vs):=by
 intro w s₀ s₁ mg mb G Yq fa o pm cd doc dV kV ho hd hcd hD hmg hg args vals as hpre hlay hrd hwl hlo;obtain rfl:dV=.none:=Dflts.none hD hdf;obtain rfl:kV=.none:=Dflts.noKw hD;obtain⟨a,vs,ns,rfl,rfl,hobj,hints,hlen⟩:=rZ hn hpre hwl;show enter_call (Mj (call w s₀ s₁ mg mb fa o pm cd doc a vs ns G Yq ho (fd_plain hd) hcd hmg hobj hints hlen hg) λr s' hq=>?_)
 obtain⟨rfl,h2,h3,h4⟩:=hq;exact#[.inl #[.bool true,.bool true,[],rfl,λ_=>rfl,.bool true,r0 l _,λ_=>#[P3,λ_ hm=>(nomatch hm)]],h2,h3,h4]
end Att
namespace L2
open PySem PySem.Spec PyProof.Rows
def lq:∀ {vs:G0 G4} {ns:G0 Hg},OB vs ns->Vals (ns.map V.int) vs
 | _,_,.nil=>.nil
 | _,_,.cons n t h=>.cons #[t,rfl] (lq h)
abbrev uj (H:Hp):Prop:=∀b,H b=td\/∃o xs,H b=gV (.frz o (.lst xs))
def uk {P:HP}{w:Ii}{K:Hl}{mg mb:Hs->G7 G4}{CX:tJ}{k:G9}{fa a:Hb}{fd:JB}{x:Hs}{sp:Sp}{s₁:G5}{vs:G0 G4}{ns:G0 Hg}
  (KX:K.In s₁.heap) (hns:s₁.heap.Ns mainGlobals mg) (hb:s₁.heap.Ns builtinsNs mb) (hbb:∀x:Hs,x≠"__name__"->mb x=bootBuiltins x) (hlim:s₁.heap.NoLimit) (hg:s₁.gens=#[])
  (ha:s₁.heap.get? a=gV { cls:=.type "list",data:=.seq vs.toArray }) (hi:OB vs ns) (hl:ns.length<=sizeLine) (hr:Room k callerA)
  (F:∀base:Iv,K.In base->base.Ns mainGlobals mg->FnOk P w K mg base CX k fa fd [x] sp) (hbind:∀(s:G5) (u:G4),NH s fd #[[u],[]] [(x,u)])
  (hsp:∀H:Hp,uj H->SqL K H a (ns.map V.int)->sp [.ref a] H (λv _=>v=.bl true) λ_ _ _=>IJ)
  (hCX:∀H e s',CX [] H s₁ (λ_ _ _=>IJ) e s'->IJ) :
  codeAny (model P w) callerA (.call (.ref fa) #[[.ref a],[]]) (λr s'=>r=.ok (.ret (.bool true))/\OldK s₁.heap s'.heap/\s'.os=s₁.os/\LP s'.gens) s₁:=by
 have rv:=lq hi;have lenV:=hi.length;have core:∀H:Hp,uj H->SqL K H a (ns.map V.int)->HOk P w H s₁.heap->(∀b,H b≠td->b=a)->(H a≠td->K.lookup a=td)->
   codeAny (model P w) callerA (.call (.ref fa) #[[.ref a],[]]) (λr s'=>r=.ok (.ret (.bool true))/\OldK s₁.heap s'.heap/\s'.os=s₁.os/\LP s'.gens) s₁:=by
  intro H hO hS hok hA hK;have base_of:∀ {b:Hb} {o:Je},s₁.heap.get? b=gV o->H b=td->(l4 s₁.heap H).get? b=gV o:=λe n=>tK e n
  have noA:∀ {b:Hb} {o:Je} {es:Io JF} {ep:G9},s₁.heap.get? b=gV o->o.data=.dict es ep->H b=td:=λ{b o es ep} e d=>by
   cases q:H b with
   | none=>rfl
   | some u=>
    have e':b=a:=hA b (by rw[q]; simp)
    subst e';rw[ha]at e; cases e
    have d':Data.seq vs.toArray _=Data.dict es ep:=d;cases d'
  have nsK:∀ {b:Hb} {m:Hs->G7 G4},s₁.heap.Ns b m->(l4 s₁.heap H).Ns b m:=λ{b m} #[o,es,ep,e,d,r]=>#[o,es,ep,base_of e (noA e d),d,r]
  have hKb:K.In (l4 s₁.heap H):=λb o e=>base_of (KX b o e) (by
   cases q:H b with
   | none=>rfl
   | some u=>
    have e':b=a:=hA b (by rw[q]; simp)
    subst e';rw[hK (by rw[q]; simp)]at e; cases e)
  have hM:Mod K mg (l4 s₁.heap H):=#[hKb,nsK hns,#[mb,nsK hb,hbb],let ⟨mc,h1,h2⟩:=hlim; #[mc,nsK h1,h2]]
  have e0:Env0 P w K mg (l4 s₁.heap H) callerA [] s₁ H:=#[rfl,hM,λb o e=>xy e,Nat.le_of_eq (rN _ _),trivial,λb hb=>absurd (show b∈([]:G0 Hb)from hb) (by simp),hok,.of_eq hg]
  show Mj ((F _ hKb (nsK hns)).run callerA [] s₁ H #[[.ref a],[]] [.ref a] [.ref a] _ _ hr e0 (hbind s₁ (.ref a)) #v[rfl] (hsp H hO hS)) λr s' h=>?_
  cases r with
  | error e=>exact(hCX H e s' h).elim
  | ok fl=>
   cases fl with
   | next=>exact IJ.elim h
   | brk=>exact IJ.elim h
   | cont=>exact IJ.elim h
   | ret u=>
    obtain⟨v,H',os,bare,un,hok',r',q⟩:=h;have q':v=.bl true:=q;subst q';obtain rfl:u=JH true:=r';show#[rfl,OldK.of_keep λb o e=>?_,os,bare]
    cases q:H b with
    | none=>exact un.keep b o e q (by intro z; exact absurd (show b∈([]:G0 Hb)from z) (by simp)) (by simp)
    | some u=>
     rcases hO b with z|⟨ob,xs,z⟩
     ·rw[q]at z; cases z
     ·have z2:=un.frzs b ob _ z;obtain⟨e1,_⟩:=hok b _ z;obtain⟨e2,_⟩:=hok' b _ z2;rw[e]at e1; cases e1
      exact e2
 cases hk:K.lookup a with
 | some o=>
  have e:=KX a o hk;rw[ha]at e;cases e;show core (λ_=>td) (λ_=>.inl rfl) (.inr #[_,vs.toArray,_,hk,rfl,rfl,rfl,by rw[Hq,lenV]; exact hl,by simpa using rv]) (λb u z=>by have z':(td:G7 HO)=gV u:=z; cases z') (λb z=>absurd rfl z) λz=>absurd rfl z
 | none=>
  show core (λb=>if b=a then gV (.frz { cls:=.type "list",data:=.seq vs.toArray } (.lst (ns.map V.int)))else td) (λb=>?_) (.inl (.inr #[{ cls:=.type "list",data:=.seq vs.toArray },HE rfl])) (λb u z=>?_) (λb z=>?_) λ_=>hk
  ·by_cases hb:b=a
   ·exact .inr #[_,_,HE hb]
   ·exact .inl (HX hb)
  ·by_cases hb:b=a
   ·have z':=(HE hb).symm.trans z;cases z';subst hb;exact#[ha,by rw[G1]; exact hl,vs,_,rv,ha]
   ·have z':=(HX hb).symm.trans z;cases z'
  ·by_cases hb:b=a
   ·exact hb
   ·exact absurd (HX hb) z
def xY {l:Mu}{n k:G9}{q:HP}{loose:G0 Hs}{XP:(Hs->G7 G4)->Iv->Prop}{YP:Ii->Iv->Prop}{d:DefRec}{K:Nt->Hl}{CX:Ii->tJ}{sp:Ii->Sp}{x:Hs}
  (hn:l.most=gV n) (hn2:n<=sizeLine) (hdf:d.params.defaults=[]) (hr:Room k callerA)
  (hY:∀(w:Ii) (h:Iv),YP w h->(K w.params).In h)
  (F:∀(w:Ii) (mg:Hs->G7 G4) (fa:Hb) (h:Iv),(K w.params).In h->h.Ns mainGlobals mg->mg d.name=gV (.ref fa)->
   ∃fd:JB,(∀(s:G5) (u:G4),NH s fd #[[u],[]] [(x,u)])/\
    ∀base:Iv,(K w.params).In base->base.Ns mainGlobals mg->FnOk l.prog w (K w.params) mg base (CX w) k fa fd [x] (sp w))
  (hsp:∀(w:Ii) (H:Hp) (a:Hb) (ns:G0 Hg),ns.length<=n->uj H->SqL (K w.params) H a (ns.map V.int)->sp w [.ref a] H (λv _=>v=.bl true) λ_ _ _=>IJ)
  (hCX:∀(w:Ii) (H:Hp) (s:G5) (e:G4) (s':G5),CX w [] H s (λ_ _ _=>IJ) e s'->IJ) :
  O4 q loose XP YP l.row.toRowW d [] (λf vs=>ON f vs):=by
 show Att.attach_call hn hdf λw s₀ s₁ mg mb fa o pm cd doc a vs ns G Yq ho hd hcd hmg hobj hints hlen hg=>?_
 have KX:=hY w _ Yq;obtain⟨fd,hb,hF⟩:=F w mg fa _ KX G.T.g hmg;exact uk KX G.T.g G.T.b G.T.builtins G.T.nolimit hg hobj hints (HK hlen hn2) hr hF hb (λH hO hS=>hsp w H a ns hlen hO hS) λH e s'=>hCX w H s₁ e s'
abbrev dE (s:J8):Arguments:=match s with
 | .FunctionDef _ a _ _ _ _ _ _ _ _=>a
 | _=>{ posonlyargs:=[],args:=[],vararg:=td,kwonlyargs:=[],kw_defaults:=[],kwarg:=td,defaults:=[] }
abbrev cv (s:J8):G0 J8:=match s with
 | .FunctionDef _ _ b _ _ _ _ _ _ _=>b
 | _=>[]
abbrev aS (s:J8):Kh:=match s with
 | .FunctionDef _ _ _ _ _ _ sc _ _ _=>sc
 | _=>{ kind:=.function,names:=[],isGenerator:=false,isCoroutine:=false }
noncomputable abbrev qz:tJ:=λ_ _ _ _ _ _=>IJ
noncomputable abbrev E0:XK:=λ_ _ _=>IJ
def qA {X:Cx}:iI qz X E0:=λ_ _ _ _ _ _ _ h=>h.elim
structure Fun (K:Hl)(x qual:Hs)(st:J8)(f:Hb)(fd:JB):Prop where
 ex:∃(oc:G4) (od:G7 Hb) (kV doc pm:G4) (an:G7 Hb) (cdv ct:G4) (osl:Io (G7 G4)),
  fd=Jz x qual (dE st) (cv st) (aS st) .none kV doc pm an cdv ct/\K.lookup f=gV #[oc,od,.func fd,osl]/\Ke K cdv qual=true
 kp:Iy K (.ref f)=true
section
variable{P:HP}{w:Ii}{K:Hl}{mg:Hs->G7 G4}{base:Iv}
def Fun.ok {x qual:Hs}{st:J8}{f:Hb}{fd:JB}{N ps:G0 Hs}{k:G9}{sp:Sp}(F:Fun K x qual st f fd)(S:FnScope N ps (aS st))(len:∀vs H Q E,sp vs H Q E->vs.length=ps.length)
  (hbody:∀(cdv:G4) (A:HY) (outer:G0 Na) (s:G5) (H:Hp) (vs:G0 V) (Q:VK) (E:XK),Room k (A.deeper (envOfC qual (aS st) s.heap.objs.size f cdv))->sp vs H Q E->
   ∃t,PSs (pi qz P w K mg base N qual (aS st) f cdv A outer s H E).nox (cv st) t/\t { nx:=λ_ H'=>Q .non H',rt:=Q } (fG N vs) H):FnOk P w K mg base qz (k+1) f fd ps sp:=by
 obtain⟨oc,od,kV,doc,pm,an,cdv,ct,osl,rfl,lk,hcd⟩:=F.ex;show Dp lk hcd S len λA outer s H vs Q E hr hsp=>?_
 obtain⟨t,h,q⟩:=hbody cdv A outer s H vs Q E hr hsp;exact#[t,h.nox,q]
def Fun.binds {x qual:Hs}{st:J8}{f:Hb}{fd:JB}{ps:G0 Hs}(F:Fun K x qual st f fd)
  (h:∀(kV doc pm:G4) (an:G7 Hb) (cdv ct:G4) (us:G0 G4),us.length=ps.length->bindArgs (Jz x qual (dE st) (cv st) (aS st) .none kV doc pm an cdv ct) #[us,[]]=pure (ps.zip us)):Binds K fd ps []:=by
 obtain⟨oc,od,kV,doc,pm,an,cdv,ct,osl,rfl,lk,hcd⟩:=F.ex;exact .all (h kV doc pm an cdv ct)
def um {x qual:Hs}{st:J8}{f:Hb}{oc:G4}{od an:G7 Hb}{osl:Io (G7 G4)}{kV doc pm cdv ct:G4}(l:K.lookup f=gV #[oc,od,.func (Jz x qual (dE st) (cv st) (aS st) .none kV doc pm an cdv ct),osl])
  (c:Ke K cdv qual=true) (k:Iy K (.ref f)=true):Fun K x qual st f (Jz x qual (dE st) (cv st) (aS st) .none kV doc pm an cdv ct):=#[#[oc,od,kV,doc,pm,an,cdv,ct,osl,rfl,l,c],k]
end
end L2
open PySem PySem.W PyProof.Rows L2
set_option maxHeartbeats 0
namespace Mi
section
abbrev lu (i:G9):J8:=PySem.Challenge.pw_layworld_k32_put_on_looked_at.main.body.getD i (.Pass #[0,0,0,0])
abbrev pw:HP:=LG
abbrev ge (P:Nt)(n:Hs)(t:G9)(v:G4):JF:=#[PyData.keyHash P n,.str n t,v]
abbrev kd (a:G9)(es:G0 JF)(n:G9):Hb×Je:=(a,#[.type "dict",td,.dict es.toArray n,#[]])
abbrev kc (a:G9)(vs:G0 G4):Hb×Je:=(a,#[.type "code",td,.fields vs.toArray,#[]])
abbrev kf (a:G9)(st:J8)(n:Hs)(pm cd:G4):Hb×Je:=(a,#[.type "function",td,.func (Jz n n (dE st) (cv st) (aS st) .none .none .none pm td cd .none),#[]])
abbrev FN (i:G9):G4:=if i<=3 then(.str "layworld.kinds" 187)else if i<=8 then(.str "layworld.worlds" 210)else if i<=12 then(.str "layworld.parts" 242)else if i<=14 then(.str "layworld.rules" 262)else if i<=22 then(.str "layworld.threes" 272)else if i<=27 then(.str "layworld.fillings" 338)else if i<=35 then(.str "layworld.always" 373)else(.str "law_layworld_k32_put_on_looked_at" 434)
abbrev kx (a:G9)(b:HA)(i:G9)(s:Hs)(t:G9)(l p:Hg)(m:G9)(R:Hl):Hl:=kc a [.str s t,.str s (t+1),.str "/claim/cut.py" (t+2),.int l 0,.int p 0,.int 0 0,.int 0 0,.int 3 0,.ref (if b then a - 5 else a - 3),.bool true,.int 181 0,.ref (if b then a - 4 else a - 2),.none,if b then .ref (a - 3)else .none,if b then .ref (a - 2)else .none,.ref (a - 1),.int m 0,.int l 0,.str "/claim/cut.py" (m+1)]::kf (a+1) (lu i) s (FN i) (.ref a)::R
abbrev K0 (P:Nt):Hl:=kd 3 [ge P "__name__" 165 (.str "law_layworld_k32_put_on_looked_at" 434),ge P "__doc__" 166 .none,ge P "__package__" 167 .none,ge P "__loader__" 168 (.builtin "__main__.__loader__#opaque"),ge P "__spec__" 169 .none,ge P "__annotations__" 170 (.ref 6),ge P "__builtins__" 171 (.ref 4),ge P "__file__" 173 (.str "/claim/cut.py" 172),ge P "__cached__" 174 .none,ge P "is_whole" 195 (.ref 21),ge P "is_tuple_of" 203 (.ref 28),ge P "is_numbers" 209 (.ref 33),ge P "is_world" 217 (.ref 38),ge P "is_point" 223 (.ref 43),ge P "has_point_form" 231 (.ref 50),ge P "way" 241 (.ref 57),ge P "part" 249 (.ref 62),ge P "point_over" 255 (.ref 67),ge P "longer_orders" 261 (.ref 72),ge P "back" 271 (.ref 79),ge P "barred_threes" 284 (.ref 86),ge P "three_at" 296 (.ref 93),ge P "first_barred" 304 (.ref 100),ge P "first_three" 315 (.ref 107),ge P "first_bar" 325 (.ref 114),ge P "wishes_over" 331 (.ref 119),ge P "longer_wishes" 337 (.ref 124),ge P "barred_by" 349 (.ref 131),ge P "all_bars" 355 (.ref 136),ge P "with_both" 366 (.ref 143),ge P "same_bar" 372 (.ref 148),ge P "put_on" 381 (.ref 155),ge P "first_unfilled" 393 (.ref 162),ge P "unfilled_behind" 407 (.ref 169),ge P "longer_by_a_point" 413 (.ref 174),ge P "longer_by_a_way" 419 (.ref 179),ge P "is_put_on" 427 (.ref 186),ge P "is_base_with_two" 433 (.ref 191),ge P "_law_flow" 442 (.ref 198),ge P "_law_pick" 452 (.ref 205),ge P "_law_shuffled" 462 (.ref 212),ge P "_law_names" 468 (.ref 217),ge P "_law_between" 478 (.ref 224),ge P "_law_part" 484 (.ref 229),ge P "_law_turns" 490 (.ref 236),ge P "_law_figure" 496 (.ref 241),ge P "_law_bad" 506 (.ref 248),ge P "_law_may" 516 (.ref 255),ge P "_law_last_may" 530 (.ref 262),ge P "_law_backs" 539 (.ref 269),ge P "_law_rule_of" 545 (.ref 274),ge P "_law_free_three" 551 (.ref 279),ge P "_law_sizes" 559 (.ref 286),ge P "_law_any_rule" 571 (.ref 293),ge P "_law_rising" 577 (.ref 298),ge P "_law_one_way_rule" 583 (.ref 303),ge P "_law_unlaying_rule" 589 (.ref 308),ge P "_law_new_ways" 606 (.ref 315),ge P "_law_world" 620 (.ref 322),ge P "_law_alike" 626 (.ref 327),ge P "_law_new_point" 640 (.ref 334),ge P "_law_near" 655 (.ref 341),ge P "_law_pair" 668 (.ref 348),ge P "_law_both" 679 (.ref 355),ge P "_law_fills" 692 (.ref 362),ge P "_law_is_world" 698 (.ref 367),ge P "_law_unfilled" 713 (.ref 374),ge P "_law_thing" 719 (.ref 379),ge P "_law_other_point" 725 (.ref 384),ge P "_law_spoilt_thing" 740 (.ref 391),ge P "_law_some_rule" 747 (.ref 398),ge P "law" 761 (.ref 405)] 72::(kx 20 true 1 "is_whole" 189 2 1 193
 (kx 27 true 2 "is_tuple_of" 196 4 2 201
 (kx 32 false 3 "is_numbers" 204 6 2 207
 (kx 37 false 5 "is_world" 212 9 2 215
 (kx 42 false 6 "is_point" 218 11 3 221
 (kx 49 true 7 "has_point_form" 224 16 2 229
 (kx 56 true 8 "way" 232 18 4 239
 (kx 61 false 10 "part" 244 23 3 247
 (kx 66 false 11 "point_over" 250 25 4 253
 (kx 71 false 12 "longer_orders" 256 27 2 259
 (kx 78 true 14 "back" 264 33 2 269
 (kx 85 true 16 "barred_threes" 274 36 1 282
 (kx 92 true 17 "three_at" 285 45 4 294
 (kx 99 true 18 "first_barred" 297 49 2 302
 (kx 106 true 19 "first_three" 305 51 2 313
 (kx 113 true 20 "first_bar" 316 58 2 323
 (kx 118 false 21 "wishes_over" 326 64 3 329
 (kx 123 false 22 "longer_wishes" 332 72 2 335
 (kx 130 true 24 "barred_by" 340 78 4 347
 (kx 135 false 25 "all_bars" 350 80 5 353
 (kx 142 true 26 "with_both" 356 83 5 364
 (kx 147 false 27 "same_bar" 367 85 2 370
 (kx 154 true 29 "put_on" 375 91 1 379
 (kx 161 true 30 "first_unfilled" 382 93 2 391
 (kx 168 true 31 "unfilled_behind" 394 101 4 405
 (kx 173 false 32 "longer_by_a_point" 408 112 3 411
 (kx 178 false 33 "longer_by_a_way" 414 120 4 417
 (kx 185 true 34 "is_put_on" 420 123 2 425
 (kx 190 false 35 "is_base_with_two" 428 125 2 431
 (kx 197 true 37 "_law_flow" 436 132 1 440
 (kx 204 true 38 "_law_pick" 443 134 2 450
 (kx 211 true 39 "_law_shuffled" 453 149 2 460
 (kx 216 false 40 "_law_names" 463 155 2 466
 (kx 223 true 41 "_law_between" 469 157 4 476
 (kx 228 false 42 "_law_part" 479 161 3 482
 (kx 235 true 43 "_law_turns" 485 167 0 488
 (kx 240 false 44 "_law_figure" 491 169 2 494
 (kx 247 true 45 "_law_bad" 497 171 1 504
 (kx 254 true 46 "_law_may" 507 177 3 514
 (kx 261 true 47 "_law_last_may" 517 182 4 528
 (kx 268 true 48 "_law_backs" 531 189 2 537
 (kx 273 false 49 "_law_rule_of" 540 192 4 543
 (kx 278 false 50 "_law_free_three" 546 196 3 549
 (kx 285 true 51 "_law_sizes" 552 201 1 557
 (kx 292 true 52 "_law_any_rule" 560 204 1 569
 (kx 297 false 53 "_law_rising" 572 211 1 575
 (kx 302 false 54 "_law_one_way_rule" 578 217 1 581
 (kx 307 false 55 "_law_unlaying_rule" 584 221 1 587
 (kx 314 true 56 "_law_new_ways" 590 236 6 604
 (kx 321 true 57 "_law_world" 607 249 4 618
 (kx 326 false 58 "_law_alike" 621 257 2 624
 (kx 333 true 59 "_law_new_point" 627 269 4 638
 (kx 340 true 60 "_law_near" 641 277 5 653
 (kx 347 true 61 "_law_pair" 656 288 4 666
 (kx 354 true 62 "_law_both" 669 300 5 677
 (kx 361 true 63 "_law_fills" 680 302 5 690
 (kx 366 false 64 "_law_is_world" 693 308 2 696
 (kx 373 true 65 "_law_unfilled" 699 317 4 711
 (kx 378 false 66 "_law_thing" 714 326 4 717
 (kx 383 false 67 "_law_other_point" 720 342 3 723
 (kx 390 true 68 "_law_spoilt_thing" 726 351 3 738
 (kx 397 true 69 "_law_some_rule" 741 369 1 745
 (kx 404 true 70 "law" 748 373 1 759 [])))))))))))))))))))))))))))))))))))))))))))))))))))))))))))))))
abbrev Gr:G0 G9:=[3,20,21,27,28,32,33,37,38,42,43,49,50,56,57,61,62,66,67,71,72,78,79,85,86,92,93,99,100,106,107,113,114,118,119,123,124,130,131,135,136,142,143,147,148,154,155,161,162,168,169,173,174,178,179,185,186,190,191,197,198,204,205,211,212,216,217,223,224,228,229,235,236,240,241,247,248,254,255,261,262,268,269,273,274,278,279,285,286,292,293,297,298,302,303,307,308,314,315,321,322,326,327,333,334,340,341,347,348,354,355,361,362,366,367,373,374,378,379,383,384,390,391,397,398,404,405]
abbrev vq:HP:={ pw with main:={ pw.main with body:=[lu 70] } }
abbrev lo:G0 Hs:=[("is_whole" : Hs),("is_tuple_of" : Hs),("is_numbers" : Hs),("is_world" : Hs),("is_point" : Hs),("has_point_form" : Hs),("way" : Hs),("part" : Hs),("point_over" : Hs),("longer_orders" : Hs),("back" : Hs),("barred_threes" : Hs),("three_at" : Hs),("first_barred" : Hs),("first_three" : Hs),("first_bar" : Hs),("wishes_over" : Hs),("longer_wishes" : Hs),("barred_by" : Hs),("all_bars" : Hs),("with_both" : Hs),("same_bar" : Hs),("put_on" : Hs),("first_unfilled" : Hs),("unfilled_behind" : Hs),("longer_by_a_point" : Hs),("longer_by_a_way" : Hs),("is_put_on" : Hs),("is_base_with_two" : Hs),("_law_flow" : Hs),("_law_pick" : Hs),("_law_shuffled" : Hs),("_law_names" : Hs),("_law_between" : Hs),("_law_part" : Hs),("_law_turns" : Hs),("_law_figure" : Hs),("_law_bad" : Hs),("_law_may" : Hs),("_law_last_may" : Hs),("_law_backs" : Hs),("_law_rule_of" : Hs),("_law_free_three" : Hs),("_law_sizes" : Hs),("_law_any_rule" : Hs),("_law_rising" : Hs),("_law_one_way_rule" : Hs),("_law_unlaying_rule" : Hs),("_law_new_ways" : Hs),("_law_world" : Hs),("_law_alike" : Hs),("_law_new_point" : Hs),("_law_near" : Hs),("_law_pair" : Hs),("_law_both" : Hs),("_law_fills" : Hs),("_law_is_world" : Hs),("_law_unfilled" : Hs),("_law_thing" : Hs),("_law_other_point" : Hs),("_law_spoilt_thing" : Hs),("_law_some_rule" : Hs)]
def eK:∀P,Gr=(K0 P).map (·.1):=λ_=>by kernel_rfl
abbrev hk:PySem.W.Hook:=PySem.W.kHook K0 Gr eK
def hl:PySem.W.LeftO pw vq lo (λs=>Pi vq [] s&&O5 [] s) hk.obs hk.val 4060:=λw=>by kernel_rfl
def s0:PySem.Challenge.rw_layworld_k32_put_on_looked_at.row.wellSaid=true:=by kernel_rfl
end
end Mi
namespace Mi
open PySem PySem.Spec PyProof.Rows L2
inductive W where
 | non|bl (b:HA)|int (i:Hg)|str (x:Hs)|tup (xs:G0 W)|ref (i:G9)
inductive T where
 | int (i:Hg)|str (x:Hs)|tup (xs:G0 T)
mutual
def T.beq:T->T->HA
 | .int i,.int j=>i==j
 | .str x,.str y=>x==y
 | .tup xs,.tup ys=>T.beqs xs ys
 | _,_=>false
def T.beqs:G0 T->G0 T->HA
 | [],[]=>true
 | x::xs,y::ys=>T.beq x y&&T.beqs xs ys
 | _,_=>false
end
mutual
theorem T.beq_iff:∀x y:T,T.beq x y=true↔x=y
 | .int i,.int j=>by simp[T.beq]
 | .str x,.str y=>by simp[T.beq]
 | .tup xs,.tup ys=>by simp[T.beq,T.beqs_iff xs ys]
 | .int _,.str _|.int _,.tup _|.str _,.int _|.str _,.tup _|.tup _,.int _|.tup _,.str _=>by simp[T.beq]
theorem T.beqs_iff:∀xs ys:G0 T,T.beqs xs ys=true↔xs=ys
 | [],[]=>by simp[T.beqs]
 | x::xs,y::ys=>by simp[T.beqs,T.beq_iff x y,T.beqs_iff xs ys]
 | [],_::_|_::_,[]=>by simp[T.beqs]
end
noncomputable instance:Kw T:=λx y=>decidable_of_iff (T.beq x y=true) (T.beq_iff x y)
mutual
def T.w:T->W
 | .int i=>.int i
 | .str x=>.str x
 | .tup xs=>.tup (T.ws xs)
def T.ws:G0 T->G0 W
 | []=>[]
 | x::xs=>T.w x::T.ws xs
end
mutual
def W.t:W->G7 T
 | .int i=>gV (.int i)
 | .str x=>gV (.str x)
 | .tup xs=>(W.ts xs).map .tup
 | _=>td
def W.ts:G0 W->G7 (G0 T)
 | []=>gV []
 | x::xs=>match W.t x,W.ts xs with
  | some y,gV ys=>gV (y::ys)
  | _,_=>td
end
mutual
theorem W.t_w:∀ {w:W} {k:T},W.t w=gV k->k.w=w
 | .int i,_,h=>by cases h; rfl
 | .str x,_,h=>by cases h; rfl
 | .tup xs,_,h=>by
  simp only[W.t,G6]at h;obtain⟨ks,h1,h2⟩:=h;subst h2;simp only[T.w,W.ts_w h1]
 | .non,_,h|.bl _,_,h|.ref _,_,h=>by cases h
theorem W.ts_w:∀ {ws:G0 W} {ks:G0 T},W.ts ws=gV ks->T.ws ks=ws
 | [],_,h=>by cases h; rfl
 | w::ws,_,h=>by
  simp only[W.ts]at h;split at h
  ·rename_i y ys h1 h2;cases h;simp only[T.ws,W.t_w h1,W.ts_w h2]
  ·cases h
end
mutual
theorem T.w_t:∀k:T,W.t k.w=gV k
 | .int _=>rfl
 | .str _=>rfl
 | .tup xs=>by simp only[T.w,W.t,T.ws_ts xs,HR]
theorem T.ws_ts:∀ks:G0 T,W.ts (T.ws ks)=gV ks
 | []=>rfl
 | x::xs=>by simp only[T.ws,W.ts,T.w_t x,T.ws_ts xs]
end
mutual
def T.depth:T->G9
 | .tup xs=>T.depths xs+1
 | _=>0
def T.depths:G0 T->G9
 | []=>0
 | x::xs=>max (T.depth x) (T.depths xs)
end
mutual
def T.draws:T->G9
 | .tup xs=>T.drawss xs+1
 | _=>1
def T.drawss:G0 T->G9
 | []=>0
 | x::xs=>T.draws x+T.drawss xs
end
mutual
def nH (wd:Ii):T->Hg
 | .int i=>hashInt i
 | .str x=>hashStr wd x
 | .tup xs=>reduceHash (LH (jJ wd xs))
def jJ (wd:Ii):G0 T->G0 Hg
 | []=>[]
 | x::xs=>nH wd x::jJ wd xs
end
abbrev T.isTup:T->HA
 | .tup _=>true
 | _=>false
abbrev bh:G9:=6
inductive O where
 | lst (xs:G0 W)
 | fro (xs:G0 W)
 | rng (lo hi:Hg)
 | dic (U:G0 (T×W))
 | frd (U:G0 (T×W))
noncomputable abbrev aa:=G0 O
noncomputable abbrev Fm:=G0 (G7 W)
section
variable (K:Hl) (A:G0 Hb) (H:Hp)
mutual
inductive Rel:W->V->Prop
 | non:Rel .non .non
 | bl {b:HA}:Rel (.bl b) (.bl b)
 | int {i:Hg}:Rel (.int i) (.int i)
 | str {x:Hs}:Rel (.str x) (.str x)
 | tup {ws:G0 W} {a:Hb} {vs:G0 V}:SqT K H a vs->RelL ws vs->Rel (.tup ws) (.ref a)
 | ref {i:G9} {a:Hb}:A[i]?=gV a->Rel (.ref i) (.ref a)
inductive RelL:G0 W->G0 V->Prop
 | nil:RelL [] []
 | cons {w:W} {v:V} {ws:G0 W} {vs:G0 V}:Rel w v->RelL ws vs->RelL (w::ws) (v::vs)
end
end
section
variable{K:Hl}{A A' A'':G0 Hb}{H H' H'':Hp}
structure Ext (K:Hl)(A:G0 Hb)(H:Hp)(A':G0 Hb)(H':Hp):Prop where
 ad:∀(i:G9) (a:Hb),A[i]?=gV a->A'[i]?=gV a
 tp:∀(a:Hb) (vs:G0 V),SqT K H a vs->SqT K H' a vs
 fz:∀(a:Hb) (o:Je) (u:HO),H a=gV (.frz o u)->H' a=gV (.frz o u)
def Ext.refl:Ext K A H A H:=#[λ_ _ h=>h,λ_ _ h=>h,λ_ _ _ h=>h]
def Ext.trans (e:Ext K A H A' H')(f:Ext K A' H' A'' H''):Ext K A H A'' H'':=#[λi a h=>f.ad i a (e.ad i a h),λa vs h=>f.tp a vs (e.tp a vs h),λa o u h=>f.fz a o u (e.fz a o u h)]
mutual
theorem Rel.mono (e:Ext K A H A' H'):∀ {w:W} {v:V},Rel K A H w v->Rel K A' H' w v
 | _,_,.non=>.non
 | _,_,.bl=>.bl
 | _,_,.int=>.int
 | _,_,.str=>.str
 | _,_,.tup h r=>.tup (e.tp _ _ h) (RelL.mono e r)
 | _,_,.ref h=>.ref (e.ad _ _ h)
theorem RelL.mono (e:Ext K A H A' H'):∀ {ws:G0 W} {vs:G0 V},RelL K A H ws vs->RelL K A' H' ws vs
 | _,_,.nil=>.nil
 | _,_,.cons r t=>.cons (Rel.mono e r) (RelL.mono e t)
end
def RelL.length:∀ {ws:G0 W} {vs:G0 V},RelL K A H ws vs->ws.length=vs.length
 | _,_,.nil=>rfl
 | _,_,.cons _ t=>by simp[RelL.length t]
def RelL.get:∀ {ws:G0 W} {vs:G0 V} {i:G9} {w:W},RelL K A H ws vs->ws[i]?=gV w->∃v,vs[i]?=gV v/\Rel K A H w v
 | _,_,_,_,.nil,e=>by simp at e
 | _,_,0,_,.cons r _,e=>by simp at e; subst e; exact#[_,rfl,r]
 | _,_,i+1,w,.cons _ t,e=>by
  obtain⟨u,h1,h2⟩:=RelL.get (i:=i) (w:=w) t (by simpa using e)
  exact#[u,by simpa using h1,h2]
def RelL.append:∀ {xs ys:G0 W} {us ws:G0 V},RelL K A H xs us->RelL K A H ys ws->RelL K A H (xs++ys) (us++ws)
 | _,_,_,_,.nil,s=>s
 | _,_,_,_,.cons r t,s=>.cons r (RelL.append t s)
def RelL.take:∀ {xs:G0 W} {us:G0 V} (n:G9),RelL K A H xs us->RelL K A H (xs.take n) (us.take n)
 | _,_,0,_=>.nil
 | _,_,_+1,.nil=>.nil
 | _,_,n+1,.cons r t=>.cons r (RelL.take n t)
def RelL.drop:∀ {xs:G0 W} {us:G0 V} (n:G9),RelL K A H xs us->RelL K A H (xs.drop n) (us.drop n)
 | _,_,0,r=>r
 | _,_,_+1,.nil=>.nil
 | _,_,n+1,.cons _ t=>RelL.drop n t
def RelL.set {x:W}{u:V}(r:Rel K A H x u):∀ {xs:G0 W} {us:G0 V} (i:G9),RelL K A H xs us->RelL K A H (xs.set i x) (us.set i u)
 | _,_,_,.nil=>.nil
 | _,_,0,.cons _ t=>.cons r t
 | _,_,i+1,.cons q t=>.cons q (RelL.set r i t)
def RelL.rep {xs:G0 W}{us:G0 V}(h:RelL K A H xs us):∀k:G9,RelL K A H (Iq k xs).flatten (Iq k us).flatten
 | 0=>.nil
 | k+1=>by
  rw[Ju,Ju,J2,J2];exact RelL.append h (RelL.rep h k)
def RelL.eraseIdx:∀ {xs:G0 W} {us:G0 V} (i:G9),RelL K A H xs us->RelL K A H (xs.eraseIdx i) (us.eraseIdx i)
 | _,_,_,.nil=>.nil
 | _,_,0,.cons _ t=>t
 | _,_,i+1,.cons r t=>.cons r (RelL.eraseIdx i t)
abbrev FroL (K:Hl)(H:Hp)(a:Hb)(vs:G0 V):Prop:=
 (∃o,H a=gV (.frz o (.lst vs)))\/
  ∃(o:Je) (its:Io G4) (n:G9),K.lookup a=gV o/\o.cls=.type "list"/\o.dict=td/\o.data=.seq its n/\its.size<=sizeLine/\Vals vs its.toList
def FroL.sq {a:Hb}{vs:G0 V}(h:FroL K H a vs):SqL K H a vs:=by
 rcases h with⟨o,h⟩|h
 ·exact .inl (.inr #[o,h])
 ·exact .inr h
abbrev uq (wd:Ii)(x:T×Hb×G4):JF:=#[nH wd x.1,.ref x.2.1,x.2.2]
abbrev DicAt (wd:Ii)(a:Hb)(xs:G0 (T×Hb×G4))(h:Iv):Prop:=
 xs.length<=sizeLine/\(a==sysModules)=false/\(xs.map (·.1)).Nodup/\∃o es ep,h.get? a=gV o/\o.ExactDict/\o.data=.dict es ep/\es.toList=xs.map (uq wd)
abbrev dS (wd:Ii)(a:Hb)(xs:G0 (T×Hb×G4)):HO:=.ext (DicAt wd a xs)
abbrev KRel (K:Hl)(A:G0 Hb)(H:Hp):G0 (T×W)->G0 (T×Hb×G4)->Prop:=
 Mf λ(p:T×W) (q:T×Hb×G4)=>p.1=q.1/\p.1.isTup=true/\p.1.depth<=bh/\Rel K A H p.1.w (.ref q.2.1)/\∃v,Rel K A H p.2 v/\RelV v q.2.2
def KRel.mono (e:Ext K A H A' H'){U:G0 (T×W)}{xs:G0 (T×Hb×G4)}(h:KRel K A H U xs):KRel K A' H' U xs:=
 Paired.mapP h λ_ _ #[h1,h2,h3,h4,v,h5,h6]=>#[h1,h2,h3,h4.mono e,v,h5.mono e,h6]
variable{wd:Ii}
abbrev ObjRel (wd:Ii)(K:Hl)(A:G0 Hb)(H:Hp)(a:Hb):O->Prop
 | .lst ws=>∃vs,H a=gV (.lst vs)/\RelL K A H ws vs
 | .fro ws=>∃vs,FroL K H a vs/\RelL K A H ws vs
 | .rng lo hi=>H a=gV (.rng lo hi)
 | .dic U=>∃xs,H a=gV (dS wd a xs)/\KRel K A H U xs
 | .frd U=>∃o xs,H a=gV (.frz o (dS wd a xs))/\KRel K A H U xs
abbrev O.mut:O->HA
 | .fro _=>false
 | .rng _ _=>false
 | .frd _=>false
 | _=>true
structure StoreOk (wd:Ii)(K:Hl)(A:G0 Hb)(H:Hp)(S:aa):Prop where
 len:A.length=S.length
 nd:∀(i j:G9) (a:Hb) (o u:O),S[i]?=gV o->o.mut=true->S[j]?=gV u->u.mut=true->A[i]?=gV a->A[j]?=gV a->i=j
 obj:∀(i:G9) (o:O) (a:Hb),S[i]?=gV o->A[i]?=gV a->ObjRel wd K A H a o
abbrev EnvRel (K:Hl)(A:G0 Hb)(H:Hp)(Z:Fm)(Y:L2.St):Prop:=
 Z.length=Y.length/\∀(i:G9) (w:W),Z[i]?=gV (gV w)->∃v,Y[i]?=gV (gV v)/\Rel K A H w v
def EnvRel.mono {Z:Fm}{Y:L2.St}(e:Ext K A H A' H')(h:EnvRel K A H Z Y):EnvRel K A' H' Z Y:=
 #[h.1,λi w q=>let ⟨v,a,b⟩:=h.2 i w q; #[v,a,b.mono e]]
def EnvRel.set {Z:Fm}{Y:L2.St}{w:W}{v:V}(h:EnvRel K A H Z Y)(r:Rel K A H w v)(i:G9):EnvRel K A H (Z.set i (gV w)) (Y.set i (gV v)):=by
 show#[by simp[h.1],λj w' q=>?_]
 rw[Jr]at q ⊢
 by_cases e:i=j
 ·subst e;rw[HE rfl]at q ⊢
  by_cases hl:i < Z.length
  ·rw[HE hl]at q;rw[HE (h.1 ▸ hl)];cases q;exact#[v,rfl,r]
  ·rw[HX hl]at q; cases q
 ·rw[HX e]at q ⊢;exact h.2 j w' q
abbrev Wr (H:Hp)(p:Hb):Prop:=H p=td\/(∃xs,H p=gV (.lst xs))\/(∃φ,H p=gV (.ext φ))\/∃ks,H p=gV (.dK ks)
def Wr.lst {p:Hb}{xs:G0 V}(h:H p=gV (.lst xs)):Wr H p:=.inr (.inl #[xs,h])
def Wr.ext {p:Hb}{φ:Iv->Prop}(h:H p=gV (.ext φ)):Wr H p:=.inr (.inr (.inl #[φ,h]))
def Wr.ne_tup {p a:Hb}{xs:G0 V}(hp:Wr H p)(h:H a=gV (.tup xs)):a≠p:=by
 intro e; subst e
 rcases hp with q|⟨xs,q⟩|⟨φ,q⟩|⟨ks,q⟩ <;> (rw[h]at q; cases q)
def Wr.ne_frz {p a:Hb}{o:Je}{u:HO}(hp:Wr H p)(h:H a=gV (.frz o u)):a≠p:=by
 intro e; subst e
 rcases hp with q|⟨xs,q⟩|⟨φ,q⟩|⟨ks,q⟩ <;> (rw[h]at q; cases q)
def Wr.ne_rng {p a:Hb}{lo hi:Hg}(hp:Wr H p)(h:H a=gV (.rng lo hi)):a≠p:=by
 intro e; subst e
 rcases hp with q|⟨xs,q⟩|⟨φ,q⟩|⟨ks,q⟩ <;> (rw[h]at q; cases q)
def qB {p:Hb}{o:HO}(hp:Wr H p){a:Hb}{vs:G0 V}(h:SqT K H a vs):SqT K (bO H p o) a vs:=by
 rcases h with(h|⟨o',h⟩)|h
 ·exact .inl (.inl (by rw[aI (hp.ne_tup h)]; exact h))
 ·exact .inl (.inr #[o',by rw[aI (hp.ne_frz h)]; exact h])
 ·exact .inr h
def ur {p:Hb}{o:HO}(hp:Wr H p){a:Hb}{vs:G0 V}(h:FroL K H a vs):FroL K (bO H p o) a vs:=by
 rcases h with⟨o',h⟩|h
 ·exact .inl #[o',by rw[aI (hp.ne_frz h)]; exact h]
 ·exact .inr h
def dj {p:Hb}{o:HO}(hp:Wr H p):Ext K A H A (bO H p o):=#[λ_ _ h=>h,λ_ _ h=>qB hp h,λ_ _ _ h=>by rw[aI (hp.ne_frz h)]; exact h]
def dU {p:Hb}{o:HO}(hp:H p=td):Ext K A H (A++[p]) (bO H p o):=
 #[λi a h=>by rw[HV (Hm.mp h).1]; exact h,λ_ _ h=>qB (.inl hp) h,λ_ _ _ h=>by rw[aI (Wr.ne_frz (.inl hp) h)]; exact h]
def ObjRel.keep {p a:Hb}{o:HO}{b:O}(hp:Wr H p)(hne:b.mut=true->a≠p)(e:Ext K A H A' (bO H p o))(h:ObjRel wd K A H a b):ObjRel wd K A' (bO H p o) a b:=by
 cases b with
 | lst ws=>
  obtain⟨vs,q,r⟩:=h;exact#[vs,by rw[aI (hne rfl)]; exact q,r.mono e]
 | fro ws=>
  obtain⟨vs,q,r⟩:=h;exact#[vs,ur hp q,r.mono e]
 | rng lo hi=>
  have h:H a=gV (.rng lo hi):=h;change bO H p o a=gV (.rng lo hi);rw[aI (hp.ne_rng h)];exact h
 | dic U=>
  obtain⟨xs,q,r⟩:=h;exact#[xs,by rw[aI (hne rfl)]; exact q,r.mono e]
 | frd U=>
  obtain⟨ob,xs,q,r⟩:=h;exact#[ob,xs,by rw[aI (hp.ne_frz q)]; exact q,r.mono e]
def ObjRel.there {a:Hb}{b:O}(h:ObjRel wd K A H a b)(hm:b.mut=true):H a≠td:=by
 cases b with
 | lst ws=>obtain⟨vs,q,r⟩:=h; rw[q]; intro z; cases z
 | fro ws=>cases hm
 | rng lo hi=>cases hm
 | dic U=>obtain⟨vs,q,r⟩:=h; rw[q]; intro z; cases z
 | frd ws=>cases hm
def ObjRel.wr {a:Hb}{b:O}(h:ObjRel wd K A H a b)(hm:b.mut=true):Wr H a:=by
 cases b with
 | lst ws=>obtain⟨vs,q,r⟩:=h; exact .lst q
 | fro ws=>cases hm
 | rng lo hi=>cases hm
 | dic U=>obtain⟨vs,q,r⟩:=h; exact .ext q
 | frd ws=>cases hm
def StoreOk.lay {S:aa}{p:Hb}{o:HO}(h:StoreOk wd K A H S)(hp:H p=td):StoreOk wd K A (bO H p o) S:=
 #[h.len,h.nd,λi b a e ea=>(h.obj i b a e ea).keep (.inl hp) (λhm z=>(h.obj i b a e ea).there hm (z ▸ hp)) (dj (.inl hp))]
def StoreOk.pushO {S:aa}{p:Hb}{n:O}{u:HO}(h:StoreOk wd K A H S)(hp:H p=td)(r:ObjRel wd K (A++[p]) (bO H p u) p n):StoreOk wd K (A++[p]) (bO H p u) (S++[n]):=by
 have ex:Ext K A H (A++[p]) (bO H p u):=dU hp;have old:∀ {i:G9} {o:O} {a:Hb},(S++[n])[i]?=gV o->(A++[p])[i]?=gV a->i < S.length->S[i]?=gV o/\A[i]?=gV a:=λ{i o a} e ea hl=>by
  rw[HV hl]at e;rw[HV (h.len ▸ hl)]at ea;exact#[e,ea]
 have new:∀ {i:G9} {o:O} {a:Hb},(S++[n])[i]?=gV o->(A++[p])[i]?=gV a->¬ i < S.length->i=S.length/\o=n/\a=p:=λ{i o a} e ea hl=>by
  have hi:i=S.length:=by
   have:=(Hm.mp e).1;simp at this;omega
  subst hi;simp at e;rw[<- h.len]at ea;simp at ea;exact#[rfl,e.symm,ea.symm]
 show#[by simp[h.len],λi j a o u e1 m1 e2 m2 a1 a2=>?_,λi o a e ea=>?_]
 ·by_cases hi:i < S.length <;> by_cases hj:j < S.length
  ·obtain⟨x1,y1⟩:=old e1 a1 hi;obtain⟨x2,y2⟩:=old e2 a2 hj;exact h.nd i j a o u x1 m1 x2 m2 y1 y2
  ·obtain⟨x1,y1⟩:=old e1 a1 hi;obtain⟨_,_,z⟩:=new e2 a2 hj;subst z;exact absurd hp ((h.obj i o a x1 y1).there m1)
  ·obtain⟨x2,y2⟩:=old e2 a2 hj;obtain⟨_,_,z⟩:=new e1 a1 hi;subst z;exact absurd hp ((h.obj j u a x2 y2).there m2)
  ·rw[(new e1 a1 hi).1,(new e2 a2 hj).1]
 ·by_cases hi:i < S.length
  ·obtain⟨x1,y1⟩:=old e ea hi;exact(h.obj i o a x1 y1).keep (.inl hp) (λhm z=>(h.obj i o a x1 y1).there hm (z ▸ hp)) ex
  ·obtain⟨_,rfl,rfl⟩:=new e ea hi;exact r
def StoreOk.push {S:aa}{p:Hb}{ws:G0 W}{vs:G0 V}(h:StoreOk wd K A H S)(hp:H p=td)(r:RelL K A H ws vs):StoreOk wd K (A++[p]) (bO H p (.lst vs)) (S++[.lst ws]):=
 h.pushO hp #[vs,ba,r.mono (dU hp)]
def StoreOk.writeO {S:aa}{i:G9}{p:Hb}{o0 n:O}{u:HO}(h:StoreOk wd K A H S)(e:S[i]?=gV o0)(m0:o0.mut=true)(ea:A[i]?=gV p)(r:ObjRel wd K A (bO H p u) p n) :
  StoreOk wd K A (bO H p u) (S.set i n)/\Ext K A H A (bO H p u):=by
 have hw:Wr H p:=(h.obj i _ p e ea).wr m0;have ex:Ext K A H A (bO H p u):=dj hw;have hl:i < S.length:=(Hm.mp e).1;show#[#[by simp[h.len],λj k a o u e1 m1 e2 m2 a1 a2=>?_,λj o a e1 a1=>?_],ex]
 ·have get:∀ {j:G9} {o:O},(S.set i n)[j]?=gV o->o.mut=true->∃o',S[j]?=gV o'/\o'.mut=true:=λ{j o} q m=>by
   rw[Jr]at q
   by_cases z:i=j
   ·subst z; exact#[_,e,m0]
   ·rw[HX z]at q; exact#[o,q,m]
  obtain⟨o',x1,m1'⟩:=get e1 m1;obtain⟨u',x2,m2'⟩:=get e2 m2;exact h.nd j k a o' u' x1 m1' x2 m2' a1 a2
 ·rw[Jr]at e1
  by_cases z:i=j
  ·subst z;rw[HE rfl,HE hl]at e1;cases e1;rw[ea]at a1; cases a1
   exact r
  ·rw[HX z]at e1;exact(h.obj j o a e1 a1).keep hw (λhm q=>z (h.nd i j p _ o e m0 e1 hm ea (q ▸ a1))) ex
def StoreOk.write {S:aa}{i:G9}{p:Hb}{ws:G0 W}{us:G0 V}{ws0:G0 W}(h:StoreOk wd K A H S)(e:S[i]?=gV (.lst ws0))(ea:A[i]?=gV p)(r:RelL K A H ws us) :
  StoreOk wd K A (bO H p (.lst us)) (S.set i (.lst ws))/\Ext K A H A (bO H p (.lst us)):=
 h.writeO e rfl ea #[us,ba,r.mono (dj ((h.obj i _ p e ea).wr rfl))]
end
abbrev gG (S:aa)(i:G9):G7 (G0 W):=match S[i]? with
 | some (.lst xs)=>gV xs
 | some (.fro xs)=>gV xs
 | _=>td
abbrev ny (S:aa)(i:G9):G7 (G0 W):=match S[i]? with
 | some (.lst xs)=>gV xs
 | _=>td
abbrev kO (S:aa)(xs:G0 W):G7 (W×aa):=if xs.length<=sizeLine then gV (.ref S.length,S++[.lst xs])else td
abbrev pv (S:aa)(xs:G0 W):G7 (W×aa):=if xs.length<=sizeLine then gV (.tup xs,S)else td
abbrev xZ (j:Hg):HA:=decide (0 < j)&&decide (j < 1073741824)
abbrev r6 (i j:Hg):HA:=(decide (-(2 ^ 64) < i)&&decide (i < 2 ^ 64))||(decide (-(2 ^ 64) < j)&&decide (j < 2 ^ 64))
abbrev Du (i j:Hg):HA:=decide (0<=j)&&decide (j<=1000000)&&decide (i.natAbs < 2 ^ 64)
inductive BOp where|add|sub|mul|fdiv|mod|pow
 deriving Kw
abbrev xw (c:Hg->Hg->HA)(f:Hg->Hg->Hg)(x y:W)(S:aa):G7 (W×aa):=match x,y with
 | .int i,.int j=>if c i j then gV (.int (f i j),S)else td
 | _,_=>td
abbrev ut (x y:W)(S:aa):G7 (W×aa):=match x with
 | .int i=>match y with
  | .int j=>gV (.int (i+j),S)
  | _=>td
 | .str x=>match y with
  | .str y=>if x.length+y.length<=sizeLine then gV (.str (x++y),S)else td
  | _=>td
 | .tup xs=>match y with
  | .tup ys=>pv S (xs++ys)
  | _=>td
 | .ref i=>match y with
  | .ref j=>match ny S i,ny S j with
   | some xs,gV ys=>kO S (xs++ys)
   | _,_=>td
  | _=>td
 | _=>td
abbrev ya (x y:W)(S:aa):G7 (W×aa):=match x with
 | .str x=>match y with
  | .int k=>if k < 2 ^ 24/\-(2 ^ 24)<=k/\x.length*k.toNat<=sizeLine then gV (.str (Qk x k),S)else td
  | _=>td
 | .ref i=>match y with
  | .int k=>match ny S i with
   | some xs=>if k < 2 ^ 24/\-(2 ^ 24)<=k/\xs.length*k.toNat<=sizeLine then kO S (Iq k.toNat xs).flatten else td
   | none=>td
  | _=>td
 | x=>xw r6 (· * ·) x y S
abbrev iD:BOp->W->W->aa->G7 (W×aa)
 | .add,x,y,S=>ut x y S
 | .sub,x,y,S=>xw (λ_ _=>true) (· - ·) x y S
 | .mul,x,y,S=>ya x y S
 | .fdiv,x,y,S=>xw (λ_ j=>xZ j) (· / ·) x y S
 | .mod,x,y,S=>xw (λ_ j=>decide (0 < j)) (· % ·) x y S
 | .pow,x,y,S=>xw Du (λi j=>i ^ j.toNat) x y S
abbrev BOp.py:BOp->NG
 | .add=>.Add|.sub=>.Sub|.mul=>.Mult|.fdiv=>.FloorDiv|.mod=>.Mod|.pow=>.Pow
section
variable (X:Cx)
inductive PostE (J:G0 (Hb×Je))(Y:L2.St)(A:G0 Hb)(H:Hp)(S':aa)(w:W)(u:G4)(s':G5):Prop
 | mk (v:V) (H':Hp) (A':G0 Hb) (i:Inv X J Y H' s') (r:RelV v u) (e:Ext X.K A H A' H') (so:StoreOk X.w X.K A' H' S') (rl:Rel X.K A' H' w v):PostE J Y A H S' w u s'
noncomputable abbrev FE:=Fm->aa->G7 (W×aa)
abbrev LOp (f:G4->G4->Pq G4)(g:W->W->aa->G7 (W×aa)):Prop:=
 ∀(J:G0 (Hb×Je)) (s:G5) (Y:L2.St) (H:Hp) (A:G0 Hb) (S:aa) (x y:W) (a b:V) (u v:G4) (w:W) (S':aa),Inv X J Y H s->StoreOk X.w X.K A H S->
  Rel X.K A H x a->RelV a u->Rel X.K A H y b->RelV b v->g x y S=gV (w,S')->wpAny (model X.prog X.w) X.A (f u v) (PostE X J Y A H S' w) X.xe s
end
section
variable{X:Cx}
def jK {S:aa}{i:G9}{xs:G0 W}(h:ny S i=gV xs):S[i]?=gV (.lst xs):=by
 unfold ny at h;split at h
 ·cases h; assumption
 ·cases h
def en {A:G0 Hb}{H:Hp}{S:aa}{i:G9}{xs:G0 W}{a:Hb}(so:StoreOk X.w X.K A H S)(h:ny S i=gV xs)(ea:A[i]?=gV a):∃vs,H a=gV (.lst vs)/\RelL X.K A H xs vs:=
 so.obj i _ a (jK h) ea
def cC {A:G0 Hb}{H:Hp}{S:aa}{i:G9}{xs:G0 W}{a:Hb}(so:StoreOk X.w X.K A H S)(h:gG S i=gV xs)(ea:A[i]?=gV a):∃vs,SqL X.K H a vs/\RelL X.K A H xs vs:=by
 unfold gG at h;split at h
 ·cases h;obtain⟨vs,q,r⟩:=so.obj i _ a (by assumption) ea
  exact#[vs,.of q,r]
 ·cases h;obtain⟨vs,q,r⟩:=so.obj i _ a (by assumption) ea
  exact#[vs,q.sq,r]
 ·cases h
def jx {S S':aa}{xs:G0 W}{w:W}(h:kO S xs=gV (w,S')):xs.length<=sizeLine/\w=.ref S.length/\S'=S++[.lst xs]:=by
 unfold kO at h;split at h
 ·cases h; exact#[by assumption,rfl,rfl]
 ·cases h
def qC {S S':aa}{xs:G0 W}{w:W}(h:pv S xs=gV (w,S')):xs.length<=sizeLine/\w=.tup xs/\S'=S:=by
 unfold pv at h;split at h
 ·cases h; exact#[by assumption,rfl,rfl]
 ·cases h
def yb {A:G0 Hb}{H:Hp}{S:aa}{ws:G0 W}{vs:G0 V}{Q:VK}{p:Hb}(so:StoreOk X.w X.K A H S)(r:RelL X.K A H ws vs)(hp:H p=td)
  (q:∀v H' A',Ext X.K A H A' H'->StoreOk X.w X.K A' H' (S++[.lst ws])->Rel X.K A' H' (.ref S.length) v->Q v H'):Q (.ref p) (bO H p (.lst vs)):=
 q _ _ (A++[p]) (dU hp) (so.push hp r) (.ref (by rw[<- so.len]; simp))
def yc {A:G0 Hb}{H:Hp}{S:aa}{ws:G0 W}{vs:G0 V}{Q:VK}{p:Hb}(so:StoreOk X.w X.K A H S)(r:RelL X.K A H ws vs)(hp:H p=td)
  (q:∀v H' A',Ext X.K A H A' H'->StoreOk X.w X.K A' H' S->Rel X.K A' H' (.tup ws) v->Q v H'):Q (.ref p) (bO H p (.tup vs)):=
 q _ _ A (dj (.inl hp)) (so.lay hp) (.tup (.of ba) (r.mono (dj (.inl hp))))
abbrev Dv (K:Hl):R2:=λx y H Q=>∃a b xs ys,x=.ref a/\y=.ref b/\SqT K H a xs/\SqT K H b ys/\xs.length+ys.length<=sizeLine/\
 (xs=[]->Q (.ref b) H)/\(ys=[]->Q (.ref a) H)/\(∀p,H p=td->Q (.ref p) (bO H p (.tup (xs++ys))))
def yd:OpR X (binaryOp .Add) (Dv X.K):=by
 intro J s Y H x y v u Q I rx ry h;obtain⟨a,b,xs,ys,rfl,rfl,ha,hb,hz,q0,q1,q2⟩:=h;cases rx;cases ry;obtain⟨its,r1,p1,_⟩:=I.tuple ha;obtain⟨its2,r2,p2,_⟩:=I.tuple hb
 by_cases hx:xs=[]
 ·obtain⟨⟨cls,dd,data,sl⟩,ho,hc,n,hd⟩:=id p1;obtain⟨⟨cls2,dd2,data2,sl2⟩,ho2,hc2,n2,hd2⟩:=id p2;simp only at hc hd hc2 hd2;subst hc hd hc2 hd2;exact NK #[_,ho,rfl] #[_,ho2,rfl] L6 Nc K4 KW (KL _ _)
   (tuple_addW0 a b its.toArray its2.toArray n n2 dd dd2 sl sl2 (by simp[r1.nil_iff.mpr hx])) #[ho,ho2,#[.ref b,H,I,rfl,q0 hx]]
 ·show HT.xO p1 p2 (λz=>hx (r1.nil_iff.mp z)) (λz=>#[.ref a,H,I,rfl,q1 (r2.nil_iff.mp z)]) (λz=>?_) (by rw[<- r1.length,<- r2.length]; exact hz)
  show#[.ref s.heap.objs.size,_,I.laid (t':=s.toks) (o:=.tup (xs++ys)) (λb ob q=>Ha _ q) (Hj _) ?_,rfl,q2 _ (I.hok.fresh (Hj _))]
  exact#[#[by rw[G3]; exact hz,NoD.new _ _ _],_,r1.append r2,M2 _ _]
def RelL.nil_iff {K:Hl}{A:G0 Hb}{H:Hp}{ws:G0 W}{vs:G0 V}(r:RelL K A H ws vs):vs=[]↔ws=[]:=by
 cases r <;> simp
def pA:OpR X (binaryOp .Mult) (λx y H Q=>∃z k,x=.str z/\y=.int k/\MulOk z k/\Q (.str (Qk z k)) H):=by
 intro J s Y H x y v u Q I rx ry h;obtain⟨z,k,rfl,rfl,ok,q⟩:=h;obtain⟨t,rfl⟩:=rx;obtain⟨t',rfl⟩:=ry;exact SB.mul ok λt2 k2=>#[.str _,H,I.tok _,#[_,rfl],q]
def uu {x:Hs}{k:Hg}(h1:k < 16777216)(h2 : -16777216<=k)(h3:x.length*k.toNat<=sizeLine):MulOk x k:=by
 have hs:sizeLine=16777216:=IE;rw[hs]at h3;show#[?_,λa b=>?_,λ_ _=>?_]
 ·rw[Bool.or_eq_false_iff];exact#[HQ ∅,HQ ∅]
 ·have hk:0 < k:=∅
  have e:(x.length:Hg)*k=((x.length*k.toNat:G9):Hg):=by
   rw[Int.natCast_mul,Kc ∅]
  intro hgt;have h4:(2 ^ 63 - 1:Hg) < (x.length:Hg)*k:=(Int.ediv_lt_iff_lt_mul hk).mp hgt;rw[e]at h4;generalize x.length*k.toNat=z at h3 h4;omega
 ·unfold OX;rw[hs];exact HQ ∅
inductive EndV (wd:Ii)(K:Hl)(A:G0 Hb)(H:Hp)(S':aa)(w:W)(v:V)(H':Hp):Prop
 | mk (A':G0 Hb) (e:Ext K A H A' H') (so:StoreOk wd K A' H' S') (r:Rel K A' H' w v):EndV wd K A H S' w v H'
def EndV.here {A:G0 Hb}{H:Hp}{S:aa}{w:W}{v:V}(so:StoreOk X.w X.K A H S)(r:Rel X.K A H w v):EndV X.w X.K A H S w v H:=#[A,.refl,so,r]
def EndV.lst {A:G0 Hb}{H:Hp}{S:aa}{ws:G0 W}{vs:G0 V}{p:Hb}(so:StoreOk X.w X.K A H S)(r:RelL X.K A H ws vs)(hp:H p=td):EndV X.w X.K A H (S++[.lst ws]) (.ref S.length) (.ref p) (bO H p (.lst vs)):=
 yb (Q:=EndV X.w X.K A H (S++[.lst ws]) (.ref S.length)) so r hp λv H' A' a b c=>#[A',a,b,c]
def EndV.tup {A:G0 Hb}{H:Hp}{S:aa}{ws:G0 W}{vs:G0 V}{p:Hb}(so:StoreOk X.w X.K A H S)(r:RelL X.K A H ws vs)(hp:H p=td):EndV X.w X.K A H S (.tup ws) (.ref p) (bO H p (.tup vs)):=
 yc (Q:=EndV X.w X.K A H S (.tup ws)) so r hp λv H' A' a b c=>#[A',a,b,c]
def EP.post {J:G0 (Hb×Je)}{Y:L2.St}{A:G0 Hb}{H:Hp}{S':aa}{w:W}{u:G4}{s':G5}(h:EP X J Y (EndV X.w X.K A H S' w) u s'):PostE X J Y A H S' w u s':=by
 obtain⟨v,H',I',r,A',x,y,z⟩:=h;exact#[v,H',A',I',r,x,y,z]
def OpR.go {f:G4->G4->Pq G4}{r:R2}(h:OpR X f r){J:G0 (Hb×Je)}{Y:L2.St}{A:G0 Hb}{H:Hp}{S':aa}{w:W}{s:G5}{a b:V}{u v:G4}(I:Inv X J Y H s)(ru:RelV a u)(rv:RelV b v)
  (q:r a b H (EndV X.w X.K A H S' w)):wpAny (model X.prog X.w) X.A (f u v) (PostE X J Y A H S' w) X.xe s:=be (h J s Y H a b u v _ I ru rv q) λ_ _=>EP.post
def ye:LOp X (binaryOp .Add) (iD .add):=by
 intro J s Y H A S x y a b u v w S' I so rx ru ry rv e;cases rx with
 | int=>cases ry with
  | int=>cases e; exact OpR.go Bd I ru rv #[_,_,rfl,rfl,.here so .int]
  | _=>cases e
 | str=>cases ry with
  | str=>
   dsimp only[iD,ut]at e;split at e
   ·cases e; exact OpR.go pg I ru rv #[_,_,rfl,rfl,by assumption,.here so .str]
   ·cases e
  | _=>cases e
 | tup h1 r1=>cases ry with
  | tup h2 r2=>
   obtain⟨hl,rfl,rfl⟩:=qC (show pv S _=_ from e)
   rw[G3,r1.length,r2.length]at hl;show OpR.go yd I ru rv #[_,_,_,_,rfl,rfl,h1,h2,hl,λz=>?_,λz=>?_,λp hp=>.tup so (r1.append r2) hp]
   ·have z':=r1.nil_iff.mp z;subst z';exact .here so (.tup h2 r2)
   ·have z':=r2.nil_iff.mp z;subst z';rw[IQ];exact .here so (.tup h1 r1)
  | _=>cases e
 | ref h1=>cases ry with
  | ref h2=>
   dsimp only[iD,ut]at e;split at e
   ·obtain⟨hl,rfl,rfl⟩:=jx e;obtain⟨vs,q1,r1⟩:=en so (by assumption) h1
    obtain⟨us,q2,r2⟩:=en so (by assumption) h2
    rw[G3,r1.length,r2.length]at hl;exact OpR.go Bv I ru rv #[_,_,_,_,rfl,rfl,q1,q2,hl,λp hp=>.lst so (r1.append r2) hp]
   ·cases e
  | _=>cases e
 | _=>cases e
def nI {f:G4->G4->Pq G4}{c:Hg->Hg->HA}{g:Hg->Hg->Hg}{r:R2}(h:OpR X f r)(hr:∀i j H Q,c i j=true->Q (.int (g i j)) H->r (.int i) (.int j) H Q):LOp X f (xw c g):=by
 intro J s Y H A S x y a b u v w S' I so rx ru ry rv e;cases rx with
 | int=>cases ry with
  | int=>
   unfold xw at e;dsimp only at e;split at e
   ·cases e; exact OpR.go h I ru rv (hr _ _ _ _ (by assumption) (.here so .int))
   ·cases e
  | _=>cases e
 | _=>cases e
def yf:LOp X (binaryOp .Sub) (iD .sub):=nI Be λ_ _ _ _ _ q=>#[_,_,rfl,rfl,q]
def yg {i j:Hg}(h:r6 i j=true):CMul i j:=by
 unfold r6 at h;rw[Jc,G8,G8,HM,HM,HM,HM]at h;exact h
def yh:LOp X (binaryOp .Mult) (iD .mul):=by
 have hI:LOp X (binaryOp .Mult) (xw r6 (· * ·)):=nI Bf λ_ _ _ _ h q=>#[_,_,rfl,rfl,yg h,q]
 intro J s Y H A S x y a b u v w S' I so rx ru ry rv e;cases x with
 | str z=>
  cases rx with
  | str=>cases ry with
   | int=>
    dsimp only[iD,ya]at e;split at e
    ·rename_i hc;cases e; exact OpR.go pA I ru rv #[_,_,rfl,rfl,uu ∅ ∅ hc.2.2,.here so .str]
    ·cases e
   | _=>cases e
 | ref z=>
  cases rx with
  | ref h1=>cases ry with
   | int=>
    dsimp only[iD,ya]at e;split at e
    ·split at e
     ·rename_i hc;obtain⟨hl,rfl,rfl⟩:=jx e;obtain⟨vs,q1,r1⟩:=en so (by assumption) h1
      rw[r1.length]at hc;exact OpR.go Bw I ru rv #[_,_,_,rfl,rfl,q1,∅,∅,hc.2.2,λp hp=>.lst so (r1.rep _) hp]
     ·cases e
    ·cases e
   | _=>cases e
 | _=>exact hI _ _ _ _ _ _ _ _ _ _ _ _ _ _ I so rx ru ry rv e
def uw:LOp X (binaryOp .FloorDiv) (iD .fdiv):=nI xJ λ_ _ _ _ h q=>#[_,_,rfl,rfl,by
 unfold xZ at h;rw[G8,HM,HM]at h;exact h,q]
def yi:LOp X (binaryOp .Mod) (iD .mod):=nI Bg λ_ _ _ _ h q=>#[_,_,rfl,rfl,ID h,q]
def yj:LOp X (binaryOp .Pow) (iD .pow):=nI Bh λ_ _ _ _ h q=>#[_,_,rfl,rfl,by
 unfold Du at h;rw[G8,G8,HM,HM,HM]at h;exact#[h.1.1,h.1.2,h.2],q]
def qD (o:BOp):LOp X (binaryOp o.py) (iD o):=by
 cases o
 ·exact ye
 ·exact yf
 ·exact yh
 ·exact uw
 ·exact yi
 ·exact yj
end
abbrev jq (f:W->W->G7 HA):G0 W->G0 W->G7 HA
 | [],[]=>gV true
 | [],_::_=>gV false
 | _::_,[]=>gV false
 | x::xs,y::ys=>match f x y,jq f xs ys with
  | some a,gV b=>gV (a&&b)
  | _,_=>td
abbrev b2 (b:HA):Hg:=if b then 1 else 0
abbrev iJ (S:aa):G9->W->W->G7 HA
 | _,.non,y=>match y with
  | .non=>gV true
  | _=>td
 | _,.bl a,y=>match y with
  | .bl b=>gV (a==b)
  | _=>td
 | _,.int a,y=>match y with
  | .int b=>gV (a==b)
  | _=>td
 | _,.str a,y=>match y with
  | .str b=>gV (a==b)
  | _=>td
 | 0,_,_=>td
 | d+1,.tup xs,y=>match y with
  | .tup ys=>jq (iJ S d) xs ys
  | _=>td
 | d+1,.ref i,y=>match y with
  | .ref j=>match ny S i,ny S j with
   | some xs,gV ys=>if xs.length=ys.length then jq (iJ S d) xs ys else gV false
   | _,_=>td
  | _=>td
section
variable{X:Cx}{J:G0 (Hb×Je)}{Y:L2.St}{H:Hp}{s:G5}{A:G0 Hb}{S:aa}
abbrev RU (K:Hl)(A:G0 Hb)(H:Hp)(w:W)(u:G4):Prop:=∃v,Rel K A H w v/\RelV v u
def qE {ws:G0 W}{vs:G0 V}{us:G0 G4}(r:RelL X.K A H ws vs)(q:Vals vs us):∀(j:G9) (h1:j < ws.length) (h2:j < us.length),RU X.K A H ws[j] us[j]:=by
 induction ws generalizing vs us with
 | nil=>intro j h1; simp at h1
 | cons w ws ih=>
  cases r with
  | cons r1 rr=>
   cases q with
   | cons q1 qq=>
    intro j h1 h2;cases j with
    | zero=>exact#[_,r1,q1]
    | succ j=>exact ih rr qq j (by simpa using h1) (by simpa using h2)
def uy {ws:G0 W}{u:G4}(I:Inv X J Y H s)(h:RU X.K A H (.tup ws) u):∃a its,u=.ref a/\ND s.heap a its/\its.size=ws.length/\ws.length<=sizeLine/\∀(j:G9) (h1:j < ws.length) (h2:j < its.size),RU X.K A H ws[j] its[j]:=by
 obtain⟨v,r,q⟩:=h;cases r with
 | tup sq rl=>
  obtain⟨its,rv,ht,hz⟩:=I.tuple sq;show#[_,its.toArray,q,ht,by rw[Hq,<- rv.length,rl.length],by rw[rl.length]; exact hz,λj h1 h2=>?_]
  have:=qE rl rv j h1 (by simpa using h2)
  simpa using this
def uz {i:G9}{ws:G0 W}{u:G4}(I:Inv X J Y H s)(so:StoreOk X.w X.K A H S)(e:ny S i=gV ws)(h:RU X.K A H (.ref i) u):∃a its,u=.ref a/\A[i]?=gV a/\s.heap.IsList a its/\its.size=ws.length/\ws.length<=sizeLine/\∀(j:G9) (h1:j < ws.length) (h2:j < its.size),RU X.K A H ws[j] its[j]:=by
 obtain⟨v,r,q⟩:=h;cases r with
 | ref ea=>
  obtain⟨vs,hq,rl⟩:=en so e ea;obtain⟨its,rv,ht,hz⟩:=I.list (.of hq);show#[_,its.toArray,q,ea,ht.isList,by rw[Hq,<- rv.length,rl.length],by rw[rl.length]; exact hz,λj h1 h2=>?_]
  have:=qE rl rv j h1 (by simpa using h2)
  simpa using this
def jL {f:W->W->G7 HA}:∀ {xs ys:G0 W} {k:HA},jq f xs ys=gV k->∃e:G9->HA,(∀(j:G9) (h1:j < xs.length) (h2:j < ys.length),f xs[j] ys[j]=gV (e j))/\
  k=((Ho (min xs.length ys.length)).all e&&xs.length==ys.length)
 | [],[],k,h=>#[λ_=>true,λj h1=>by simp at h1,by cases h; rfl]
 | [],_::_,k,h=>#[λ_=>true,λj h1=>by simp at h1,by cases h; simp]
 | _::_,[],k,h=>#[λ_=>true,λj h1 h2=>by simp at h2,by cases h; simp]
 | x::xs,y::ys,k,h=>by
  dsimp only[jq]at h;split at h
  ·rename_i a b ha hb;cases h;obtain⟨e,h1,h2⟩:=jL hb;show#[λj=>match j with|0=>a|j+1=>e j,λj hj1 hj2=>?_,?_]
   ·cases j with
    | zero=>exact ha
    | succ j=>exact h1 j (by simpa using hj1) (by simpa using hj2)
   ·subst h2;simp only[Ih,Nat.add_min_add_right,Mm,HW,K7,ML];congr 2;simp
  ·cases h
def yk (I:Inv X J Y H s)(so:StoreOk X.w X.K A H S):∀(d:G9) {x y:W} {v:V} {k:HA},Rel X.K A H x v->Rel X.K A H y v->iJ S d x y=gV k->k=true:=by
 intro d
 induction d with
 | zero=>
  intro x y v k rx ry e;cases rx with
  | non=>cases ry; cases e; rfl
  | bl=>cases ry; cases e; exact II _
  | int=>cases ry; cases e; exact II _
  | str=>cases ry; cases e; exact II _
  | tup _ _=>cases e
  | ref _=>cases e
 | succ d ih=>
  have lists:∀ {xs ys:G0 W} {vs:G0 V} {k:HA},RelL X.K A H xs vs->RelL X.K A H ys vs->jq (iJ S d) xs ys=gV k->k=true:=by
   intro xs
   induction xs with
   | nil=>
    intro ys vs k r1 r2 e;cases r1; cases r2; cases e; rfl
   | cons x xs ihx=>
    intro ys vs k r1 r2 e;cases r1 with
    | cons p1 q1=>
     cases r2 with
     | cons p2 q2=>
      dsimp only[jq]at e;split at e
      ·rename_i a b ha hb;cases e;rw[ih p1 p2 ha,ihx q1 q2 hb];rfl
      ·cases e
  intro x y v k rx ry e;cases rx with
  | non=>cases ry; cases e; rfl
  | bl=>cases ry; cases e; exact II _
  | int=>cases ry; cases e; exact II _
  | str=>cases ry; cases e; exact II _
  | tup h1 r1=>
   cases ry with
   | tup h2 r2=>
    rw[I.tuple_inj h1 h2]at r1;exact lists r1 r2 e
   | ref ea=>cases e
  | ref ea=>
   cases ry with
   | tup h2 r2=>cases e
   | ref eb=>
    dsimp only[iJ]at e;split at e
    ·rename_i xs ys hx hy;have:=so.nd _ _ _ _ _ (jK hx) rfl (jK hy) rfl ea eb;subst this;rw[hx]at hy; cases hy
     rw[HE rfl]at e;obtain⟨vs,q,r⟩:=en so hx ea;exact lists r r e
    ·cases e
def bg (A:HY):A.in1.units=A.units+1:=rfl
noncomputable abbrev CQ (B:HY)(s:G5)(u v:G4)(k:HA):Prop:=SeqAt.RcAt B s u v k/\SeqAt.RcNeAt B s u v (!k)/\Lf B s u v k
open SeqAt in
def Ae (I:Inv X J Y H s)(so:StoreOk X.w X.K A H S):∀(d:G9) (B:HY) {x y:W} {u v:G4} {k:HA},B.units+d < cLine->RU X.K A H x u->RU X.K A H y v->iJ S d x y=gV k->CQ B s u v k:=by
 have non:∀ {B:HY} {y:W} {u v:G4} {k:HA} {d:G9},RU X.K A H .non u->RU X.K A H y v->iJ S d .non y=gV k->CQ B s u v k:=by
  intro B y u v k d ⟨_,rx,ra⟩ ⟨_,ry,rb⟩ e;cases rx;cases(show u=Ix from ra)
  cases y with
  | non=>
   have e:gV (true)=gV k:=by cases d <;> exact e
   cases e;cases ry;cases(show v=Ix from rb)
   exact#[.none_none,.none_none,.same _]
  | _=>cases d <;> cases e
 have bl:∀ {B:HY} {b:HA} {y:W} {u v:G4} {k:HA} {d:G9},RU X.K A H (.bl b) u->RU X.K A H y v->iJ S d (.bl b) y=gV k->CQ B s u v k:=by
  intro B b y u v k d ⟨_,rx,ra⟩ ⟨_,ry,rb⟩ e;cases rx;cases(show u=JH _ from ra)
  cases y with
  | bl c=>
   have e:gV (b==c)=gV k:=by cases d <;> exact e
   cases e;cases ry;cases(show v=JH _ from rb)
   exact#[.bool_bool _ _,.bool_bool _ _,.bool_bool _ _]
  | _=>cases d <;> cases e
 have int:∀ {B:HY} {b:Hg} {y:W} {u v:G4} {k:HA} {d:G9},RU X.K A H (.int b) u->RU X.K A H y v->iJ S d (.int b) y=gV k->CQ B s u v k:=by
  intro B b y u v k d ⟨_,rx,ra⟩ ⟨_,ry,rb⟩ e;cases rx;obtain⟨t0,rfl⟩ : ∃t,u=L3 _ t:=ra;cases y with
  | int c=>
   have e:gV (b==c)=gV k:=by cases d <;> exact e
   cases e;cases ry;obtain⟨t,rfl⟩ : ∃t,v=L3 _ t:=rb;exact#[.int_int _ _ _ _,.int_int _ _ _ _,.int_int _ _ _ _]
  | _=>cases d <;> cases e
 have str:∀ {B:HY} {b:Hs} {y:W} {u v:G4} {k:HA} {d:G9},RU X.K A H (.str b) u->RU X.K A H y v->iJ S d (.str b) y=gV k->CQ B s u v k:=by
  intro B b y u v k d ⟨_,rx,ra⟩ ⟨_,ry,rb⟩ e;cases rx;obtain⟨t0,rfl⟩ : ∃t,u=L4 _ t:=ra;cases y with
  | str c=>
   have e:gV (b==c)=gV k:=by cases d <;> exact e
   cases e;cases ry;obtain⟨t,rfl⟩ : ∃t,v=L4 _ t:=rb;exact#[.str_str _ _ _ _,.str_str _ _ _ _,.str_str _ _ _ _]
  | _=>cases d <;> cases e
 intro d
 induction d with
 | zero=>
  intro B x y u v k hu rx ry e;cases x with
  | non=>exact non rx ry e
  | bl b=>exact bl rx ry e
  | int b=>exact int rx ry e
  | str b=>exact str rx ry e
  | _=>cases e
 | succ d ih=>
  intro B x y u v k hu rx ry e;have hu0:B.units < cLine:=∅
  have hu1:B.in1.units+d < cLine:=by rw[bg]; omega
  have rx0:=rx;have ry0:=ry;have fin:∀ {a b:Hb},u=.ref a->v=.ref b->RcAt B s u v k->RcNeAt B s u v (!k)->CQ B s u v k:=by
   intro a b ea eb h1 h2;subst ea eb;show#[h1,h2,?_]
   by_cases hab:a=b
   ·subst hab;obtain⟨v1,q1,z1⟩:=rx0;obtain⟨v2,q2,z2⟩:=ry0;have e12:v1=v2:=z1.inj z2;subst e12;have:=yk I so (d+1) q1 q2 e;subst this;exact EqAt.same _
   ·exact EqAt.of_refs hab h1
  cases x with
  | non=>exact non rx ry e
  | bl b=>exact bl rx ry e
  | int b=>exact int rx ry e
  | str b=>exact str rx ry e
  | tup xs=>
   cases y with
   | tup ys=>
    obtain⟨a,its,rfl,ht,hs,_,hi⟩:=uy I rx;obtain⟨b,its2,rfl,ht2,hs2,_,hi2⟩:=uy I ry;obtain⟨f,h1,h2⟩:=jL (show jq (iJ S d) xs ys=gV k from e)
    have he:∀j (h1:j < its.size) (h2:j < its2.size),EqAt B.in1 s its[j] its2[j] (f j):=λj j1 j2=>
     (ih B.in1 hu1 (hi j (hs ▸ j1) j1) (hi2 j (hs2 ▸ j2) j2) (h1 j (hs ▸ j1) (hs2 ▸ j2))).2.2
    rw[<- hs,<- hs2]at h2;subst h2;exact fin rfl rfl (RcAt.tuples ht ht2 hu0 he) (RcNeAt.tuples ht ht2 hu0 he)
   | _=>cases e
  | ref i=>
   cases y with
   | ref j=>
    dsimp only[iJ]at e;split at e
    ·rename_i ws ws2 hw hw2;obtain⟨a,its,rfl,_,hl,hs,_,hi⟩:=uz I so hw rx;obtain⟨b,its2,rfl,_,hl2,hs2,_,hi2⟩:=uz I so hw2 ry;split at e
     ·rename_i hlen;obtain⟨f,h1,h2⟩:=jL e;have he:∀j (h1:j < its.size) (h2:j < its2.size),EqAt B.in1 s its[j] its2[j] (f j):=λj j1 j2=>
       (ih B.in1 hu1 (hi j (hs ▸ j1) j1) (hi2 j (hs2 ▸ j2) j2) (h1 j (hs ▸ j1) (hs2 ▸ j2))).2.2
      have hk:k=(Ho its.size).all f:=by rw[h2,hs,hlen]; simp
      subst hk;exact fin rfl rfl (RcAt.lists hl hl2 (by rw[hs,hs2,hlen]) hu0 he) (RcNeAt.lists hl hl2 (by rw[hs,hs2,hlen]) hu0 he)
     ·rename_i hlen;cases e;have hb:(its.size != its2.size)=true:=by rw[hs,hs2]; simpa using hlen
      exact fin rfl rfl (RcAt.lists_lengths hl hl2 hb hu0) (RcNeAt.lists_lengths hl hl2 hb hu0)
    ·cases e
   | _=>cases e
end
abbrev LtAt (B:HY)(s:G5)(u v:G4)(k:HA):Prop:=
 ∀(prog:HP) (w:Ii) (E:G4->G5->Prop) (Q:G4->G5->Prop),Q (.bool k) s->wpAny (model prog w) B (richCompare .Lt u v) Q E s
inductive LexR (B:HY)(s:G5):G0 G4->G0 G4->HA->Prop
 | nn:LexR B s [] [] false
 | nc {v:G4} {vs:G0 G4}:LexR B s [] (v::vs) true
 | cn {v:G4} {vs:G0 G4}:LexR B s (v::vs) [] false
 | eq {u v:G4} {us vs:G0 G4} {k:HA}:Lf B s u v true->LexR B s us vs k->LexR B s (u::us) (v::vs) k
 | ne {u v:G4} {us vs:G0 G4} {k:HA}:Lf B s u v false->LtAt B s u v k->LexR B s (u::us) (v::vs) k
section
open PySem.SeqAt
open PySem.AutoSeq1 (wpAny_loadPart')
open PySem.MeetsSeq PySem.MeetsSeq2 PySem.MeetsSeq3
def mj (l b:Hb)(items items2:Io G4)(n n2:G9)(dd dd2:G7 Hb)(sl sl2:Io (G7 G4))(k:HA) :
  Meets (Mn.«tuple.__lt__» #[[.ref l,.ref b],[]])
   (λB R s=>s.heap.get? l=gV { cls:=.type "tuple",dict:=dd,data:=.seq items n,slots:=sl }/\s.heap.get? b=gV { cls:=.type "tuple",dict:=dd2,data:=.seq items2 n2,slots:=sl2 }/\
    LexR B.in1 s items.toList items2.toList k/\R (.ok (.ret (.bool k))) s):=
 .of_wp λprog w A R s h=>by
  obtain⟨hp,g,d,tk,os⟩:=s; obtain⟨hl,hb,hx,h⟩:=h
  have f2:=O6;have z1:items.toList.length=items.size:=by simp
  have z2:items2.toList.length=items2.size:=by simp
  wp_walk using KP hl,KP hb,L7 _ (λcz b s'=>b.1=td/\s'=#[hp,g,d,tk,os]/\∃(vs ws:G0 G4),cz=vs.zip ws/\
   LexR A.in1 #[hp,g,d,tk,os] vs ws k/\vs.length+items2.size=ws.length+items.size) _
  case turn=>
   rintro⟨y,x⟩ cz b s' ⟨hb',rfl,vs,ws,hz,hlx,hlen⟩;cases hlx with
   | nn=>rw[NQ]at hz; cases hz
   | nc=>rw[NQ]at hz; cases hz
   | cn=>rw[List.zip_nil_right]at hz; cases hz
   | eq he hr=>
    rw[Kj]at hz;injection hz with hyx hrest
    injection hyx with hy hx
    subst hy hx;simp only[Ih]at hlen;show G2 (he prog w _ _ ?_)
    wp_walk
    exact#[rfl,rfl,_,_,hrest,hr,∅]
   | ne he hr=>
    rw[Kj]at hz;injection hz with hyx hrest
    injection hyx with hy hx
    subst hy hx;show G2 (he prog w _ _ ?_);have hri:=hr prog w
    wp_walk using hri
    exact#[_,rfl,by simpa using h]
  case fin=>
   rintro⟨b1,b2⟩ s' ⟨hb',rfl,vs,ws,hz,hlx,hlen⟩;simp only at hb';subst hb';have hv:k=decide (items.size < items2.size):=by
    cases hlx with
    | nn=>simp only[Jk]at hlen; exact(HQ ∅).symm
    | nc=>simp only[Jk,Ih]at hlen; exact(IL ∅).symm
    | cn=>simp only[Jk,Ih]at hlen; exact(HQ ∅).symm
    | eq _ _=>rw[Kj]at hz; cases hz
    | ne _ _=>rw[Kj]at hz; cases hz
   subst hv
   wp_walk
   exact#[_,rfl,by simpa [N1]using h]
  case h=>
   exact#[rfl,rfl,items.toList,items2.toList,rfl,hx,∅]
end
def LtAt.tuples {B:HY}{s:G5}{l b:Hb}{items items2:Io G4}{k:HA}(hl:ND s.heap l items)(hb:ND s.heap b items2)(hu:B.units < cLine)(hx:LexR B.in1 s items.toList items2.toList k) :
  LtAt B s (.ref l) (.ref b) k:=λprog w E Q h=>by
 obtain⟨⟨cls,dd,data,sl⟩,ho,hc,n,hd⟩:=id hl;obtain⟨⟨cls2,dd2,data2,sl2⟩,ho2,hc2,n2,hd2⟩:=id hb;simp only at hc hd hc2 hd2;subst hc hd hc2 hd2;exact richCompare_meets_room (op:=.Lt) #[_,ho,rfl] #[_,ho2,rfl] PySem.F.slot_tuple_lt PySem.F.entry_tuple_lt (PySem.F.args_tuple_lt_2 _ _) (mj l b items items2 n n2 dd dd2 sl sl2 k)
  #[ho,ho2,hx,show JH k≠Value.notImplemented/\Q (.bool k) s from#[(λx=>nomatch x),h]] hu
inductive COp where|eq|ne|lt|le|gt|ge|isin|notin|is|isnot
 deriving Kw
abbrev COp.py:COp->Ol
 | .eq=>.Eq|.ne=>.NotEq|.lt=>.Lt|.le=>.LtE|.gt=>.Gt|.ge=>.GtE|.isin=>.In|.notin=>.NotIn|.is=>.Is|.isnot=>.IsNot
abbrev bX:W->HA
 | .non=>true
 | .bl _=>true
 | .int _=>true
 | .str _=>true
 | _=>false
abbrev nJ:W->W->HA
 | .non,.non=>true
 | .bl a,.bl b=>a==b
 | .bl a,.int b=>b2 a==b
 | .int a,.bl b=>a==b2 b
 | .int a,.int b=>a==b
 | .str a,.str b=>a==b
 | _,_=>false
abbrev fH (S:aa):W->G7 (G0 W)
 | .tup xs=>gV xs
 | .ref i=>gG S i
 | _=>td
noncomputable abbrev fI:G9:=20
abbrev Bx (x y:W)(S:aa):G7 HA:=match fH S y with
 | some ys=>if bX x&&ys.all bX then gV (ys.any λz=>nJ z x)else td
 | none=>td
abbrev r8:W->HA
 | .non=>true
 | _=>false
abbrev uA (f:Hg->Hg->HA):W->W->G7 HA
 | .int i,.int j=>gV (f i j)
 | _,_=>td
abbrev FP:W->W->G7 HA
 | .bl a,.bl b=>gV (a==b)
 | _,_=>td
abbrev r9:COp->W->W->aa->G7 HA
 | .eq,x,y,S=>iJ S fI x y
 | .ne,x,y,S=>(iJ S fI x y).map (!·)
 | .lt,x,y,_=>uA (λi j=>decide (i < j)) x y
 | .le,x,y,_=>uA (λi j=>decide (i<=j)) x y
 | .gt,x,y,_=>uA (λi j=>decide (j < i)) x y
 | .ge,x,y,_=>uA (λi j=>decide (j<=i)) x y
 | .isin,x,y,S=>Bx x y S
 | .notin,x,y,S=>(Bx x y S).map (!·)
 | .is,x,y,_=>if r8 y then gV (r8 x)else FP x y
 | .isnot,x,y,_=>if r8 y then gV (!r8 x)else td
abbrev dF (o:COp)(x y:W)(S:aa):G7 (W×aa):=(r9 o x y S).map λk=>(.bl k,S)
section
variable{X:Cx}
def mn {J:G0 (Hb×Je)}{Y:L2.St}{H:Hp}{s:G5}{A:G0 Hb}{S:aa}{k:HA}(I:Inv X J Y H s)(so:StoreOk X.w X.K A H S):PostE X J Y A H S (.bl k) (.bool k) s:=
 #[.bl k,H,A,I,rfl,.refl,so,.bl]
def ym {o:COp}{x y w:W}{S S':aa}(h:dF o x y S=gV (w,S')):∃k,r9 o x y S=gV k/\w=.bl k/\S'=S:=by
 unfold dF at h;rw[G6]at h;obtain⟨k,h1,h2⟩:=h;cases h2;exact#[k,h1,rfl,rfl]
def jM {A:G0 Hb}{H:Hp}{w:W}{v:V}(r:Rel X.K A H w v)(f:bX w=true):gB v=true:=by
 cases r <;> first|rfl|cases f
def iK {A:G0 Hb}{H:Hp}:∀ {ws:G0 W} {vs:G0 V},RelL X.K A H ws vs->ws.all bX=true->vs.all gB=true
 | _,_,.nil,_=>rfl
 | _,_,.cons r t,f=>by
  rw[HW,G8]at f ⊢;exact#[jM r f.1,iK t f.2]
def qF {A:G0 Hb}{H:Hp}{x y:W}{u v:V}(r:Rel X.K A H x u)(q:Rel X.K A H y v)(fx:bX x=true)(fy:bX y=true):xU u v=nJ x y:=by
 cases r <;> cases q <;> first|rfl|cases fx|cases fy
def qG {A:G0 Hb}{H:Hp}{y:W}{v:V}(q:Rel X.K A H y v)(fy:bX y=true):∀ {ws:G0 W} {vs:G0 V},RelL X.K A H ws vs->ws.all bX=true->EY v vs=ws.any λz=>nJ z y
 | _,_,.nil,_=>rfl
 | _,_,.cons r t,f=>by
  rw[HW,G8]at f;have:=qG q fy t f.2;unfold EY at this ⊢;rw[JO,JO,qF r q f.1 fy,this]
def qH {J:G0 (Hb×Je)}{Y:L2.St}{H:Hp}{s:G5}{A:G0 Hb}{S:aa}{y:W}{b:V}{ys:G0 W}(so:StoreOk X.w X.K A H S)(r:Rel X.K A H y b)(e:fH S y=gV ys):∃p vs,b=.ref p/\(SqL X.K H p vs\/SqT X.K H p vs)/\RelL X.K A H ys vs:=by
 cases r with
 | tup h1 r1=>cases e; exact#[_,_,rfl,.inr h1,r1]
 | ref ea=>
  obtain⟨vs,h1,r1⟩:=cC so e ea;exact#[_,vs,rfl,.inl h1,r1]
 | _=>cases e
def uB {neg:HA}{o:Ol}(ho:OpR X (compareOp o) (FH X.K neg)){J:G0 (Hb×Je)}{Y:L2.St}{H:Hp}{s:G5}{A:G0 Hb}{S:aa}{x y:W}{a b:V}{u v:G4}{ys:G0 W}(I:Inv X J Y H s)(so:StoreOk X.w X.K A H S)
  (rx:Rel X.K A H x a) (ru:RelV a u) (ry:Rel X.K A H y b) (rv:RelV b v) (e:fH S y=gV ys) (f:(bX x&&ys.all bX)=true) :
  wpAny (model X.prog X.w) X.A (compareOp o u v) (PostE X J Y A H S (.bl (if neg then !ys.any λz=>nJ z x else ys.any λz=>nJ z x))) X.xe s:=by
 obtain⟨p,vs,rfl,hq,rl⟩:=qH (J:=J) (Y:=Y) (s:=s) so ry e;rw[G8]at f;show OpR.go ho I ru rv #[p,vs,rfl,hq,jM rx f.1,iK rl f.2,?_];rw[qG rx f.1 rl f.2];exact .here so .bl
def gX (hu:X.A.units+fI < cLine)(o:COp):LOp X (compareOp o.py) (dF o):=by
 intro J s Y H A S x y a b u v w S' I so rx ru ry rv e;obtain⟨k,ek,e1,e2⟩:=ym e;subst e1;subst e2;clear e
 rename aa=>S
 have twoI:∀ {f:Hg->Hg->HA},uA f x y=gV k->∃i j,x=.int i/\y=.int j/\k=f i j:=by
  intro f h;cases x with
  | int i=>cases y with
   | int j=>cases h; exact#[i,j,rfl,rfl,rfl]
   | _=>cases h
  | _=>cases h
 have hu1:X.A.units+1 < cLine:=by have:fI=20:=rfl; omega
 have ofSq:∀ {c:HA},Bx x y S=gV c->(∃ys,fH S y=gV ys/\(bX x&&ys.all bX)=true/\c=ys.any λz=>nJ z x):=by
  intro c h;unfold Bx at h;split at h
  ·split at h
   ·cases h; exact#[_,by assumption,by assumption,rfl]
   ·cases h
  ·cases h
 have ofN:∀ {c:HA},(if r8 y then gV c else td)=gV k->y=.non/\k=c:=by
  intro c h;cases y with
  | non=>cases h; exact#[rfl,rfl]
  | _=>cases h
 cases o with
 | eq=>exact(Ae I so fI X.A hu #[a,rx,ru] #[b,ry,rv] ek).1 _ _ _ _ (mn I so)
 | ne=>
  obtain⟨k',h1,rfl⟩:=G6.mp ek;exact(Ae I so fI X.A hu #[a,rx,ru] #[b,ry,rv] h1).2.1 _ _ _ _ (mn I so)
 | lt=>
  obtain⟨i,j,rfl,rfl,rfl⟩:=twoI ek;cases rx; cases ry
  exact OpR.go Dl I ru rv #[_,_,rfl,rfl,.here so .bl]
 | le=>
  obtain⟨i,j,rfl,rfl,rfl⟩:=twoI ek;cases rx; cases ry
  exact OpR.go Dm I ru rv #[_,_,rfl,rfl,.here so .bl]
 | gt=>
  obtain⟨i,j,rfl,rfl,rfl⟩:=twoI ek;cases rx; cases ry
  exact OpR.go Dn I ru rv #[_,_,rfl,rfl,.here so .bl]
 | ge=>
  obtain⟨i,j,rfl,rfl,rfl⟩:=twoI ek;cases rx; cases ry
  exact OpR.go Do I ru rv #[_,_,rfl,rfl,.here so .bl]
 | isin=>
  obtain⟨ys,h1,h2,rfl⟩:=ofSq ek;exact uB (neg:=false) rW I so rx ru ry rv h1 h2
 | notin=>
  obtain⟨c,h,rfl⟩:=G6.mp ek;obtain⟨ys,h1,h2,rfl⟩:=ofSq h;exact uB (neg:=true) md I so rx ru ry rv h1 h2
 | is=>
  cases y with
  | non=>
   have ek:gV (r8 x)=gV k:=ek;cases ek;cases ry;show OpR.go Bk I ru rv #[rfl,?_];cases rx <;> exact .here so .bl
  | bl b'=>
   cases x with
   | bl a'=>
    have ek:gV (a'==b')=gV k:=ek;cases ek;cases rx;cases ry;obtain rfl:u=JH a':=ru;obtain rfl:v=JH b':=rv;show wpAny_is_plain rfl ?_;have e:(JH a'==JH b')=(a'==b'):=by cases a' <;> cases b' <;> rfl
    rw[e];exact mn I so
   | _=>cases ek
  | _=>cases x <;> cases ek
 | isnot=>
  obtain⟨rfl,rfl⟩:=ofN ek;cases ry;show OpR.go xK I ru rv #[rfl,?_];cases rx <;> exact .here so .bl
end
end Mi
namespace HT
open PySem PyProof.Rows
section
variable{prog:HP}{w:Ii}{A:HY}{E:G4->G5->Prop}{s:G5}
def gk {t sl:Hb}{items:Io G4}{vl vu:G4}{lo hi:G7 Hg}{Q:G4->G5->Prop}(ht:ND s.heap t items)(hs:s.heap.IsSliceOf sl vl vu .none)(pl:Lx vl lo)(pu:Lx vu hi)
  (hw:cm items.size 0 lo=0/\cm items.size items.size hi=items.size) (h:Q (.ref t) s):wpAny (model prog w) A (getItem (.ref t) (.ref sl)) Q E s:=by
 obtain⟨os,hos,hcs,hds⟩:=id hs;have hTs:s.TypeIs (.ref sl) "slice":=#[os,hos,hcs];unfold getItem
 try with_reducible show Jb ?_
 first|refine G2 (Hd ?_)|skip
 show G2 (NL ht.typeIs #v[] ?_)
 show G2 (IF (name:=IW "__getitem__") ht.typeIs Jw
  (IR Jw ht.typeIs M6 ?_ (Nq _ _)))
 change wpAny _ _ (Ky (.ref t) >>= _) _ _ s;show G2 (O1 ht ?_);show G2 (Lr hTs ?_);rw[HE #v[]]
 show G2 (eB hs pl pu ?_);have hyes:((((cm items.size 0 lo:G9):Hg)==0&&(1:Hg)==1&&(cm items.size items.size hi - cm items.size 0 lo)==items.size)=true):=by
  rw[hw.1,hw.2];simp
 change wpAny _ _ (if (((cm items.size 0 lo:G9):Hg)==0&&(1:Hg)==1&&(cm items.size items.size hi - cm items.size 0 lo)==items.size)=true then _ else _) _ _ s
 rw[HE hyes];unfold OP;show G2 (G2 (Lr ht.typeIs (Hd ?_)));rw[HE #v[]]
 exact G2 (Mh (G2 (Hd (Hd #[_,rfl,Hd h]))))
end
end HT
namespace Mi
open PySem PySem.Spec PyProof.Rows L2
abbrev sa (x y:W)(S:aa):G7 (W×aa):=match x,y with
 | .tup xs,.int i=>(nE xs i).map λw=>(w,S)
 | .ref r,.int i=>match gG S r with
  | some xs=>(nE xs i).map λw=>(w,S)
  | none=>td
 | .str x,.int i=>if x.length<=sizeLine then(nE x.cps.toList i).map λc=>(.str #[[c].toArray],S)else td
 | _,_=>td
abbrev jr (xs:G0 W)(lo hi:G7 Hg):G0 W:=(xs.drop (HT.cm xs.length 0 lo)).take (HT.cm xs.length xs.length hi - HT.cm xs.length 0 lo)
abbrev fE (x:W)(lo hi:G7 Hg)(S:aa):G7 (W×aa):=match x with
 | .tup xs=>gV (.tup (jr xs lo hi),S)
 | .ref r=>match gG S r with
  | some xs=>gV (.ref S.length,S++[.lst (jr xs lo hi)])
  | none=>td
 | _=>td
abbrev se (o i v:W)(S:aa):G7 aa:=match o,i with
 | .ref r,.int k=>match ny S r with
  | some xs=>match qx xs.length k with
   | some j=>gV (S.set r (.lst (xs.set j v)))
   | none=>td
  | none=>td
 | _,_=>td
section
variable (X:Cx)
abbrev LIx (g:W->W->aa->G7 (W×aa)):Prop:=
 ∀(value slice:HB) (J:G0 (Hb×Je)) (s:G5) (Y:L2.St) (H:Hp) (A:G0 Hb) (S:aa) (x y:W) (a b:V) (u v:G4) (w:W) (S':aa),Inv X J Y H s->StoreOk X.w X.K A H S->
  Rel X.K A H x a->RelV a u->Rel X.K A H y b->RelV b v->g x y S=gV (w,S')->subscripted slice false u v=operate [u,v] (getItem u v)->wpAny (model X.prog X.w) X.A (subscriptTail value slice u v) (PostE X J Y A H S' w) X.xe s
abbrev LSl (g:W->G7 Hg->G7 Hg->aa->G7 (W×aa)):Prop:=
 ∀(J:G0 (Hb×Je)) (s:G5) (Y:L2.St) (H:Hp) (A:G0 Hb) (S:aa) (x:W) (a:V) (v vl vu:G4) (lo hi:G7 Hg) (sl:Hb) (w:W) (S':aa),Inv X J Y H s->StoreOk X.w X.K A H S->
  Rel X.K A H x a->RelV a v->s.heap.IsSliceOf sl vl vu .none->Lx vl lo->Lx vu hi->g x lo hi S=gV (w,S')->
  ∃T id,typeLookup (.type T) "__getitem__" = pure (gV (.builtin id))/\s.TypeIs v T/\wpAny (model X.prog X.w) X.A (getItem v (.ref sl)) (PostE X J Y A H S' w) X.xe s
abbrev LSet (g:W->W->W->aa->G7 aa):Prop:=
 ∀(J:G0 (Hb×Je)) (s:G5) (Y:L2.St) (H:Hp) (A:G0 Hb) (S:aa) (o i x:W) (ao ai ax:V) (uo ui ux:G4) (S':aa),Inv X J Y H s->StoreOk X.w X.K A H S->
  Rel X.K A H o ao->RelV ao uo->Rel X.K A H i ai->RelV ai ui->Rel X.K A H x ax->RelV ax ux->g o i x S=gV S'->
  wpAny (model X.prog X.w) X.A (setItem uo ui ux) (λ_ s'=>∃H' A',Inv X J Y H' s'/\Ext X.K A H A' H'/\StoreOk X.w X.K A' H' S') X.xe s
abbrev LCall (f:G4)(g:G0 W->aa->G7 (W×aa)):Prop:=
 ∀(J:G0 (Hb×Je)) (s:G5) (Y:L2.St) (H:Hp) (A:G0 Hb) (S:aa) (xs:G0 W) (vs:G0 V) (us:G0 G4) (w:W) (S':aa),Inv X J Y H s->StoreOk X.w X.K A H S->
  RelL X.K A H xs vs->Vals vs us->g xs S=gV (w,S')->wpAny (model X.prog X.w) X.A (call f us) (PostE X J Y A H S' w) X.xe s
abbrev lv (id:IN)(g:W->G0 W->aa->G7 (W×aa)):Prop:=
 ∀(J:G0 (Hb×Je)) (s:G5) (Y:L2.St) (H:Hp) (A:G0 Hb) (S:aa) (x:W) (a:V) (u:G4) (xs:G0 W) (vs:G0 V) (us:G0 G4) (w:W) (S':aa),Inv X J Y H s->StoreOk X.w X.K A H S->
  Rel X.K A H x a->RelV a u->RelL X.K A H xs vs->Vals vs us->g x xs S=gV (w,S')->wpAny (model X.prog X.w) X.A (call (.builtin id) (u::us)) (PostE X J Y A H S' w) X.xe s
end
section
variable{X:Cx}{J:G0 (Hb×Je)}{Y:L2.St}{H:Hp}{s:G5}{A:G0 Hb}{S:aa}
def IxR.go {r:R2}(h:IxR X r){S':aa}{w:W}{a b:V}{u v:G4}{value slice:HB}(I:Inv X J Y H s)(ru:RelV a u)(rv:RelV b v)(q:r a b H (EndV X.w X.K A H S' w))(hs:subscripted slice false u v=operate [u,v] (getItem u v)) :
  wpAny (model X.prog X.w) X.A (subscriptTail value slice u v) (PostE X J Y A H S' w) X.xe s:=be (h value slice J s Y H a b u v _ I ru rv q hs) λ_ _=>EP.post
def CallR.go {f:G4}{r:G0 V->Hp->VK->Prop}(h:CallR X f r){S':aa}{w:W}{vs:G0 V}{us:G0 G4}(I:Inv X J Y H s)(rv:Vals vs us)(q:r vs H (EndV X.w X.K A H S' w)) :
  wpAny (model X.prog X.w) X.A (call f us) (PostE X J Y A H S' w) X.xe s:=be (h J s Y H vs us _ I rv q) λ_ _=>EP.post
def MtR.go {id:IN}{r:V->G0 V->Hp->VK->Prop}(h:MtR X id r){S':aa}{w:W}{a:V}{u:G4}{vs:G0 V}{us:G0 G4}(I:Inv X J Y H s)(ru:RelV a u)(rv:Vals vs us)(q:r a vs H (EndV X.w X.K A H S' w)) :
  wpAny (model X.prog X.w) X.A (call (.builtin id) (u::us)) (PostE X J Y A H S' w) X.xe s:=be (h J s Y H a vs u us _ I ru rv q) λ_ _=>EP.post
def qI {xs:G0 W}{vs:G0 V}{i:Hg}{w:W}(r:RelL X.K A H xs vs)(e:nE xs i=gV w):∃v,nE vs i=gV v/\Rel X.K A H w v:=by
 unfold nE at e ⊢;rw[r.length]at e;cases q:qx vs.length i with
 | none=>rw[q]at e; cases e
 | some j=>
  rw[q]at e;obtain⟨v,h1,h2⟩:=r.get (show xs[j]?=gV w from e)
  exact#[v,h1,h2]
def GP (hu:X.A.units+10 < cLine):LIx X sa:=by
 intro value slice J s Y H A S x y a b u v w S' I so rx ru ry rv e hs;cases rx with
 | tup h1 r1=>cases ry with
  | int=>
   (dsimp only[sa]at e; simp only[G6]at e)
   obtain⟨w',e1,e2⟩:=e;cases e2;obtain⟨z,h2,r2⟩:=qI r1 e1;exact IxR.go Br I ru rv #[_,_,_,_,rfl,rfl,h1,h2,.here so r2] hs
  | _=>cases e
 | ref ea=>cases ry with
  | int=>
   dsimp only[sa]at e;split at e
   ·rename_i ws hw;rw[G6]at e;obtain⟨w',e1,e2⟩:=e;cases e2;obtain⟨vs,h1,r1⟩:=cC so hw ea;obtain⟨z,h2,r2⟩:=qI r1 e1;exact IxR.go xS I ru rv #[_,_,_,_,rfl,rfl,h1,h2,.here so r2] hs
   ·cases e
  | _=>cases e
 | str=>cases ry with
  | int=>
   dsimp only[sa]at e;split at e
   ·rw[G6]at e;obtain⟨c,e1,e2⟩:=e;cases e2;exact IxR.go Bs I ru rv #[_,_,_,rfl,rfl,by assumption,e1,.here so .str] hs
   ·cases e
  | _=>cases e
 | _=>cases ry <;> cases e
def mv {xs:G0 W}{vs:G0 V}{lo hi:G7 Hg}(r:RelL X.K A H xs vs):RelL X.K A H (jr xs lo hi) (jI vs lo hi):=by
 unfold jr jI;rw[r.length];exact(r.drop _).take _
def yn:Dr X (λx lo hi H Q=>∃a xs,x=.ref a/\SqT X.K H a xs/\(jI xs lo hi=xs->Q (.ref a) H)/\∀p,H p=td->Q (.ref p) (bO H p (.tup (jI xs lo hi)))):=by
 intro J s Y H x v vl vu lo hi sl Q I rx hs pl pu h;obtain⟨a,xs,rfl,hx,q0,q⟩:=h
 by_cases hw:(HT.cm xs.length 0 lo=0/\HT.cm xs.length xs.length hi=xs.length)
 ·cases rx;obtain⟨its,r,ht,hz⟩:=I.tuple hx;have hlen:its.toArray.size=xs.length:=by rw[Hq]; exact r.length.symm
  show#["tuple",_,PyProof.Rows.slot_tuple_getitem.lookup,ht.typeIs,?_];show HT.gk ht hs pl pu (by rw[hlen]; exact hw) #[.ref a,H,I,rfl,q0 ?_]
  unfold jI;rw[hw.1,hw.2];simp
 ·exact Bq J s Y H (.ref a) v vl vu lo hi sl Q I rx hs pl pu #[a,xs,rfl,hx,hw,q]
def GQ:LSl X fE:=by
 intro J s Y H A S x a v vl vu lo hi sl w S' I so rx rv hs pl pu e;cases rx with
 | tup h1 r1=>
  cases e;obtain⟨T,id,z1,z2,z3⟩:=yn J s Y H _ v vl vu lo hi sl (EndV X.w X.K A H S (.tup (jr _ lo hi))) I rv hs pl pu #[_,_,rfl,h1,λq=>.here so (.tup h1 (by have:=mv (lo:=lo) (hi:=hi) r1; rw[q]at this; exact this)),λp hp=>.tup so (mv r1) hp]
  exact#[T,id,z1,z2,be z3 λ_ _=>EP.post]
 | ref ea=>
  dsimp only[fE]at e;split at e
  ·rename_i ws hw;cases e;obtain⟨vs,h1,r1⟩:=cC so hw ea;obtain⟨T,id,z1,z2,z3⟩:=xT J s Y H _ v vl vu lo hi sl (EndV X.w X.K A H (S++[.lst (jr ws lo hi)]) (.ref S.length)) I rv hs pl pu #[_,_,rfl,h1,λp hp=>.lst so (mv r1) hp]
   exact#[T,id,z1,z2,be z3 λ_ _=>EP.post]
  ·cases e
 | _=>cases e
def lset (hu:X.A.units+10 < cLine):LSet X se:=by
 intro J s Y H A S o i x ao ai ax uo ui ux S' I so ro ruo ri rui rx rux e;cases ro with
 | ref ea=>cases ri with
  | int=>
   dsimp only[se]at e;split at e
   ·rename_i ws hw;split at e
    ·rename_i j hj;cases e;obtain⟨vs,h1,r1⟩:=en so hw ea;rw[r1.length]at hj;obtain⟨so',ex⟩:=so.write (jK hw) ea (r1.set rx j);exact be (ue J s Y H _ _ _ uo ui ux (λH'=>H'=bO H _ (.lst (vs.set j ax))) I ruo rui rux #[_,_,_,_,rfl,rfl,h1,hj,rfl]) λ_ s' #[H',I',e']=>#[_,A,e' ▸ I',ex,so']
    ·cases e
   ·cases e
  | _=>cases e
 | _=>cases ri <;> cases e
abbrev pB (xs:G0 W)(S:aa):G7 (W×aa):=match xs with
 | [.tup ys]=>gV (.int ys.length,S)
 | [.str y]=>if y.length<=sizeLine then gV (.int y.length,S)else td
 | [.ref i]=>(gG S i).map λys=>(.int ys.length,S)
 | _=>td
def sf:LCall X (.builtin "len") pB:=by
 intro J s Y H A S xs vs us w S' I so rl rv e;cases rl with
 | nil=>cases e
 | cons r t=>
  cases t with
  | cons _ _=>cases r <;> cases e
  | nil=>
   cases r with
   | tup h1 r1=>cases e; rw[r1.length]; exact CallR.go jF I rv #[_,_,rfl,.inr #[_,h1,rfl],.here so .int]
   | str=>
    dsimp only[pB]at e;split at e
    ·cases e; exact CallR.go jF I rv #[_,_,rfl,#[by assumption,rfl],.here so .int]
    ·cases e
   | ref ea=>
    (dsimp only[pB]at e; simp only[G6]at e)
    obtain⟨ws,hw,e2⟩:=e;cases e2;obtain⟨vs',h1,r1⟩:=cC so hw ea;rw[r1.length];exact CallR.go jF I rv #[_,_,rfl,.inl #[_,h1,rfl],.here so .int]
   | _=>cases e
abbrev gD (xs:G0 W)(S:aa):G7 (W×aa):=match xs with
 | [x]=>match fH S x with
  | some ys=>gV (.ref S.length,S++[.lst ys])
  | none=>td
 | _=>td
def gH:LCall X (.type "list") gD:=by
 intro J s Y H A S xs vs us w S' I so rl rv e;cases rl with
 | nil=>cases e
 | cons r t=>
  cases t with
  | cons _ _=>cases e
  | nil=>
   dsimp only[gD]at e;split at e
   ·rename_i ys hy;cases e;obtain⟨p,vs',rfl,hq,r1⟩:=qH (J:=J) (Y:=Y) (s:=s) so r hy;exact CallR.go mf I rv #[p,vs',rfl,hq,λl hl=>.lst so r1 hl]
   ·cases e
abbrev jN (xs:G0 W)(S:aa):G7 (W×aa):=match xs with
 | [.tup ys]=>gV (.tup ys,S)
 | [.ref i]=>match gG S i with
  | some ys=>gV (.tup ys,S)
  | none=>td
 | _=>td
def jd:LCall X (.type "tuple") jN:=by
 intro J s Y H A S xs vs us w S' I so rl rv e;cases rl with
 | nil=>cases e
 | cons r t=>
  cases t with
  | cons _ _=>cases r <;> cases e
  | nil=>
   cases r with
   | tup h1 r1=>cases e; exact CallR.go gC I rv #[_,_,rfl,.inr #[h1,.here so (.tup h1 r1)]]
   | ref ea=>
    dsimp only[jN]at e;split at e
    ·rename_i ys hy;cases e;obtain⟨vs',h1,r1⟩:=cC so hy ea;exact CallR.go gC I rv #[_,_,rfl,.inl #[h1,λl hl=>.tup so r1 hl]]
    ·cases e
   | _=>cases e
abbrev Dw (xs:G0 W)(S:aa):G7 (W×aa):=match xs with
 | [.int i]=>gV (.int i,S)
 | [.bl b]=>gV (.int (if b then 1 else 0),S)
 | _=>td
def sg:LCall X (.type "int") Dw:=by
 intro J s Y H A S xs vs us w S' I so rl rv e;cases rl with
 | nil=>cases e
 | cons r t=>
  cases t with
  | cons _ _=>cases r <;> cases e
  | nil=>
   cases r with
   | int=>cases e; exact CallR.go kZ I rv (.inl #[_,rfl,.here so .int])
   | bl=>cases e; exact CallR.go kZ I rv (.inr #[_,rfl,.here so .int])
   | _=>cases e
abbrev gY (x:W)(xs:G0 W)(S:aa):G7 (W×aa):=match x,xs with
 | .ref i,[y]=>match ny S i with
  | some ys=>if ys.length < sizeLine then gV (.non,S.set i (.lst (ys++[y])))else td
  | none=>td
 | _,_=>td
def iL {i:G9}{p:Hb}{ws ws0:G0 W}{us:G0 V}(so:StoreOk X.w X.K A H S)(e:ny S i=gV ws0)(ea:A[i]?=gV p)(r:RelL X.K A H ws us){w:W}{v:V}(rw':Rel X.K A H w v) :
  EndV X.w X.K A H (S.set i (.lst ws)) w v (bO H p (.lst us)):=by
 obtain⟨so',ex⟩:=so.write (jK e) ea r;exact#[A,ex,so',rw'.mono ex]
def mw:lv X "list.append" gY:=by
 intro J s Y H A S x a u xs vs us w S' I so rx ru rl rv e;cases rx with
 | ref ea=>
  cases rl with
  | nil=>cases e
  | cons r t=>
   cases t with
   | cons _ _=>cases e
   | nil=>
    dsimp only[gY]at e;split at e
    ·rename_i ys hy;split at e
     ·rename_i hl;cases e;obtain⟨vs',h1,r1⟩:=en so hy ea;rw[r1.length]at hl;exact MtR.go rX I ru rv #[_,_,_,rfl,rfl,h1,hl,iL so hy ea (r1.append #v[r]) .non]
     ·cases e
    ·cases e
 | _=>cases e
abbrev gZ (x:W)(xs:G0 W)(S:aa):G7 (W×aa):=match x,xs with
 | .ref i,[.ref j]=>match ny S i,ny S j with
  | some ys,gV zs=>if ys.length+zs.length<=sizeLine then gV (.non,S.set i (.lst (ys++zs)))else td
  | _,_=>td
 | _,_=>td
def my:lv X "list.extend" gZ:=by
 intro J s Y H A S x a u xs vs us w S' I so rx ru rl rv e;cases rx with
 | ref ea=>
  cases rl with
  | nil=>cases e
  | cons r t=>
   cases t with
   | cons _ _=>cases r <;> cases e
   | nil=>
    cases r with
    | ref eb=>
     dsimp only[gZ]at e;split at e
     ·rename_i ys zs hy hz;split at e
      ·rename_i hl;cases e;obtain⟨vs',h1,r1⟩:=en so hy ea;obtain⟨vs2,h2,r2⟩:=en so hz eb;rw[r1.length,r2.length]at hl;exact MtR.go rY I ru rv #[_,_,_,_,rfl,rfl,h1,h2,hl,iL so hy ea (r1.append r2) .non]
      ·cases e
     ·cases e
    | _=>cases e
 | _=>cases e
abbrev yo (x:W)(xs:G0 W)(S:aa):G7 (W×aa):=match x,xs with
 | .ref i,[.int k]=>match ny S i with
  | some ys=>if -(2 ^ 63)<=k/\k < 2 ^ 63 then match seqIndex? k ys.length with
   | some j=>match ys[j]? with
    | some y=>gV (y,S.set i (.lst (ys.eraseIdx j)))
    | none=>td
   | none=>td
   else td
  | none=>td
 | _,_=>td
def sh:lv X "list.pop" yo:=by
 intro J s Y H A S x a u xs vs us w S' I so rx ru rl rv e;cases rx with
 | ref ea=>
  cases rl with
  | nil=>cases e
  | cons r t=>
   cases t with
   | cons _ _=>cases r <;> cases e
   | nil=>
    cases r with
    | int=>
     dsimp only[yo]at e;split at e
     ·rename_i ys hy;split at e
      ·rename_i hk;split at e
       ·rename_i j hj;split at e
        ·rename_i y hyj;cases e;obtain⟨vs',h1,r1⟩:=en so hy ea;obtain⟨v',h2,r2⟩:=r1.get hyj;rw[r1.length]at hj;exact MtR.go uh I ru rv #[_,_,_,_,_,rfl,rfl,h1,hk.1,hk.2,hj,h2,iL so hy ea (r1.eraseIdx j) r2]
        ·cases e
       ·cases e
      ·cases e
     ·cases e
    | _=>cases e
 | _=>cases e
def iM {Mqa:Pp}{A:HY}{E:G4->G5->Prop}{s:G5}{β:Type}{m:G9}(f:G9->β->Pq (ForInStep β))(I:G9->β->G5->Prop)(Q:β->G5->Prop)
  (turn:∀i b s,i < m->I i b s->wpAny Mqa A (f i b) (λr s'=>match r with|.yield b'=>I (i+1) b' s'|.done b'=>Q b' s') E s)
  (fin:∀b s,I m b s->Q b s) (b:β) (h:I 0 b s):wpAny Mqa A (forIn [0:m] b f) Q E s:=by
 rw[Std.Legacy.Range.forIn_eq_forIn_range'];simp only[Std.Legacy.Range.size,NR,Nu,Nat.div_one];show L7 _ (λcz b s'=>∃i,i<=m/\cz=Pz i (m - i)/\I i b s') _ ?_ ?_ _ _ #[0,IS _,by simp,h]
 ·rintro x cz b s' ⟨i,hi,hr,hI⟩;have hlt:i < m:=by
   rcases NS i m with h|h
   ·exact h
   ·rw[Nat.sub_eq_zero_of_le h]at hr; simp at hr
  obtain⟨rfl,hrest⟩ : x=i/\cz=Pz (i+1) (m - (i+1)):=by
   have e:m - i=(m - (i+1))+1:=∅
   rw[e,Ob]at hr;injection hr with h1 h2
   exact#[h1,h2]
  show Jn (turn x b s' hlt hI) (λr s2 hr2=>?_) λ_ _ e=>e
  cases r with
  | yield b'=>exact#[x+1,hlt,hrest,hr2]
  | done b'=>exact hr2
 ·rintro b s' ⟨i,hi,hr,hI⟩;have:i=m:=by
   rcases NS i m with h|h
   ·have e:m - i=(m - (i+1))+1:=∅
    rw[e,Ob]at hr; cases hr
   ·omega
  exact fin b s' (this ▸ hI)
open SeqAt in
def kP (l:Hb)(items:Io G4)(n:G9)(dd:G7 Hb)(sl:Io (G7 G4))(x:G4)(e:G4->HA)(j:G9)(hj:j < items.size)
  (hit:e items[j]=true) (hno:∀m (hm:m < items.size),m < j->e items[m]=false) :
  Meets (Mn.«tuple.index» #[[.ref l,x],[]])
   (λA R s=>s.heap.get? l=gV { cls:=.type "tuple",dict:=dd,data:=.seq items n,slots:=sl }/\(∀y,y∈items->EqAt A.in1 s y x (e y))/\R (.ok (.ret (.int j s.toks))) { s with toks:=s.toks+1 }):=
 .of_wp λprog w A R s h=>by
  obtain⟨hp,g,d,tk,os⟩:=s; obtain⟨hl,he,h⟩:=h
  wp_walk using KP hl,iM _ (λi b s'=>b.1=td/\s'=#[hp,g,d,tk,os]/\i<=j) _
  case turn=>
   rintro i b s' hi ⟨hb,rfl,hij⟩;have hi2:i < items.size:=∅
   rw[KD hi2];show G2 (he _ (Array.getElem_mem hi2) prog w _ _ ?_)
   by_cases ej:i=j
   ·subst ej;rw[hit]
    wp_walk
    exact#[_,rfl,h]
   ·rw[hno i hi2 ∅]
    wp_walk
    exact#[rfl,rfl,∅]
  case fin=>
   rintro b s' ⟨hb,rfl,hij⟩;rw[JM]at hij;omega
  case h=>exact#[rfl,rfl,IS _]
def mz {A:G0 Hb}{H:Hp}:∀ {ws:G0 W} {vs:G0 V} {us:G0 G4},RelL X.K A H ws vs->Vals vs us->ws.all bX=true->∀(j:G9) (h:j < us.length) (h':j < ws.length),nF .non us[j]=nJ ws[j] .non
 | _,_,_,.nil,.nil,_,j,h,_=>absurd h (Ow _)
 | _,_,_,.cons r t,.cons q p,f,j,h,h'=>by
  rw[HW,G8]at f;cases j with
  | zero=>exact(pq q (jM r f.1)).trans (qF r .non f.1 rfl)
  | succ j=>exact mz t p f.2 j (Mo h) (Mo h')
abbrev g5 (x:W)(xs:G0 W)(S:aa):G7 (W×aa):=match x,xs with
 | .tup ys,[.non]=>if ys.all bX then(ys.findIdx? λz=>nJ z .non).map λj=>(.int (j:G9),S)else td
 | _,_=>td
def nK:lv X "tuple.index" g5:=by
 intro J s Y H A S x a u xs vs us w S' I so rx ru rl rv e;cases rx with
 | tup hq r1=>
  cases rl with
  | nil=>cases e
  | cons r t=>
   cases t with
   | cons _ _=>cases r <;> cases e
   | nil=>
    cases r with
    | non=>
     dsimp only[g5]at e;split at e
     ·rename_i hf;rw[G6]at e;obtain⟨j,hj,e⟩:=e;cases e;cases ru;obtain⟨u',rfl,q'⟩:=rv.one;cases(show u'=Ix from q')
      obtain⟨its,r2,⟨⟨cls,dd,data,sl⟩,eo,hc,n,hd⟩,hz⟩:=I.tuple hq;dsimp only at hc hd;subst hc hd;have hl:its.length=_:=r2.length.symm.trans r1.length.symm;obtain⟨hj1,hj2,hj3⟩:=JV.mp hj;show Lg LX #[_,eo,rfl] PySem.F.entry_tuple_index (PySem.F.args_tuple_index_2 _ _) (kP _ its.toArray n dd sl .none (nF .non) j (by rw[Hq,hl]; exact hj1) ?_ λm hm h=>?_) #[eo,λy hy=>eC (x:=.non) rfl rfl r2 (iK r1 hf) y (by simpa using hy),#[.int _,H,A,I.tok _,#[_,rfl],.refl,so,.int]]
      ·exact(mz r1 r2 hf j (by rw[hl]; exact hj1) hj1).trans hj2
      ·have hm':m < its.length:=by simpa using hm
       exact(mz r1 r2 hf m hm' (by rw[<- hl]; exact hm')).trans (by simpa using hj3 m h)
     ·cases e
    | _=>cases e
 | _=>cases e
abbrev dc (S:aa):W->G7 HA
 | .non=>gV false
 | .bl b=>gV b
 | .int i=>gV (i != 0)
 | .str y=>if y.length<=sizeLine then gV ((y.length:Hg) != 0)else td
 | .tup xs=>gV (!xs.isEmpty)
 | .ref i=>(gG S i).map λxs=>!xs.isEmpty
def je {ws:G0 W}{vs:G0 V}(r:RelL X.K A H ws vs):(!ws.isEmpty) = !vs.isEmpty:=by cases r <;> rfl
def FQ {x:W}{a:V}{u:G4}{k:HA}{Q:HA->G5->Prop}(I:Inv X J Y H s)(so:StoreOk X.w X.K A H S)(rx:Rel X.K A H x a)(ru:RelV a u)(e:dc S x=gV k)(hq:∀s',Inv X J Y H s'->Q k s') :
  wpAny (model X.prog X.w) X.A (truthy u) Q X.xe s:=by
 show be (Bl J s Y H a u (λb H'=>b=k/\H'=H) I ru #[k,?_,rfl,rfl]) λb s' #[H',I',e1,e2]=>?_
 ·cases rx with
  | non=>cases e; rfl
  | bl=>cases e; rfl
  | int=>cases e; rfl
  | str=>
   simp only[dc]at e;split at e
   ·cases e; exact#[by assumption,rfl]
   ·cases e
  | tup h1 r1=>cases e; exact .inr (.inl #[_,h1,je r1])
  | ref ea=>
   simp only[dc,G6]at e;obtain⟨ws,hw,e2⟩:=e;subst e2;obtain⟨vs,h1,r1⟩:=cC so hw ea;exact .inl #[_,h1,je r1]
 ·subst e1 e2;exact hq s' I'
end
section
variable{α:Type}{prog:HP}{w:Ii}{A:HY}{E:G4->G5->Prop}{s:G5}
def nL:∀ {l:G0 α} {i:G9} (h:i < l.length),(l[i]::l.eraseIdx i).Perm l
 | x::l,0,_=>.refl _
 | x::l,i+1,h=>(Qd _ _ _).trans ((nL (l:=l) (i:=i) (by simpa using h)).cons x)
end
abbrev uC (S:aa)(i:G9):G7 (Hg×Hg):=match S[i]? with
 | some (.rng lo hi)=>gV (lo,hi)
 | _=>td
abbrev mB (xs:G0 W)(S:aa):G7 (W×aa):=match xs with
 | [.int j]=>if -(2 ^ 62)<=j/\j < 2 ^ 62 then gV (.ref S.length,S++[.rng 0 j])else td
 | _=>td
abbrev yp (lo:Hg)(n:G9):G0 W:=(Ho n).map λ(k:G9)=>.int (lo+(k:Hg))
abbrev jf (xs:G0 W)(S:aa):G7 (W×aa):=match xs with
 | [.ref i]=>match uC S i with
  | some (lo,hi)=>if -(2 ^ 62)<=lo/\lo < 2 ^ 62/\-(2 ^ 62)<=hi/\hi < 2 ^ 62/\(hi - lo).toNat<=sizeLine then gV (.ref S.length,S++[.lst (yp lo (hi - lo).toNat)])else td
  | none=>gD [.ref i] S
 | xs=>gD xs S
section
variable{X:Cx}{J:G0 (Hb×Je)}{Y:L2.St}{H:Hp}{s:G5}{A:G0 Hb}{S:aa}
def Inv.drawn (I:Inv X J Y H s)(d:Qc):Inv X J Y H { s with drawn:=d }:=#[I.ok,I.os,I.bare,I.base,I.loc,I.cell,I.free,I.freeC,I.pin,I.hok,I.len]
def nM {h':Iv}{tk:G9}{dr:Qc}{D:Hb}{n:O}{u:HO}(I:Inv X J Y H s)(so:StoreOk X.w X.K A H S)(hk:∀b o,s.heap.get? b=gV o->h'.get? b=gV o)(hD:s.heap.objs.size<=D)(new:ObjOk X.prog X.w (bO H D u) h' D u)
  (r:H D=td->ObjRel X.w X.K (A++[D]) (bO H D u) D n):PostE X J Y A H (S++[n]) (.ref S.length) (.ref D) { s with heap:=h',toks:=tk,drawn:=dr }:=by
 have hn:H D=td:=I.hok.fresh hD;show#[.ref D,_,A++[D],Mi.Inv.drawn (I.laid (a:=D) (o:=u) (t':=tk) hk hD new) dr,rfl,dU hn,so.pushO hn (r hn),.ref ?_];rw[<- so.len]; simp
def mC:∀ {vs:G0 V} {us:G0 G4},vs.length=us.length->(∀(i:G9) v u,vs[i]?=gV v->us[i]?=gV u->L2.RelV v u)->Vals vs us
 | [],[],_,_=>.nil
 | v::vs,u::us,hl,h=>.cons (h 0 v u rfl rfl) (mC (by simpa using hl) λi v u a b=>h (i+1) v u (by simpa using a) (by simpa using b))
 | [],_::_,hl,_=>by cases hl
 | _::_,[],hl,_=>by cases hl
def mD {K:Hl}{lo:Hg}:∀(l:G0 G9),RelL K A H (l.map λ(k:G9)=>W.int (lo+(k:Hg))) (l.map λ(k:G9)=>V.int (lo+(k:Hg)))
 | []=>.nil
 | _::l=>.cons .int (mD l)
def qJ {xs:G0 W}{vs:G0 V}{us:G0 G4}{i:G9}(rl:RelL X.K A H [.ref i] vs)(rv:Vals vs us):∃a,A[i]?=gV a/\us=[.ref a]:=by
 cases rl with
 | cons r t=>
  cases t;cases r with
  | @ref _ a ea=>
   cases rv with
   | cons ru rv=>
    cases rv;obtain rfl:_=Im a:=ru;exact#[a,ea,rfl]
def nN:LCall X (.type "range") mB:=by
 intro J s Y H A S xs vs us w S' I so rl rv e;unfold mB at e;split at e
 ·rename_i j;split at e
  ·rename_i hb;cases e;cases rl with
   | cons r t=>
    cases t;cases r;cases rv with
    | cons ru rv=>
     cases rv;obtain⟨tk,rfl⟩:=ru;exact Ph (nM (dr:=s.drawn) (u:=.rng 0 j) I so (λb o e=>Ha _ e) (Hj _) #[_,_,_,Hv _ rfl] λ_=>ba)
  ·cases e
 ·cases e
def nO (hh:X.A.handled=td):LCall X (.type "list") jf:=by
 intro J s Y H A S xs vs us w S' I so rl rv e;unfold jf at e;split at e
 ·rename_i i;split at e
  ·rename_i lo hi hr;split at e
   ·rename_i hb;cases e;obtain⟨a,ea,rfl⟩:=qJ (xs:=[]) rl rv;obtain⟨b1,b2,b3,b4,b5⟩:=hb;have hH:H a=gV (.rng lo hi):=by
     unfold uC at hr;split at hr
     ·rename_i hx; cases hr; exact so.obj i _ a hx ea
     ·cases hr
    obtain⟨t,u,v,ho⟩:=I.hok a _ hH;have hn:Jo lo hi 1=((hi - lo).toNat:G9):=by rw[Nb]; split <;> omega
    show call_list_range hh ho (Pf b1 b2 b3 b4) hn b5 λh' tk acc c hk hD hacc=>?_
    have hv:Vals ((Ho (hi - lo).toNat).map λ(k:G9)=>V.int (lo+(k:Hg))) acc.toList:=by
     show mC (by rw[G1,HG,HZ,hacc.1]) λi v u e1 e2=>?_
     rw[Hc,G6]at e1;obtain⟨k,e1,rfl⟩:=e1;obtain⟨hk,rfl⟩:=Hm.mp e1;obtain⟨t,rfl⟩:=hacc.2 i u (by rw[<- Jf]; exact e2)
     exact#[t,by simp]
    show nM (dr:=s.drawn) (u:=.lst ((Ho (hi - lo).toNat).map λ(k:G9)=>V.int (lo+(k:Hg)))) I so hk (Hj _) #[by simpa using b5,acc.toList,c,hv,by simpa using hD] λhn=>#[_,ba,?_]
    exact mD _
   ·cases e
  ·exact gH J s Y H A S _ vs us w S' I so rl rv e
 ·exact gH J s Y H A S _ vs us w S' I so rl rv e
end
mutual
inductive IsT (h:Iv):T->G4->Prop
 | int {i:Hg} {t:Qj}:IsT h (.int i) (.int i t)
 | str {x:Hs} {t:Qj}:IsT h (.str x) (.str x t)
 | tup {ks:G0 T} {a:Hb} {o:Je} {items:Io G4} {n:G9}:h.get? a=gV o->o.cls=.type "tuple"->o.data=.seq items n->IsTs h ks items.toList->IsT h (.tup ks) (.ref a)
inductive IsTs (h:Iv):G0 T->G0 G4->Prop
 | nil:IsTs h [] []
 | cons {k:T} {v:G4} {ks:G0 T} {vs:G0 G4}:IsT h k v->IsTs h ks vs->IsTs h (k::ks) (v::vs)
end
mutual
theorem IsT.inj {h:Iv}:∀ {x y:T} {v:G4},IsT h x v->IsT h y v->x=y
 | _,_,_,.int,h2=>by cases h2; rfl
 | _,_,_,.str,h2=>by cases h2; rfl
 | _,_,_,.tup a1 _ d1 t1,h2=>by
  cases h2 with
  | tup a2 _ d2 t2=>
   rw[a1]at a2; cases a2
   rw[d1]at d2; cases d2
   rw[IsTs.inj t1 t2]
theorem IsTs.inj {h:Iv}:∀ {x y:G0 T} {v:G0 G4},IsTs h x v->IsTs h y v->x=y
 | _,_,_,.nil,h2=>by cases h2; rfl
 | _,_,_,.cons a b,h2=>by
  cases h2 with
  | cons c d=>rw[IsT.inj a c,IsTs.inj b d]
end
mutual
theorem IsT.keeps {h h':Iv}{d:Hb}{o:Je}{es:Io JF}{ep:G9}(ho:h.get? d=gV o)(hd:o.data=.dict es ep)(hs:JZ d h h'):∀ {x:T} {v:G4},IsT h x v->IsT h' x v
 | _,_,.int=>.int
 | _,_,.str=>.str
 | _,_,.tup (a:=a) a1 c1 d1 t1=>by
  have hne:a≠d:=by
   rintro rfl;rw[a1]at ho; cases ho
   rw[d1]at hd; cases hd
  exact .tup ((hs.2 a hne).trans a1) c1 d1 (IsTs.keeps ho hd hs t1)
theorem IsTs.keeps {h h':Iv}{d:Hb}{o:Je}{es:Io JF}{ep:G9}(ho:h.get? d=gV o)(hd:o.data=.dict es ep)(hs:JZ d h h'):∀ {x:G0 T} {v:G0 G4},IsTs h x v->IsTs h' x v
 | _,_,.nil=>.nil
 | _,_,.cons a b=>.cons (IsT.keeps ho hd hs a) (IsTs.keeps ho hd hs b)
end
def IsTs.length {h:Iv}:∀ {x:G0 T} {v:G0 G4},IsTs h x v->x.length=v.length
 | _,_,.nil=>rfl
 | _,_,.cons _ b=>by simp[IsTs.length b]
def IsTs.get {h:Iv}:∀ {x:G0 T} {v:G0 G4},IsTs h x v->∀(j:G9) (h1:j < x.length) (h2:j < v.length),IsT h x[j] v[j]
 | _,_,.cons a _,0,_,_=>a
 | _,_,.cons _ b,j+1,h1,h2=>IsTs.get b j (by simpa using h1) (by simpa using h2)
def dW:∀ {ks:G0 T} (j:G9) (h:j < ks.length),(ks[j]).depth<=T.depths ks
 | k::ks,0,_=>by simp only[T.depths,List.getElem_cons_zero]; omega
 | k::ks,j+1,h=>by
  have:=dW (ks:=ks) j (by simpa using h)
  simp only[T.depths,List.getElem_cons_succ]; omega
section
variable{prog:HP}{w:Ii}{E:G4->G5->Prop}
mutual
theorem nP:∀(k:T) (v:G4) (A:HY) (s:G5) (Q:Hg->G5->Prop),IsT s.heap k v->A.units+k.depth < cLine->Q (nH w k) { s with toks:=s.toks+k.draws }->wpAny (model prog w) A (pyHash v) Q E s
 | .int i,_,A,s,Q,x,_,h=>by cases x; exact N2 h
 | .str y,_,A,s,Q,x,_,h=>by cases x; exact N3 h
 | .tup ks,_,A,s,Q,x,hu,h=>by
  cases x with
  | @tup _ a o items n hg hc hd hw=>
   simp only[T.depth]at hu;show PySem.W.pyHash_slot (T:="tuple") #[_,hg,hc] F.slot_tuple_hash F.entry_tuple_hash (F.args_tuple_hash_1 _) (beq_builtin_none _) (.inr ∅) ?_
   change wpAny _ _ (Ky (.ref a) >>= _) _ _ s;show G2 (wpAny_tupleItemsOf hg hd ?_);show G2 ?_;rw[<- Nv];show jO ks items.toList A.in1 s #[] _ hw (by rw[bg]; omega) λb hb=>?_
   change wpAny _ _ (retInt (LH b.toList)) _ _ _;rw[hb];show G2 (On (Hd #[_,_,rfl,?_]))
   simpa [T.draws,O7,nH]using h
theorem jO:∀(ks:G0 T) (vs:G0 G4) (A:HY) (s:G5) (b:Io Hg) (Q:Io Hg->G5->Prop),IsTs s.heap ks vs->A.units+T.depths ks < cLine->
  (∀b',b'.toList=b.toList++jJ w ks->Q b' { s with toks:=s.toks+T.drawss ks })->
  wpAny (model prog w) A (forIn vs b λx r=>do let h <- pyHash x; pure Nw; pure (Jl (r.push h))) Q E s
 | [],_,A,s,b,Q,x,_,h=>by cases x; exact Hd (h b (by simp[jJ]))
 | k::ks,_,A,s,b,Q,x,hu,h=>by
  cases x with
  | cons x1 x2=>
   simp only[T.depths]at hu;rw[Mv];show G2 (G2 (nP k _ A s _ x1 ∅ ?_))
   show G2 (Hd (Hd ?_));show jO ks _ A _ _ Q x2 ∅ λb' hb=>?_
   have:=h b' (by simp[hb,jJ])
   simpa [T.drawss,O7]using this
end
open SeqAt in
def si:∀(d:G9) (x y:T) (u v:G4) (B:HY) (s:G5),x.depth<=d->IsT s.heap x u->IsT s.heap y v->B.units+d < cLine->B.units+y.depth < cLine->EqAt B s u v (decide (x=y))
 | d,.int i,y,_,_,B,s,_,h1,h2,hu,hv=>by
  cases h1;cases h2 with
  | int=>
   rename_i j t2;have:decide (T.int i=T.int j)=(i==j):=by by_cases e:i=j <;> simp[e]
   rw[this]; exact .int_int _ _ _ _
  | str=>rw[HQ (by simp)]; exact .int_str _ _ _ _
  | tup a c dd t=>rw[HQ (by simp)]; exact .int_tuple _ _ #[_,a,c,_,dd] (by simp only[T.depth]at hv; omega)
 | d,.str z,y,_,_,B,s,_,h1,h2,hu,hv=>by
  cases h1;cases h2 with
  | int=>rw[HQ (by simp)]; exact .str_int _ _ _ _
  | str=>
   rename_i z2 t2;have:decide (T.str z=T.str z2)=(z==z2):=by by_cases e:z=z2 <;> simp[e]
   rw[this]; exact .str_str _ _ _ _
  | tup a c dd t=>rw[HQ (by simp)]; exact .str_tuple _ _ #[_,a,c,_,dd] (by simp only[T.depth]at hv; omega)
 | 0,.tup ks,y,_,_,B,s,hd,h1,h2,hu,hv=>by simp[T.depth]at hd
 | d+1,.tup ks,y,_,_,B,s,hd,h1,h2,hu,hv=>by
  have h1':=h1;cases h1 with
  | @tup _ a o items n a1 c1 d1 t1=>
   have hT:s.heap.IsTuple a items:=#[_,a1,c1,_,d1];simp only[T.depth]at hd;cases h2 with
   | int=>rw[HQ (by simp)]; exact .tuple_int _ _ hT ∅
   | str=>rw[HQ (by simp)]; exact .tuple_str _ _ hT ∅
   | @tup ks2 b o2 items2 n2 a2 c2 d2 t2=>
    have hT2:s.heap.IsTuple b items2:=#[_,a2,c2,_,d2]
    by_cases hab:a=b
    ·subst hab;have:T.tup ks=T.tup ks2:=h1'.inj (.tup a2 c2 d2 t2);rw[IL this];exact EqAt.same _
    ·show EqAt.of_refs hab ?_;simp only[T.depth]at hv;have l1:items.size=ks.length:=by rw[<- HZ,t1.length]
     have l2:items2.size=ks2.length:=by rw[<- HZ,t2.length]
     let e:G9->HA:=λj=>if h:j < ks.length/\j < ks2.length then decide (ks[j]'h.1=ks2[j]'h.2)else true
     have he:∀j (h1:j < items.size) (h2:j < items2.size),EqAt B.in1 s items[j] items2[j] (e j):=λj j1 j2=>by
      have g1:=t1.get j (l1 ▸ j1) (by simpa using j1)
      have g2:=t2.get j (l2 ▸ j2) (by simpa using j2)
      have q1:=dW (ks:=ks) j (l1 ▸ j1);have q2:=dW (ks:=ks2) j (l2 ▸ j2);have:=si d _ _ _ _ B.in1 s ∅ g1 g2 (by rw[bg]; omega) (by rw[bg]; omega)
      change EqAt B.in1 s items[j] items2[j] (if h:j < ks.length/\j < ks2.length then decide (ks[j]'h.1=ks2[j]'h.2)else true)
      rw[P4 #[l1 ▸ j1,l2 ▸ j2]]
      simpa using this
     have:=RcAt.tuples hT hT2 ∅ he
     have hk:((Ho (min items.size items2.size)).all e&&items.size==items2.size)=decide (T.tup ks=T.tup ks2):=by
      rw[l1,l2]
      by_cases hl:ks.length=ks2.length
      ·by_cases hq:ks=ks2
       ·subst hq;simp only[JM,II,LY,decide_true,HC,Hu];intro j hj;show(if h:j < ks.length/\j < ks.length then decide (ks[j]'h.1=ks[j]'h.2)else true)=true
        rw[P4 #[hj,hj]]; simp
       ·rw[HQ (by simpa using hq)]
        have:∃j,∃h:j < ks.length,ks[j]≠ks2[j]'(hl ▸ h):=by
         apply LI;intro hn;exact hq (Lh hl λj h1 h2=>LI λz=>hn #[j,h1,z])
        obtain⟨j,hj,hne⟩:=this;rw[Kt];apply Or.inl;rw[NT];show#[j,by rw[Hu,<- hl,JM]; exact hj,?_]
        show ¬ (if h:j < ks.length/\j < ks2.length then decide (ks[j]'h.1=ks2[j]'h.2)else true)=true
        rw[P4 #[hj,hl ▸ hj]]
        simpa using hne
      ·rw[HQ (by simp; intro z; exact hl (by rw[z])),Kt]
       right
       simpa using hl
     rw[hk]at this;exact this
def lA {n:G9}{v:G4}(h:∀a,v≠.ref a):eqIsQuiet n v=pure true:=by
 cases v with
 | ref a=>exact absurd rfl (h a)
 | _=>first|rfl|simp[eqIsQuiet]|(unfold eqIsQuiet; rfl)
def qK:∀(d:G9) (k:T) (v:G4) (A:HY) (s:G5) (Q:HA->G5->Prop),k.depth<=d->IsT s.heap k v->Q true s->wpAny (model prog w) A (eqIsQuiet d v) Q E s
 | d,.int i,_,A,s,Q,_,x,h=>by cases x; rw[lA (λa=>by simp)]; exact Hd h
 | d,.str i,_,A,s,Q,_,x,h=>by cases x; rw[lA (λa=>by simp)]; exact Hd h
 | 0,.tup ks,_,A,s,Q,hd,x,h=>by simp[T.depth]at hd
 | d+1,.tup ks,_,A,s,Q,hd,x,h=>by
  cases x with
  | @tup _ a o items n ho hc hdt hi=>
   simp only[T.depth]at hd;have hT:s.TypeIs (.ref a) "tuple":=#[_,ho,hc];unfold eqIsQuiet;show G2 (wpAny_specialOf hT F.slot_tuple_eq.lookup ?_);change wpAny _ _ (isInstance (.ref a) (.type "tuple") >>= _) _ _ s;show G2 (L8 hT isSubtype_tuple_tuple ?_);simp only[Nf,IP,J1];show G2 (Kz ho hdt ?_);show G2 ?_;change wpAny _ _ (forIn items _ _) _ _ s;rw[<- Nv];show L7 _ (λcz r s'=>r.1=td/\s'=s/\∃kk,IsTs s.heap kk cz/\T.depths kk<=d) _ ?_ ?_ _ _ #[rfl,rfl,ks,hi,∅]
   ·rintro v cz r s' ⟨hr,rfl,kk,hall,hdk⟩;cases hall with
    | cons q1 q2=>
     simp only[T.depths]at hdk;show G2 (qK d _ v _ _ _ ∅ q1 ?_)
     simp only[Nf,IP,J1];exact Hd #[rfl,rfl,_,q2,∅]
   ·rintro⟨r1,r2⟩ s' ⟨hr,rfl,_⟩;simp only at hr;subst hr;exact Hd h
end
abbrev cN (prog:HP)(w:Ii):HeapKind prog w T where
 is:=λh k a=>IsT h k (.ref a)/\k.depth<=bh
 hash:=nH w
 draws:=T.draws
 room:=λA=>A.units+bh < cLine
 inj:=λhx hy=>hx.1.inj hy.1
 keeps:=λx ho hd hs=>#[x.1.keeps ho hd hs,x.2]
 pyHash:=λhu hk h=>nP _ _ _ _ _ hk.1 (by have:=hk.2; omega) h
 eqBool:=λhu hx hy h=>si bh _ _ _ _ _ _ hx.2 hx.1 hy.1 hu (by have:=hy.2; omega) _ _ _ _ h
 quiet:=λhk h=>qK 8 _ _ _ _ _ (by have:=hk.2; unfold bh at this; omega) hk.1 h
abbrev kL (S:aa)(i:G9):G7 (G0 (T×W)):=match S[i]? with
 | some (.dic U)=>gV U
 | some (.frd U)=>gV U
 | _=>td
abbrev nQ (S:aa)(i:G9):G7 (G0 (T×W)):=match S[i]? with
 | some (.dic U)=>gV U
 | _=>td
abbrev bW (U:G0 (T×W))(k:T):G7 W:=(U.find? λp=>decide (p.1=k)).map (·.2)
abbrev gw (U:G0 (T×W))(k:T)(v:W):G0 (T×W):=
 if (U.any λp=>decide (p.1=k))=true then U.map (λp=>if p.1=k then(p.1,v)else p)else U++[(k,v)]
abbrev js (w:W):G7 T:=match W.t w with
 | some k=>if k.isTup=true/\k.depth<=bh then gV k else td
 | none=>td
def dN {w:W}{k:T}(h:js w=gV k):k.w=w/\k.isTup=true/\k.depth<=bh:=by
 unfold js at h;split at h
 ·rename_i k' hk;split at h
  ·rename_i hc;cases h;exact#[W.t_w hk,hc.1,hc.2]
  ·cases h
 ·cases h
def d7 (U:G0 (T×W))(k:T)(v:W):(gw U k v).length<=U.length+1:=by
 unfold gw;split
 ·rw[G1]; omega
 ·rw[G3,Ih,Jk]; omega
section
variable{X:Cx}{J:G0 (Hb×Je)}{Y:L2.St}{H:Hp}{s:G5}{A:G0 Hb}{S:aa}
mutual
theorem mE (I:Inv X J Y H s):∀(k:T) {v:V} {u:G4},Rel X.K A H k.w v->RelV v u->IsT s.heap k u
 | .int i,_,_,r,q=>by
  cases r;obtain⟨t,rfl⟩ : ∃t,_=L3 _ t:=q;exact .int
 | .str x,_,_,r,q=>by
  cases r;obtain⟨t,rfl⟩ : ∃t,_=L4 _ t:=q;exact .str
 | .tup ks,_,_,r,q=>by
  simp only[T.w]at r;cases r with
  | tup sq rl=>
   obtain⟨its,rv,⟨o,h1,h2,n,h3⟩,hz⟩:=I.tuple sq;obtain rfl:_=Im _:=q;exact .tup h1 h2 h3 (fZ I ks rl (by simpa using rv))
theorem fZ (I:Inv X J Y H s):∀(ks:G0 T) {vs:G0 V} {us:G0 G4},RelL X.K A H (T.ws ks) vs->Vals vs us->IsTs s.heap ks us
 | [],_,_,r,q=>by
  simp only[T.ws]at r;cases r; cases q; exact .nil
 | k::ks,_,_,r,q=>by
  simp only[T.ws]at r;cases r with
  | cons r1 r2=>
   cases q with
   | cons q1 q2=>exact .cons (mE I k r1 q1) (fZ I ks r2 q2)
end
def iN (I:Inv X J Y H s){k:T}{b:Hb}(r:Rel X.K A H k.w (.ref b))(hd:k.depth<=bh):(cN X.prog X.w).is s.heap k b:=#[mE I k r rfl,hd]
def g6 {w:W}{k:T}{v:V}{u:G4}(hk:js w=gV k)(r:Rel X.K A H w v)(q:RelV v u):∃b,v=.ref b/\u=.ref b/\Rel X.K A H k.w (.ref b):=by
 obtain⟨h1,h2,h3⟩:=dN hk;subst h1;cases k with
 | tup ks=>
  simp only[T.w]at r;cases r with
  | tup a b=>exact#[_,rfl,q,by simp only[T.w]; exact .tup a b]
 | _=>cases h2
def KRel.is {U:G0 (T×W)}{xs:G0 (T×Hb×G4)}(I:Inv X J Y H s)(r:KRel X.K A H U xs):∀x∈xs,(cN X.prog X.w).is s.heap x.1 x.2.1:=by
 unfold KRel at r
 induction r with
 | nil=>intro x hx; exact nomatch hx
 | @cons p q ps qs h t ih=>
  intro x hx;rcases HF.mp hx with e|hx
  ·subst e;obtain⟨h1,h2,h3,h4,_⟩:=h;rw[h1]at h3 h4;exact iN I h4 h3
  ·exact ih x hx
def KRel.length {U:G0 (T×W)}{xs:G0 (T×Hb×G4)}(r:KRel X.K A H U xs):U.length=xs.length:=LV r
def KRel.val {U:G0 (T×W)}{xs:G0 (T×Hb×G4)}(r:KRel X.K A H U xs)(k:T) :
  (∀w,bW U k=gV w->∃p v,atKey xs k=gV p/\Rel X.K A H w v/\RelV v p.2)/\(bW U k=td->atKey xs k=td):=by
 unfold KRel at r
 induction r with
 | nil=>exact#[λw h=>(nomatch h),λ_=>rfl]
 | @cons p q ps qs h t ih=>
  obtain⟨h1,_,_,_,v,h5,h6⟩:=h
  by_cases e:p.1=k
  ·have e':q.1=k:=h1.symm.trans e;have a1:bW (p::ps) k=gV p.2:=by simp[bW,Ko,e]
   have a2:atKey (q::qs) k=gV q.2:=by simp[atKey,Ko,e']
   rw[a1,a2];exact#[λw hw=>(by cases hw; exact#[_,v,rfl,h5,h6]),λh=>nomatch h]
  ·have e':¬ q.1=k:=λz=>e (h1.trans z)
   have a1:bW (p::ps) k=bW ps k:=by simp[bW,Ko,e]
   have a2:atKey (q::qs) k=atKey qs k:=by simp[atKey,Ko,e']
   rw[a1,a2];exact ih
def KRel.repl {U:G0 (T×W)}{xs:G0 (T×Hb×G4)}(r:KRel X.K A H U xs)(k:T){w:W}{v:V}{u:G4}(rw':Rel X.K A H w v)(rv:RelV v u) :
  KRel X.K A H (U.map λp=>if p.1=k then(p.1,w)else p) (xs.map (putAt k u)):=by
 unfold KRel at r ⊢
 induction r with
 | nil=>exact .nil
 | @cons p q ps qs h t ih=>
  rw[IK,IK];show .cons ?_ ih;obtain⟨h1,h2,h3,h4,h5⟩:=h;unfold putAt
  by_cases e:p.1=k
  ·rw[HE e,HE (h1.symm.trans e)]; exact#[h1,h2,h3,h4,v,rw',rv]
  ·rw[HX e,HX (λz=>e (h1.trans z))]; exact#[h1,h2,h3,h4,h5]
def nR (k:T):∀U:G0 (T×W),(U.any λp=>decide (p.1=k))=(bW U k).isSome
 | []=>rfl
 | p::r=>by
  rw[JO]
  by_cases e:p.1=k
  ·have a1:bW (p::r) k=gV p.2:=by simp[bW,Ko,e]
   rw[a1,IL e]; rfl
  ·have a1:bW (p::r) k=bW r k:=by simp[bW,Ko,e]
   rw[a1,HQ e,Ng]; exact nR k r
def KRel.put {U:G0 (T×W)}{xs:G0 (T×Hb×G4)}(r:KRel X.K A H U xs){k:T}{b:Hb}{w:W}{v:V}{u:G4}(h1:k.isTup=true)(h2:k.depth<=bh)(h3:Rel X.K A H k.w (.ref b))(rw':Rel X.K A H w v)(rv:RelV v u) :
  KRel X.K A H (gw U k w) (storedH xs k b u):=by
 have e:(U.any λp=>decide (p.1=k))=(atKey xs k).isSome:=by
  rw[nR];cases q:bW U k with
  | none=>rw[(r.val k).2 q]; rfl
  | some x=>obtain⟨p,_,h,_⟩:=(r.val k).1 x q; rw[h]; rfl
 unfold gw storedH;rw[e]
 by_cases q:(atKey xs k).isSome=true
 ·rw[HE q,HE q]; exact r.repl k rw' rv
 ·rw[HX q,HX q]; exact Paired.snoc r #[rfl,h1,h2,h3,v,rw',rv]
def DicAt.of {h:Iv}{a:Hb}{xs:G0 (T×Hb×G4)}(hz:xs.length<=sizeLine)(hs:(a==sysModules)=false)(d:h.DictOfH (cN X.prog X.w) a xs):DicAt X.w a xs h:=
 let ⟨o,es,ep,h1,h2,h3,h4,_,h6⟩:=d; #[hz,hs,h6,o,es,ep,h1,h2,h3,h4]
def DicAt.stay {wd:Ii}{h h':Iv}{a:Hb}{xs:G0 (T×Hb×G4)}(d:DicAt wd a xs h)(k:∀o,h.get? a=gV o->h'.get? a=gV o):DicAt wd a xs h':=
 let ⟨h0,hs,hn,o,es,ep,h1,h2⟩:=d; #[h0,hs,hn,o,es,ep,k _ h1,h2]
def DicAt.ok {P:HP}{h:Iv}{wd:Ii}{a:Hb}{xs:G0 (T×Hb×G4)}(d:DicAt wd a xs h):ObjOk P wd H h a (dS wd a xs):=
 #[d,let ⟨_,_,_,o,_,_,h1,_⟩:=d; #[o,h1],λ_ _ p k=>p.stay k]
def cw {a:Hb}{xs:G0 (T×Hb×G4)}(I:Inv X J Y H s)(e:Rd H a (dS X.w a xs)):DicAt X.w a xs s.heap:=(show ObjOk X.prog X.w H s.heap a (dS X.w a xs)from e.ok I.hok).1
def DicAt.dict {U:G0 (T×W)}{a:Hb}{xs:G0 (T×Hb×G4)}(d:DicAt X.w a xs s.heap)(I:Inv X J Y H s)(r:KRel X.K A H U xs):s.heap.DictOfH (cN X.prog X.w) a xs:=
 let ⟨_,_,hn,o,es,ep,h1,h2,h3,h4⟩:=d; #[o,es,ep,h1,h2,h3,h4,r.is I,hn]
def fJ {i:G9}{U:G0 (T×W)}{a:Hb}(so:StoreOk X.w X.K A H S)(e:kL S i=gV U)(ea:A[i]?=gV a):∃xs,Rd H a (dS X.w a xs)/\KRel X.K A H U xs:=by
 unfold kL at e;split at e
 ·rename_i k h;cases e;obtain⟨xs,q,r⟩:=so.obj i _ a h ea;exact#[xs,.inl q,r]
 ·rename_i k h;cases e;obtain⟨o,xs,q,r⟩:=so.obj i _ a h ea;exact#[xs,.inr #[o,q],r]
 ·cases e
def g7 {i:G9}{U:G0 (T×W)}(e:nQ S i=gV U):S[i]?=gV (.dic U):=by
 unfold nQ at e;split at e
 ·rename_i h; cases e; exact h
 ·cases e
def qL {i:G9}{U:G0 (T×W)}{a:Hb}(so:StoreOk X.w X.K A H S)(e:nQ S i=gV U)(ea:A[i]?=gV a):∃xs,H a=gV (dS X.w a xs)/\KRel X.K A H U xs:=
 so.obj i _ a (g7 e) ea
def nS {B:HY}(hu:B.units+10 < cLine):(cN X.prog X.w).room B.in1:=by
 change B.in1.units+bh < cLine;rw[bg]; unfold bh; omega
abbrev g8 (x y:W)(S:aa):G7 (W×aa):=match x,y with
 | .ref r,.tup ks=>match kL S r,js (.tup ks)with
  | some U,gV k=>(bW U k).map λw=>(w,S)
  | _,_=>td
 | x,y=>sa x y S
def FR (hu:X.A.units+10 < cLine):LIx X g8:=by
 intro value slice J s Y H A S x y a b u v w S' I so rx ru ry rv e hs
 by_cases hxy:∃r ks,x=.ref r/\y=.tup ks
 ·obtain⟨r,ks,rfl,rfl⟩:=hxy;simp only[g8]at e;split at e
  ·rename_i U k hk1 hk2;rw[G6]at e;obtain⟨w',e1,e2⟩:=e;cases e2;cases rx with
   | ref ea=>
    obtain⟨xs,rd,kr⟩:=fJ so hk1 ea;have d:=cw I rd;have dd:=d.dict I kr;obtain⟨bk,rfl,rfl,rk⟩:=g6 hk2 ry rv;obtain⟨p,vv,h1,h2,h3⟩:=(kr.val k).1 _ e1;obtain rfl:u=Im _:=ru;show K5 (x:=p.2) dd.typeIs slot_dict_getitem.lookup
     (wpAny_getItem_heap (Q:=λr s'=>r=p.2/\PostE X J Y A H S w r s') (nS hu) (iN I rk (dN hk2).2.2) dd h1 #[rfl,vv,H,A,I.tok _,h3,.refl,so,h2]) hs
  ·cases e
 ·have:g8 x y S=sa x y S:=by
   cases x <;> cases y <;> first|rfl|exact absurd #[_,_,rfl,rfl] hxy
  rw[this]at e;exact GP hu value slice J s Y H A S x y a b u v w S' I so rx ru ry rv e hs
abbrev jt (o i v:W)(S:aa):G7 aa:=match o,i with
 | .ref r,.tup ks=>match nQ S r,js (.tup ks)with
  | some U,gV k=>if U.length < sizeLine then gV (S.set r (.dic (gw U k v)))else td
  | _,_=>td
 | o,i=>se o i v S
def Dx (hu:X.A.units+10 < cLine):LSet X jt:=by
 intro J s Y H A S o i x ao ai ax uo ui ux S' I so ro ruo ri rui rx rux e
 by_cases hxy:∃r ks,o=.ref r/\i=.tup ks
 ·obtain⟨r,ks,rfl,rfl⟩:=hxy;dsimp only[jt]at e;split at e
  ·rename_i U k hk1 hk2;split at e
   ·rename_i hl;cases e;cases ro with
    | ref ea=>
     obtain⟨xs,hH,kr⟩:=qL so hk1 ea;have d:=cw I (.inl hH);have dd:=d.dict I kr;obtain⟨bk,rfl,rfl,rk⟩:=g6 hk2 ri rui;obtain⟨q1,q2,q3⟩:=dN hk2;obtain rfl:uo=Im _:=ruo;have hz:xs.length<=sizeLine:=by rw[<- kr.length]; omega
     show wpAny_setItem_heap (hsz:=hz) (nS hu) (iN I rk q3) dd λh' dd' hs=>?_
     have kr':=kr.put q2 q3 rk rx rux;have hz':(storedH xs k bk ux).length<=sizeLine:=by
      rw[<- kr'.length];have:=d7 U k x;omega
     have dn:DicAt X.w _ (storedH xs k bk ux) h':=.of hz' d.2.1 dd';obtain⟨so',ex⟩:=so.writeO (g7 hk1) rfl ea (u:=dS X.w _ (storedH xs k bk ux)) (n:=.dic (gw U k x)) #[_,ba,kr'.mono (dj (.ext hH))];exact#[_,A,mh I (by rw[hH]; exact Li) hs (let ⟨q,_,_,hq,_⟩:=dd'; #[q,hq]) dn.ok,ex,so']
   ·cases e
  ·cases e
 ·have:jt o i x S=se o i x S:=by
   cases o <;> cases i <;> first|rfl|exact absurd #[_,_,rfl,rfl] hxy
  rw[this]at e;exact lset hu J s Y H A S o i x ao ai ax uo ui ux S' I so ro ruo ri rui rx rux e
abbrev uD (x:W)(xs:G0 W)(S:aa):G7 (W×aa):=match x,xs with
 | .ref r,[y,z]=>match kL S r,js y with
  | some U,gV k=>gV ((bW U k).getD z,S)
  | _,_=>td
 | _,_=>td
def pE (hu:X.A.units+10 < cLine):lv X "dict.get" uD:=by
 intro J s Y H A S x a u xs vs us w S' I so rx ru rl rv e;cases rx with
 | ref ea=>
  cases rl with
  | nil=>cases e
  | cons r1 t1=>
   cases t1 with
   | nil=>cases e
   | cons r2 t2=>
    cases t2 with
    | cons _ _=>cases e
    | nil=>
     dsimp only[uD]at e;split at e
     ·rename_i U k hk1 hk2;cases e;obtain⟨xs,rd,kr⟩:=fJ so hk1 ea;have d:=cw I rd;have dd:=d.dict I kr;cases rv with
      | cons v1 rv2=>
       cases rv2 with
       | cons v2 rv3=>
        cases rv3;obtain⟨bk,rfl,rfl,rk⟩:=g6 hk2 r1 v1;obtain rfl:u=Im _:=ru;show call_meetsIn MD dd.typeIs PySem.F.entry_dict_get (PySem.F.args_dict_get_3 _ _ _) (meetsH_dict_get_default (cN X.prog X.w) _ bk d.2.1 _) #[nS hu,k,xs,iN I rk (dN hk2).2.2,dd,?_];cases q:bW U k with
        | none=>
         rw[(kr.val k).2 q];exact#[_,H,A,I.tok _,v2,.refl,so,r2]
        | some w'=>
         obtain⟨p,vv,h1,h2,h3⟩:=(kr.val k).1 _ q;rw[h1];exact#[vv,H,A,I.tok _,h3,.refl,so,h2]
     ·cases e
 | _=>cases e
abbrev EZ (x:W)(i:G9)(S:aa):G7 HA:=match W.t x,gG S i with
 | some k,gV ys=>match W.ts ys with
  | some ks=>if k.depth<=bh/\T.depths ks<=bh then gV (decide (k∈ks))else td
  | none=>td
 | _,_=>td
abbrev By (x:W)(ys:G0 W):G7 HA:=match W.t x,W.ts ys with
 | some k,gV ks=>if k.depth<=bh/\T.depths ks<=bh then gV (decide (k∈ks))else td
 | _,_=>td
def mF {h:Iv}:∀ {ks:G0 T} {vs:G0 G4},IsTs h ks vs->∀v∈vs,∃k∈ks,IsT h k v
 | _,_,.cons a b,v,hv=>by
  rcases HF.mp hv with rfl|hv
  ·exact#[_,.head _,a]
  ·obtain⟨k,hk,q⟩:=mF b v hv;exact#[k,.tail _ hk,q]
abbrev xx (h:Iv)(k:T)(v:G4):HA:=@decide (IsT h k v) (KY _)
def pG {h:Iv}{k k':T}{v:G4}(x:IsT h k' v):xx h k v=decide (k'=k):=by
 unfold xx
 by_cases e:k'=k
 ·subst e; simp[x]
 ·have:¬ IsT h k v:=λy=>e (x.inj y)
  simp[e,this]
def mG {h:Iv}{k:T}:∀ {ks:G0 T} {vs:G0 G4},IsTs h ks vs->vs.any (xx h k)=decide (k∈ks)
 | _,_,.nil=>by simp
 | _,_,.cons (k:=k') a b=>by
  rw[JO,pG a,mG b]
  by_cases e:k'=k
  ·simp[e]
  ·have:¬ k=k':=λz=>e z.symm
   simp[e,this]
def jP:∀ {ks:G0 T} {k:T},k∈ks->k.depth<=T.depths ks
 | x::ks,k,h=>by
  simp only[T.depths];rcases HF.mp h with rfl|h
  ·omega
  ·have:=jP h; omega
def uE {x:W}{i:G9}{a b:V}{u v:G4}{c:HA}(hu:X.A.units+10 < cLine)(I:Inv X J Y H s)(so:StoreOk X.w X.K A H S)(rx:Rel X.K A H x a)(ru:RelV a u)(ry:Rel X.K A H (.ref i) b)(rv:RelV b v)(e:EZ x i S=gV c) :
  ∃l its k ks,v=.ref l/\s.heap.IsList l its/\(∀y,y∈its->Lf X.A.in1 s y u (xx s.heap k y))/\its.any (xx s.heap k)=c/\c=decide (k∈(ks:G0 T)):=by
 unfold EZ at e;split at e
 ·rename_i k ys h1 h2;split at e
  ·rename_i ks h3;split at e
   ·rename_i h4;cases e;cases ry with
    | ref ea=>
     obtain⟨vs,g1,g2⟩:=cC so h2 ea;obtain⟨its,rv',p,_⟩:=I.list g1;obtain rfl:v=Im _:=rv;have hT:IsTs s.heap ks its:=fZ I ks ((W.ts_w h3).symm ▸ g2) rv';have hk:IsT s.heap k u:=mE I k ((W.t_w h1).symm ▸ rx) ru;show#[_,its.toArray,k,ks,rfl,p.isList,λy hy=>?_,by rw[Oc]; exact mG hT,rfl]
     obtain⟨k',hk',q⟩:=mF hT y (by simpa using hy)
     rw[pG q];have:=jP hk';have kl:bh=6:=rfl;exact si bh k' k _ _ _ _ ∅ q hk (by rw[bg]; omega) (by rw[bg]; omega)
   ·cases e
  ·cases e
 ·cases e
def yq {x:W}{ys:G0 W}{a b:V}{u v:G4}{c:HA}(hu:X.A.units+10 < cLine)(I:Inv X J Y H s)(rx:Rel X.K A H x a)(ru:RelV a u)(ry:Rel X.K A H (.tup ys) b)(rv:RelV b v)(e:By x ys=gV c) :
  ∃l its k,v=.ref l/\s.heap.IsTuple l its/\(∀y,y∈its->Lf X.A.in1 s y u (xx s.heap k y))/\its.any (xx s.heap k)=c:=by
 unfold By at e;split at e
 ·rename_i k ks h1 h3;split at e
  ·rename_i h4;cases e;cases ry with
   | @tup _ l vs g1 g2=>
    obtain⟨its,rv',p,_⟩:=I.tuple g1;obtain rfl:v=Im _:=rv;have hT:IsTs s.heap ks its:=fZ I ks ((W.ts_w h3).symm ▸ g2) rv';have hk:IsT s.heap k u:=mE I k ((W.t_w h1).symm ▸ rx) ru;show#[_,its.toArray,k,rfl,p,λy hy=>?_,by rw[Oc]; exact mG hT]
    obtain⟨k',hk',q⟩:=mF hT y (by simpa using hy)
    rw[pG q];have:=jP hk';have kl:bh=6:=rfl;exact si bh k' k _ _ _ _ ∅ q hk (by rw[bg]; omega) (by rw[bg]; omega)
  ·cases e
 ·cases e
abbrev aJ (o:COp)(x y:W)(S:aa):G7 (W×aa):=match o,y with
 | .isin,.ref i=>match kL S i with
  | some U=>(js x).map λk=>(.bl (bW U k).isSome,S)
  | none=>match x with
   | .tup xs=>(EZ (.tup xs) i S).map λb=>(.bl (b),S)
   | x=>dF .isin x (.ref i) S
 | .notin,.ref i=>match kL S i with
  | some U=>(js x).map λk=>(.bl (!(bW U k).isSome),S)
  | none=>match x with
   | .tup xs=>(EZ (.tup xs) i S).map λb=>(.bl (!b),S)
   | x=>dF .notin x (.ref i) S
 | .isin,.tup ys=>match x with
  | .tup xs=>(By (.tup xs) ys).map λb=>(.bl b,S)
  | x=>dF .isin x (.tup ys) S
 | o,y=>dF o x y S
def nT (hu:X.A.units+fI < cLine)(o:COp):LOp X (compareOp o.py) (aJ o):=by
 intro J s Y H A S x y a b u v w S' I so rx ru ry rv e;have get:∀ {i:G9} {U:G0 (T×W)} {k:T},y=.ref i->kL S i=gV U->js x=gV k->∃d c xs,v=.ref d/\u=.ref c/\(d==sysModules)=false/\(cN X.prog X.w).is s.heap k c/\s.heap.DictOfH (cN X.prog X.w) d xs/\(bW U k).isSome=(atKey xs k).isSome:=by
  intro i U k hy hk1 hk2;subst hy;cases ry with
  | ref ea=>
   obtain⟨xs,rd,kr⟩:=fJ so hk1 ea;have d:=cw I rd;obtain⟨bk,rfl,rfl,rk⟩:=g6 hk2 rx ru;obtain rfl:v=Im _:=rv;show#[_,bk,xs,rfl,rfl,d.2.1,iN I rk (dN hk2).2.2,d.dict I kr,?_];cases q:bW U k with
   | none=>rw[(kr.val k).2 q]; rfl
   | some w'=>obtain⟨p,_,h1,_⟩:=(kr.val k).1 _ q; rw[h1]; rfl
 have old:dF o x y S=gV (w,S')->wpAny (model X.prog X.w) X.A (compareOp o.py u v) (PostE X J Y A H S' w) X.xe s:=λh=>gX hu o J s Y H A S x y a b u v w S' I so rx ru ry rv h
 have hu':X.A.units+10 < cLine:=by have:fI=20:=rfl; omega
 unfold aJ at e;split at e
 ·split at e
  ·rename_i U hk1;rw[G6]at e;obtain⟨k,hk2,e2⟩:=e;cases e2;obtain⟨d,c,xs,rfl,rfl,q1,q2,q3,q4⟩:=get rfl hk1 hk2;rw[q4];exact wpAny_in_heap (nS hu') q2 q1 q3 #[.bl _,H,A,I.tok _,rfl,.refl,so,.bl]
  ·split at e
   ·rw[G6]at e;obtain⟨c,hc,e⟩:=e;cases e;obtain⟨l,its,k,ks,rfl,p1,p2,p3,_⟩:=uE hu' I so rx ru ry rv hc;show Ou (xx s.heap k) p1 p2 ?_;rw[p3];exact#[.bl _,H,A,I,rfl,.refl,so,.bl]
   ·exact old e
 ·split at e
  ·rename_i U hk1;rw[G6]at e;obtain⟨k,hk2,e2⟩:=e;cases e2;obtain⟨d,c,xs,rfl,rfl,q1,q2,q3,q4⟩:=get rfl hk1 hk2;rw[q4];exact wpAny_notIn_heap (nS hu') q2 q1 q3 #[.bl _,H,A,I.tok _,rfl,.refl,so,.bl]
  ·split at e
   ·rw[G6]at e;obtain⟨c,hc,e⟩:=e;cases e;obtain⟨l,its,k,ks,rfl,p1,p2,p3,_⟩:=uE hu' I so rx ru ry rv hc;show Nr (xx s.heap k) p1 p2 ?_;rw[p3];exact#[.bl _,H,A,I,rfl,.refl,so,.bl]
   ·exact old e
 ·split at e
  ·rw[G6]at e;obtain⟨c,hc,e⟩:=e;cases e;obtain⟨l,its,k,rfl,p1,p2,p3⟩:=yq hu' I rx ru ry rv hc;show N8 (xx s.heap k) p1 p2 ?_;rw[p3];exact#[.bl _,H,A,I,rfl,.refl,so,.bl]
  ·exact old e
 ·exact old e
end
abbrev RawD (d:Hb)(es:Io JF)(ep:G9)(h:Iv):Prop:=∃o,h.get? d=gV o/\o.ExactDict/\o.data=.dict es ep
def RawD.at {d:Hb}{es:Io JF}{ep:G9}{h h':Iv}(x:RawD d es ep h)(e:∀o,h.get? d=gV o->h'.get? d=gV o):RawD d es ep h':=let ⟨o,ho,r⟩:=x; #[o,e _ ho,r]
def RawD.lt {d:Hb}{es:Io JF}{ep:G9}{h:Iv}(x:RawD d es ep h):d < h.objs.size:=let ⟨_,ho,_⟩:=x; Hw ho
def RawD.type {d:Hb}{es:Io JF}{ep:G9}{s:G5}(x:RawD d es ep s.heap):s.TypeIs (.ref d) "dict":=let ⟨o,ho,hc,_⟩:=x; #[o,ho,hc.1]
section
variable{prog:HP}{w:Ii}{A:HY}{E:G4->G5->Prop}{s:G5}{it d:Hb}{i ep:G9}{es:Io JF}
def nU {Q:G4->G5->Prop}(hd:(d==sysModules)=false)(hm:RawD d es ep s.heap)
  (hQ:Q (.ref s.heap.objs.size) { s with heap:=s.heap.push { cls:=.type "dict_keyiterator",data:=.fields [.ref d,.int 0 0,.int es.size 0,.int ep 0].toArray } }):wpAny (model prog w) A (pyIter (.ref d)) Q E s:=by
 have hT:=hm.type;obtain⟨o,ho,hc,hdat⟩:=id hm;show wpAny_pyIter_slot hT F.slot_dict_iter (IR F.slot_dict_iter hT F.entry_dict_iter ?_ (F.args_dict_iter_1 _));unfold Mn.«dict.__iter__» OY;show G2 (G2 (wpAny_notOrdered_dict hT ?_));change wpAny _ _ (pure (Im d)) _ _ s;show Hd ?_;change wpAny _ _ (ME d >>= _) _ _ s;unfold ME;rw[HX (by rw[hd]; exact Ht)]
 show G2 (Hd (G2 (K8 ho hdat (G2 (Mw ho hdat ?_)))));show G2 (Ip (Hd #[_,rfl,"dict_keyiterator",_,#[_,Hv _ rfl,rfl],F.slot_dict_keyiterator_next.lookup,?_]))
 simpa [rawInt]using hQ
def nV {Q:G7 G4->G5->Prop}(hit:s.heap.IsKeyIter it d i es.size ep)(hm:RawD d es ep s.heap)(hi:i < es.size)
  (hQ:∀h',h'.IsKeyIter it d (i+1) es.size ep->JZ it s.heap h'->Q (gV es[i].key) { s with heap:=h' }):wpAny (model prog w) A (pyNext (.ref it)) Q E s:=by
 obtain⟨o,ho,hc,hd⟩:=id hit;obtain⟨od,hod,hcd,hdd⟩:=id hm;unfold pyNext;show G2 (LZ (IF (name:=IW "__next__") hit.typeIs F.slot_dict_keyiterator_next
  (IR F.slot_dict_keyiterator_next hit.typeIs F.entry_dict_keyiterator_next ?_ (F.args_dict_keyiterator_next_1 _))))
 show G2 (Hd (G2 (G2 ?_)))
 first|refine G2 (JD hit.typeIs (Hd ?_))|refine G2 (J7 hit.typeIs (Hd ?_))
 show G2 (OQ ho hd ?_);have hown:Ln "dict_keyiterator" = false:=by decide
 simp only[hown,IP,J1];change wpAny _ _ (if (Im d==Ix)=true then _ else _) _ _ s
 rw[HX (show ¬ ((Im d==Ix)=true)from Ht)]
 show G2 (Hd (G2 (K8 hod hdd ?_)));rw[HX (by simp)]
 show G2 (Hd (G2 (Mw hod hdd ?_)));rw[HX (by simp)]
 show Hd ?_;simp only[show ¬ ((i:Hg) < 0)from by omega,J1,Hr,KD hi]
 show G2 ?_
 first|refine G2 (JD hit.typeIs (Hd ?_))|refine G2 (J7 hit.typeIs (Hd ?_))
 show G2 (MF hit.typeIs ?_);change wpAny _ _ (setField (.ref it) 1 (rawInt ((i:Hg)+1)) >>= _) _ _ s;show G2 (Lz ho hd (by simp) ?_)
 have hit':(s.heap.update it (O8 (·.setIfInBounds 1 (rawInt ((i:Hg)+1))))).IsKeyIter it d (i+1) es.size ep:=
  #[_,JT _ ho (MG (KS hd _)),(NU ..).trans hc,by rw[KS hd]; simp[rawInt]]
 show G2 (Jb ?_);show G2 (MF (s:={ s with heap:=s.heap.update it (O8 (·.setIfInBounds 1 (rawInt ((i:Hg)+1)))) }) hit'.typeIs ?_)
 change wpAny _ _ (pure es[i].key) _ _ _;exact Hd (Hd #[_,rfl,Hd (hQ _ hit' (KG ..))])
def qM {Q:G7 G4->G5->Prop}(hh:A.handled=td)(hit:s.heap.IsKeyIter it d i es.size ep)(hm:RawD d es ep s.heap)(hge:es.size<=i)
  (hQ:∀h',MM it s.heap h'->Q td { s with heap:=h' }):wpAny (model prog w) A (pyNext (.ref it)) Q E s:=by
 obtain⟨o,ho,hc,hd⟩:=id hit;obtain⟨od,hod,hcd,hdd⟩:=id hm;unfold pyNext;show G2 (LZ (IF (name:=IW "__next__") hit.typeIs F.slot_dict_keyiterator_next
  (IR F.slot_dict_keyiterator_next hit.typeIs F.entry_dict_keyiterator_next ?_ (F.args_dict_keyiterator_next_1 _))))
 show G2 (Hd (G2 (G2 ?_)))
 first|refine G2 (JD hit.typeIs (Hd ?_))|refine G2 (J7 hit.typeIs (Hd ?_))
 show G2 (OQ ho hd ?_);have hown:Ln "dict_keyiterator" = false:=by decide
 simp only[hown,IP,J1];change wpAny _ _ (if (Im d==Ix)=true then _ else _) _ _ s
 rw[HX (show ¬ ((Im d==Ix)=true)from Ht)]
 show G2 (Hd (G2 (K8 hod hdd ?_)));rw[HX (by simp)]
 show G2 (Hd (G2 (Mw hod hdd ?_)));rw[HX (by simp)]
 show Hd ?_;simp only[show ¬ ((i:Hg) < 0)from by omega,J1,Hr,Array.getElem?_eq_none hge]
 show G2 ?_
 first|refine G2 (JD hit.typeIs (Hd ?_))|refine G2 (J7 hit.typeIs (Hd ?_))
 change wpAny _ _ (setField (.ref it) 0 .none >>= _) _ _ s;show G2 (Lz ho hd (by simp) ?_)
 change wpAny _ _ (newExc (.type "StopIteration") [] >>= _) _ _ _;show G2 ?_;simp only[newExc,newTuple];show G2 (Ip ?_ (by size_fits))
 show G2 (m:=firstArgMember _ _) (MN (a:=Ix) (by first|rfl|(simp only[firstArgMember]; rfl)) ?_)
 show Ip ?_ (by size_fits)
 simp only[raiseNew];show G2 (O9 ?_);rw[show A.in1.handled=td from hh]
 show G2 (Hd (PC ?_));show G2 (L8 (T:="StopIteration") (b:=true) #[_,Hv _ rfl,rfl] OR ?_);exact Hd (hQ _ (((KG ..).extBut.push _).push _))
def sj (hh:A.handled=td)(I d:Hb)(hne:d≠I)(es:Io JF)(ep:G9) :
  Qe prog w A I [I,d] [I] es.size (λi v=>∃e,es[i]?=gV e/\e.key=v) (λi h=>h.IsKeyIter I d i es.size ep/\RawD d es ep h) where
 sub:=λb hb=>by simp at hb; simp[hb]
 frame:=λ_ _ _ st hk=>#[st.1.at λo e=>hk I (by simp) o e,st.2.at λo e=>hk d (by simp) o e]
 item:=λi s Q E hi st hQ=>
  nV st.1 st.2 hi λh' hit' hs'=>hQ _ h' s.toks #[es[i],by simp[hi],rfl] #[hit',st.2.at λo e=>(hs'.2 d hne).trans e] λb o hb e=>hs'.extBut b o (λh=>hb (by simp[h])) e
 done:=λs Q E st hQ=>qM hh st.1 st.2 (Hj _) λh' he'=>hQ h' s.toks λb o hb e=>he' b o (λh=>hb (by simp[h])) e
 self:=λ_ _ _ _ st hQ=>MO st.1 hQ
def qN (lo:(d==sysModules)=false):MP prog w "dict" d d es.size (λi v=>∃e,es[i]?=gV e/\e.key=v) (RawD d es ep) where
 type:=λ_ hm=>hm.type
 there:=λ_ hm=>#[hm.lt,hm.lt]
 keep:=λ_ _ hm hk=>hm.at λo e=>hk d (.inl rfl) o e
 notList:=by decide
 notTuple:=by decide
 hint:=λ_ _ _ _ hm hq=>PySem.W.kdl_hint_dict hm.type hq
 iter:=λ_ _ hh hm=>#[_,_,(λ_ _ hq=>nU lo hm hq),sj hh _ d (HL hm.lt) es ep,#[#[_,Hv _ rfl,rfl,rfl],hm.at λo e=>Ha _ e]]
def uF {T:IN}{r d S:Hb}{n:G9}{P:G9->G4->Prop}{OK:Iv->Prop}{R:N5->G5->Prop}(K:MP prog w T r d n P OK)(hh:A.handled=td)(hok:OK s.heap)(hn:n<=sizeLine)(hSr:S≠r)(hSd:S≠d)
  (hS:s.heap.get? S=gV { cls:=.type "list",data:=.seq #[] 0 })
  (hR:∀h' tk acc' c',(∀b o,b≠S->s.heap.get? b=gV o->h'.get? b=gV o)->h'.get? S=gV { cls:=.type "list",dict:=td,data:=.seq acc' c',slots:=#[] }->Mp P acc' n->R (.ok (.ret (.ref S))) { s with heap:=h',toks:=tk }) :
  codeAny (model prog w) A (.builtin "list.__iadd__" #[[.ref S,.ref r],[]]) R s:=by
 show Jm F.entry_list_iadd ?_;rw[IZ F.plain_list_iadd _];change wpAny _ A.in1 (JN (.ref S) (.ref r) (.ref S)) _ _ _;exact PySem.W.kdl_extend K hh hok S hSr hSd _ 0 hS hR hn
def nW {T:IN}{r d:Hb}{n:G9}{P:G9->G4->Prop}{OK:Iv->Prop}{Q:G0 G4->G5->Prop}(K:MP prog w T r d n P OK)(hh:A.handled=td)(hok:OK s.heap)(hn:n<=sizeLine)
  (hQ:∀h' tk acc,(∀b o,s.heap.get? b=gV o->h'.get? b=gV o)->s.heap.objs.size<=h'.objs.size->Mp P acc n->Q acc.toList { s with heap:=h',toks:=tk }):wpAny (model prog w) A (collect (.ref r)) Q E s:=by
 unfold collect;show G2 (MQ (Jm F.entry_proto_collect ?_));rw[IZ F.plain_proto_collect _];change wpAny _ A.in1 (newList [] >>= λl=>again (.builtin "list.__iadd__" #[[l,.ref r],[]])) _ _ s
 show G2 (Ip ?_);have hlt:=K.there _ hok;show Hd #[Kq F.plain_list_iadd _,uF (s:={ s with heap:=s.heap.push { cls:=.type "list",data:=.seq ([]:G0 G4).toArray } }) K hh (K.keep _ _ hok λb _ o e=>Ha _ e) hn (J0 hlt.1) (J0 hlt.2) (Hv _ rfl) λh' tk acc' c' hk hS' hacc=>?_]
 change wpAny (model prog w) A (do
   let o <- load s.heap.objs.size
   match o.data with
   | .seq xs _=>pure xs.toList
   | _=>unsupported "internal:collect") Q E { s with heap:=h',toks:=tk }
 show G2 (Nn hS' ?_);exact Hd (hQ h' tk acc' (λb o e=>hk b o (HL (Hw e)) (Ha _ e)) (K1 (Hw hS')) hacc)
end
mutual
def yr:T->T->G7 HA
 | .int a,.int b=>gV (decide (a < b))
 | .str a,.str b=>gV (decide (a.cps.toList < b.cps.toList))
 | .tup xs,.tup ys=>nX xs ys
 | _,_=>td
def nX:G0 T->G0 T->G7 HA
 | [],[]=>gV false
 | [],_::_=>gV true
 | _::_,[]=>gV false
 | x::xs,y::ys=>if x=y then nX xs ys else yr x y
end
mutual
theorem IsT.kept {h h':Iv}(hk:∀b o,o.cls=.type "tuple"->h.get? b=gV o->h'.get? b=gV o):∀ {x:T} {v:G4},IsT h x v->IsT h' x v
 | _,_,.int=>.int
 | _,_,.str=>.str
 | _,_,.tup a1 c1 d1 t1=>.tup (hk _ _ c1 a1) c1 d1 (IsTs.kept hk t1)
theorem IsTs.kept {h h':Iv}(hk:∀b o,o.cls=.type "tuple"->h.get? b=gV o->h'.get? b=gV o):∀ {x:G0 T} {v:G0 G4},IsTs h x v->IsTs h' x v
 | _,_,.nil=>.nil
 | _,_,.cons a b=>.cons (IsT.kept hk a) (IsTs.kept hk b)
end
def Dy {B:HY}{s:G5}{d:G9}(hu:B.units+d < cLine)(hl:∀(x y:T) (u v:G4) (k:HA),x.depth<=d->y.depth<=d->IsT s.heap x u->IsT s.heap y v->yr x y=gV k->LtAt B s u v k) :
  ∀(xs ys:G0 T) (us vs:G0 G4) (k:HA),T.depths xs<=d->T.depths ys<=d->IsTs s.heap xs us->IsTs s.heap ys vs->nX xs ys=gV k->LexR B s us vs k
 | [],[],_,_,k,_,_,h1,h2,e=>by cases h1; cases h2; cases e; exact .nn
 | [],y::ys,_,_,k,_,_,h1,h2,e=>by cases h1; cases h2; cases e; exact .nc
 | x::xs,[],_,_,k,_,_,h1,h2,e=>by cases h1; cases h2; cases e; exact .cn
 | x::xs,y::ys,_,_,k,d1,d2,h1,h2,e=>by
  simp only[T.depths]at d1 d2;cases h1 with
  | cons p1 q1=>
   cases h2 with
   | cons p2 q2=>
    have he:=si d x y _ _ B s ∅ p1 p2 hu ∅
    dsimp only[nX]at e
    by_cases hxy:x=y
    ·rw[HE hxy]at e;rw[IL hxy]at he;exact .eq he (Dy hu hl xs ys _ _ k ∅ ∅ q1 q2 e)
    ·rw[HX hxy]at e;rw[HQ hxy]at he;exact .ne he (hl x y _ _ k ∅ ∅ p1 p2 e)
def Dz:∀(d:G9) (x y:T) (u v:G4) (B:HY) (s:G5) (k:HA),x.depth<=d->y.depth<=d->IsT s.heap x u->IsT s.heap y v->B.units+d < cLine->yr x y=gV k->LtAt B s u v k:=by
 intro d
 induction d with
 | zero=>
  intro x y u v B s k d1 d2 h1 h2 hu e;cases h1 with
  | int=>cases h2 with
   | int=>cases e; exact λprog w E Q h=>(M7 h:wpAny (model prog w) B (compareOp .Lt _ _) Q E s)
   | _=>cases e
  | str=>cases h2 with
   | str=>cases e; exact λprog w E Q h=>(lt_str h:wpAny (model prog w) B (compareOp .Lt _ _) Q E s)
   | _=>cases e
  | tup _ _ _ _=>simp[T.depth]at d1
 | succ d ih=>
  intro x y u v B s k d1 d2 h1 h2 hu e;cases h1 with
  | int=>cases h2 with
   | int=>cases e; exact λprog w E Q h=>(M7 h:wpAny (model prog w) B (compareOp .Lt _ _) Q E s)
   | _=>cases e
  | str=>cases h2 with
   | str=>cases e; exact λprog w E Q h=>(lt_str h:wpAny (model prog w) B (compareOp .Lt _ _) Q E s)
   | _=>cases e
  | tup a1 c1 e1 t1=>cases h2 with
   | tup a2 c2 e2 t2=>
    simp only[T.depth]at d1 d2;have hu1:B.in1.units+d < cLine:=by rw[bg]; omega
    exact LtAt.tuples #[_,a1,c1,_,e1] #[_,a2,c2,_,e2] ∅ (Dy hu1 (λx y u v k q1 q2 q3 q4 q5=>ih x y u v B.in1 s k q1 q2 q3 q4 hu1 q5) _ _ _ _ k ∅ ∅ t1 t2 e)
   | _=>cases e
section
variable{prog:HP}{w:Ii}{A:HY}{R:N5->G5->Prop}{I S:Hb}{fp wr:G0 Hb}{n:G9}{P:G9->G4->Prop}{St:G9->Iv->Prop}{Ok:Iv->Prop}{bt:G9->G9->HA}
abbrev uG (prog:HP)(w:Ii)(A:HY)(P:G9->G4->Prop)(Ok:Iv->Prop)(bt:G9->G9->HA):Prop:=
 ∀i j vi vj (s:G5) (Q:G4->G5->Prop) (E:G4->G5->Prop),Ok s.heap->P i vi->P j vj->Q (.bool (bt i j)) s->wpAny (model prog w) A (richCompare .Lt vi vj) Q E s
def uH (W:Qe prog w A.in1 I fp wr n P St)(hcmp:uG prog w A.in1 P Ok bt)(hSf:S∉fp)(hok:∀h h',Ok h->(∀b o,b∉wr->b≠S->h.get? b=gV o->h'.get? b=gV o)->Ok h') :
  ∀(k j:G9) (s:G5) (vb:G4) (c:G9),n - (j+1)=k->j < n->St (j+1) s.heap->P (argBest bt j) vb->Ok s.heap->s.heap.get? S=gV { cls:=.type "list",dict:=td,data:=.seq [vb,vb].toArray c,slots:=#[] }->
  (∀v h' tk,P (argBest bt (n - 1)) v->(∀b o,b∉wr->b≠S->s.heap.get? b=gV o->h'.get? b=gV o)->R (.ok (.ret v)) { s with heap:=h',toks:=tk })->
  codeAny (model prog w) A (.builtin "min.loop" #[[.ref I,.none,.ref S],[]]) R s:=by
 have hSw:S∉wr:=λh=>hSf (W.sub _ h)
 have hname:(toString "min" ++ toString ".loop" : IN) = "min.loop":=by decide
 intro k
 induction k with
 | zero=>
  intro j s vb c hk hj hst hPb hO hS hR;have hin:j+1=n:=∅
  show Jm F.entry_min_loop ?_;rw[IZ F.plain_min_loop _];change wpAny _ A.in1 (seqItems? (.ref S) >>= _) _ _ s;show G2 (Kz hS rfl ?_);change wpAny _ A.in1 (tryCatch (pyNext (.ref I)) _ >>= _) _ _ s;show G2 (LA (W.done s _ _ (hin ▸ hst) λh' tk hk'=>?_))
  have hS':=hk' S _ hSw hS;change wpAny _ A.in1 (updateSeq S (λ_=>#[]) >>= _) _ _ _
  show G2 (Mx hS' rfl (G2 (Lk (Hd ?_))));have e:j=n - 1:=∅
  exact hR vb _ tk (e ▸ hPb) λb o hbw hbS e=>(Iz _ _ (Ne.symm hbS)).trans (hk' b o hbw e)
 | succ k ih=>
  intro j s vb c hk hj hst hPb hO hS hR;have hlt:j+1 < n:=∅
  show Jm F.entry_min_loop ?_;rw[IZ F.plain_min_loop _];change wpAny _ A.in1 (seqItems? (.ref S) >>= _) _ _ s;show G2 (Kz hS rfl ?_);change wpAny _ A.in1 (tryCatch (pyNext (.ref I)) _ >>= _) _ _ s;show G2 (LA (W.item (j+1) s _ _ hlt hst λv h' tk hP hst' hk'=>?_))
  have hS':=hk' S _ hSw hS;have hO':Ok h':=hok _ _ hO λb o hb _ e=>hk' b o hb e
  change wpAny _ A.in1 (tryCatch (holding [v,v] (richCompare .Lt v vb >>= _)) _ >>= _) _ _ _;show G2 (LA (Jb (G2 (hcmp (j+1) (argBest bt j) v vb _ _ _ hO' hP hPb ?_))));show G2 (Jb (IU ?_));show G2 (Lk (Hd ?_));cases hb:bt (j+1) (argBest bt j)with
  | true=>
   simp only[Ki];show G2 (Mx hS' rfl (G2 (Lk ?_)));rw[hname];show Hd #[Kq F.plain_min_loop _,ih (j+1) _ v _ ∅ hlt (W.frame _ _ _ hst' λb hbf o e=>?_) (by simp only[argBest,hb,Ki]; exact hP) (hok _ _ hO' λb o _ hbS e=>(Iz _ _ (Ne.symm hbS)).trans e) (JT _ hS' rfl)
    λv' h'' tk'' hP' hk''=>?_]
   ·exact(Iz _ _ (λh:S=b=>hSf (by rw[h]; exact hbf))).trans e
   ·exact hR v' h'' tk'' hP' λb o hbw hbS e=>hk'' b o hbw hbS ((Iz _ _ (Ne.symm hbS)).trans (hk' b o hbw e))
  | false=>
   simp only[IP,J1];show G2 (Lk ?_);rw[hname];show Hd #[Kq F.plain_min_loop _,ih (j+1) _ vb c ∅ hlt hst' (by simp only[argBest,hb,IP,J1]; exact hPb) hO' hS' λv' h'' tk'' hP' hk''=>?_]
   exact hR v' h'' tk'' hP' λb o hbw hbS e=>hk'' b o hbw hbS (hk' b o hbw e)
def sn (W:Qe prog w A.in1 I fp wr n P St)(hcmp:uG prog w A.in1 P Ok bt)(hSf:S∉fp)(hok:∀h h',Ok h->(∀b o,b∉wr->b≠S->h.get? b=gV o->h'.get? b=gV o)->Ok h')(hn:0 < n){s:G5}{c:G9}(hst:St 0 s.heap)(hO:Ok s.heap)
  (hS:s.heap.get? S=gV { cls:=.type "list",dict:=td,data:=.seq #[] c,slots:=#[] })
  (hR:∀v h' tk,P (argBest bt (n - 1)) v->(∀b o,b∉wr->b≠S->s.heap.get? b=gV o->h'.get? b=gV o)->R (.ok (.ret v)) { s with heap:=h',toks:=tk }) :
  codeAny (model prog w) A (.builtin "min.loop" #[[.ref I,.none,.ref S],[]]) R s:=by
 have hSw:S∉wr:=λh=>hSf (W.sub _ h)
 have hname:(toString "min" ++ toString ".loop" : IN) = "min.loop":=by decide
 show Jm F.entry_min_loop ?_;rw[IZ F.plain_min_loop _];change wpAny _ A.in1 (seqItems? (.ref S) >>= _) _ _ s;show G2 (Kz hS rfl ?_);change wpAny _ A.in1 (tryCatch (pyNext (.ref I)) _ >>= _) _ _ s;show G2 (LA (W.item 0 s _ _ hn hst λv h' tk hP hst' hk'=>?_))
 have hS':=hk' S _ hSw hS;change wpAny _ A.in1 (updateSeq S (λ_=>[v,v].toArray) >>= _) _ _ _
 show G2 (Mx hS' rfl ?_);rw[hname];have hO':Ok h':=hok _ _ hO λb o hb _ e=>hk' b o hb e
 show Hd #[Kq F.plain_min_loop _,uH W hcmp hSf hok _ 0 _ v _ rfl hn (W.frame _ _ _ hst' λb hbf o e=>?_) hP (hok _ _ hO' λb o _ hbS e=>(Iz _ _ (Ne.symm hbS)).trans e) (JT _ hS' rfl) λv' h'' tk'' hP' hk''=>?_]
 ·exact(Iz _ _ (λh:S=b=>hSf (by rw[h]; exact hbf))).trans e
 ·exact hR v' h'' tk'' hP' λb o hbw hbS e=>hk'' b o hbw hbS ((Iz _ _ (Ne.symm hbS)).trans (hk' b o hbw e))
end
section
variable{prog:HP}{w:Ii}{A:HY}{E:G4->G5->Prop}{s:G5}
def uI {l:Hb}{items:Io G4}{bt:G9->G9->HA}{Q:G4->G5->Prop}(hh:A.handled=td)(hl:s.heap.IsList l items)(hn:0 < items.size)
  (hcmp:uG prog w A.in1 (λi v=>items[i]?=gV v) (λh=>∀b o,s.heap.get? b=gV o->h.get? b=gV o) bt)
  (hQ:∀v h' tk,items[argBest bt (items.size - 1)]?=gV v->(∀b o,s.heap.get? b=gV o->h'.get? b=gV o)->Q v { s with heap:=h',toks:=tk }) :
  wpAny (model prog w) A (call (.builtin "min") [.ref l]) Q E s:=by
 have hname:(toString "min" ++ toString ".loop" : IN) = "min.loop":=by decide
 show call_function_tree F.kind_min F.plain_min F.entry_min (F.args_min1 _) ?_;change wpAny _ A.in1 (Ls "min" ["key","default"] 0 #[[],[]] >>= _) _ _ s;show G2 (MN (show Ls "min" ["key","default"] 0 #[[],[]]=pure [td,td]from rfl) ?_)
 show G2 (Hd ?_);show G2 (LR hl ?_);show G2 (Ip ?_);rw[hname];have hlt:l < s.heap.objs.size:=let ⟨_,ho,_⟩:=hl; Hw ho
 have hne:l≠s.heap.objs.size:=HL hlt;have W:=PV (prog:=prog) (w:=w) (A:=A.in1) hh s.heap.objs.size l hne items;have hsz:∀o:Je,(s.heap.push o).objs.size=s.heap.objs.size+1:=λo=>by simp[Heap.push]
 show Hd #[Kq F.plain_min_loop _,sn (A:=A) (Ok:=λh=>∀b o,s.heap.get? b=gV o->h.get? b=gV o) W hcmp (λhm=>?_) (λh h' ho hk b o e=>?_) hn #[?_,?_] (λb o e=>Ha _ (Ha _ e)) (Hv _ rfl) λv h' tk hv hk=>?_]
 ·rcases HF.mp hm with e|hm
  ·exact absurd (show(s.heap.push _).objs.size=s.heap.objs.size from e) (by rw[hsz]; exact Nat.succ_ne_self _)
  ·have e:(s.heap.push _).objs.size=l:=Hk.mp hm;rw[hsz]at e;exact absurd hlt (by rw[<- e]; exact OS.mpr (J3 _))
 ·have hb:=Hw e;show hk b o (λz=>?_) (λz=>?_) (ho b o e)
  ·rw[Hk.mp z]at hb; exact Iw _ hb
  ·have z':b=(s.heap.push _).objs.size:=z;rw[hsz]at z';rw[z']at hb;exact absurd hb (OS.mpr (J3 _))
 ·exact#[_,Ha _ (Hv _ rfl),rfl,rfl]
 ·obtain⟨o,ho,hc⟩:=hl;exact#[o,Ha _ (Ha _ ho),hc]
 ·show hQ v h' tk hv λb o e=>hk b o (λz=>?_) (λz=>?_) (Ha _ (Ha _ e))
  ·have hb:=Hw e;rw[Hk.mp z]at hb; exact Iw _ hb
  ·have hb:=Hw e;have z':b=(s.heap.push _).objs.size:=z;rw[hsz]at z';rw[z']at hb;exact absurd hb (OS.mpr (J3 _))
end
open PySem.W (KasT kas_sort kas_ask kas_cmp kas_item kas_asc kas_desc kas_tail3 kas_descPart kas_count kas_place kas_bin kas_rev)
abbrev mH {α:Type}(lt:G9->G9->HA):KasT α->α
 | .ret a=>a
 | .ask i j k=>mH lt (k (lt i j))
abbrev OkK {α:Type}(n:G9)(P:α->Prop):KasT α->Prop
 | .ret a=>P a
 | .ask i j k=>i < n/\j < n/\∀b,OkK n P (k b)
def nY {α:Type}{n:G9}{P:α->Prop}{lt:G9->G9->HA}:∀(t:KasT α),OkK n P t->P (mH lt t)
 | .ret _,h=>h
 | .ask i j k,h=>nY (k (lt i j)) (h.2.2 _)
def mI {α:Type}{n:G9}{P:α->Prop}{lt:G9->G9->HA}{t:KasT α}(h:OkK n P t):P (mH lt t):=nY t h
def OkK.bind {α β:Type}{n:G9}{P:α->Prop}{P':β->Prop}{f:α->KasT β}:∀ {t:KasT α},OkK n P t->(∀a,P a->OkK n P' (f a))->OkK n P' (t.bind f)
 | .ret a,h,hf=>hf a h
 | .ask _ _ _,h,hf=>#[h.1,h.2.1,λb=>OkK.bind (h.2.2 b) hf]
def lB {α:Type}{n:G9}{P:α->Prop}{lt:G9->G9->HA}{cmp:G9->G9->(HA->G5->Prop)->G5->Prop}{Q:α->G5->Prop}{s:G5}(hc:∀i j,i < n->j < n->∀C:HA->G5->Prop,C (lt i j) s->cmp i j C s) :
  ∀ {t:KasT α},OkK n P t->Q (mH lt t) s->t.kasWp cmp Q s
 | .ret _,_,h=>h
 | .ask i j k,h,hq=>hc i j h.1 h.2.1 _ (lB hc (h.2.2 _) hq)
abbrev Pm (n:G9)(p:Io G9):Prop:=p.toList.Perm (Ho n)
def Pm.size {n:G9}{p:Io G9}(h:Pm n p):p.size=n:=by rw[<- HZ,h.length_eq,HG]
def Pm.lt {n:G9}{p:Io G9}(h:Pm n p)(hn:0 < n)(i:G9):p.getD i 0 < n:=by
 by_cases hi:i < p.size
 ·have e:p.getD i 0=p[i]:=by simp[PX,hi]
  rw[e];have:p[i]∈p.toList:=by simp
  exact Hu.mp (h.mem_iff.mp this)
 ·have e:p.getD i 0=0:=by simp[PX,hi]
  rw[e]; exact hn
def Pm.rev {n:G9}{p:Io G9}(h:Pm n p)(i j:G9):Pm n (kas_rev p i j):=(LB.mp (mirror_perm p i j _)).trans h
def Pm.bub {n:G9}{p:Io G9}(h:Pm n p)(i j:G9):Pm n (bubble p i j):=(LB.mp (bubble_perm p i j)).trans h
section
variable{n:G9}(hn:0 < n)
include hn
def pH {p:Io G9}(h:Pm n p):∀(f m:G9),OkK n (λ_=>OC) (kas_asc p f m)
 | 0,_=>trivial
 | f+1,m=>#[h.lt hn _,h.lt hn _,λb=>by
  change OkK n _ (if b=true then _ else _)
  split
  ·trivial
  ·exact pH h f (m+1)]
def jy:∀(f:G9) (p:Io G9) (m q:G9),Pm n p->OkK n (λr=>Pm n r.1) (kas_desc f p m q)
 | 0,p,m,q,h=>h
 | f+1,p,m,q,h=>#[h.lt hn _,h.lt hn _,λb=>by
  change OkK n _ (if b=true then _ else _)
  split
  ·split
   ·exact jy f _ _ _ (h.rev _ _)
   ·exact jy f _ _ _ h
  ·show#[h.lt hn _,h.lt hn _,λc=>?_]
   change OkK n _ (if c=true then _ else _)
   split
   ·exact h
   ·exact jy f _ _ _ h]
def qO {p:Io G9}(h:Pm n p)(m k:G9):OkK n (λr=>Pm n r.2) (kas_tail3 m k p):=by
 unfold kas_tail3;exact OkK.bind (pH hn (h.rev 0 m) _ _) λa _=>h.rev 0 m
def jg {p:Io G9}(h:Pm n p)(m k:G9):OkK n (λr=>Pm n r.2) (kas_descPart m k p):=by
 unfold kas_descPart;show OkK.bind (jy hn _ _ _ _ h) λr hr=>?_
 split
 ·exact qO hn (hr.rev _ _) _ _
 ·exact qO hn hr _ _
def uJ {p:Io G9}(h:Pm n p)(k:G9):OkK n (λr=>Pm n r.2) (kas_count k p):=by
 unfold kas_count;show OkK.bind (pH hn h _ _) λm _=>?_
 split
 ·exact h
 ·split
  ·show#[h.lt hn _,h.lt hn _,λc=>?_]
   change OkK n _ (if c=true then _ else _)
   split
   ·exact h
   ·exact jg hn (h.rev _ _) _ _
  ·exact jg hn h _ _
def jQ {p:Io G9}(h:Pm n p)(k:G9):∀(f l r:G9),OkK n (λ_=>OC) (kas_place p k f l r)
 | 0,_,_=>trivial
 | f+1,l,r=>by
  unfold kas_place;split
  ·trivial
  ·show#[h.lt hn _,h.lt hn _,λc=>?_]
   change OkK n _ (if c=true then _ else _)
   split
   ·exact jQ h k f _ _
   ·exact jQ h k f _ _
def uK:∀(f:G9) (p:Io G9) (k:G9),Pm n p->OkK n (Pm n) (kas_bin f p k)
 | 0,p,k,h=>h
 | f+1,p,k,h=>by
  unfold kas_bin;exact OkK.bind (jQ hn h k _ _ _) λl _=>uK f _ _ (h.bub _ _)
def jz:OkK n (Pm n) (kas_sort n):=by
 unfold kas_sort;show OkK.bind (uJ hn (by unfold Pm; simp) _) λr hr=>?_
 split
 ·exact uK hn _ _ _ hr
 ·exact hr
end
section
variable{prog:HP}{w:Ii}{A:HY}{E:G4->G5->Prop}{s:G5}{vs:G0 G4}
abbrev eE (lt:G9->G9->HA){β:Type}(d:β)(vs:G0 β):G0 β:=if vs.length < 2 then vs else(mH lt (kas_sort vs.length)).toList.map λi=>vs.getD i d
def nZ {lt:G9->G9->HA}{β:Type}{d:β}{vs:G0 β}:(eE lt d vs).length=vs.length:=by
 unfold eE;split
 ·rfl
 ·rw[G1,HZ,(mI (lt:=lt) (jz (n:=vs.length) ∅)).size]
def sv {a:Hb}{n:G9}{lt:G9->G9->HA}{κ:L9}{P:PySem.Fin->G5->Prop}(ho:s.heap.get? a=gV (seqObj "list" vs.toArray n))(h64:vs.length < 64)
  (hkind:2<=vs.length->∀h',(∀b o,b≠a->s.heap.get? b=gV o->h'.get? b=gV o)->∀Q:L9->G5->Prop,Q κ { s with heap:=h' }->wpAny (model prog w) A (keyKind' vs.toArray) Q (λ_ _=>IJ) { s with heap:=h' })
  (hlt:2<=vs.length->∀h',(∀b o,b≠a->s.heap.get? b=gV o->h'.get? b=gV o)->∀i j,i < vs.length->j < vs.length->∀Q:HA->G5->Prop,Q (lt i j) { s with heap:=h' }->
   wpAny (model prog w) A (keyLt' κ (vs.getD i Ix) (vs.getD j Ix)) Q (λ_ _=>IJ) { s with heap:=h' })
  (h:∀h' c,(∀b o,b≠a->s.heap.get? b=gV o->h'.get? b=gV o)->h'.get? a=gV (seqObj "list" (eE lt Ix vs).toArray c)->P (.done (.ret .none)) { s with heap:=h' }) :
  wpAny (model prog w) A (Mn.«list.sort» #[[.ref a],[]]) P E s:=by
 have ha:a < s.heap.objs.size:=Hw ho;obtain⟨e1,ho1⟩ : ∃e1,(s.heap.update a (IY λ_=>(#[]:Io G4))).get? a=gV (seqObj "list" #[] e1):=#[_,My ho λ_=>#[]]
 have keep:∀b o,b≠a->s.heap.get? b=gV o->(((s.heap.update a (IY λ_=>(#[]:Io G4))).push (seqObj "tuple" vs.toArray 0)).push (seqObj "list" #[] 0)).get? b=gV o:=λb o hb e=>
  Ha _ (Ha _ ((KH _ _ _ _ hb).trans e))
 have ho3:(((s.heap.update a (IY λ_=>(#[]:Io G4))).push (seqObj "tuple" vs.toArray 0)).push (seqObj "list" #[] 0)).get? a=gV (seqObj "list" #[] e1):=Ha _ (Ha _ ho1)
 have fin:∀(out:G0 G4),out.length=vs.length->out=eE lt Ix vs->P (.done (.ret .none)) { s with heap:=(((s.heap.update a (IY λ_=>(#[]:Io G4))).push (seqObj "tuple" vs.toArray 0)).push (seqObj "list" #[] 0)).update a (IY λ_=>out.toArray) }:=λout hl e=>by
  obtain⟨c2,hc2⟩ : ∃c2,((((s.heap.update a (IY λ_=>(#[]:Io G4))).push (seqObj "tuple" vs.toArray 0)).push (seqObj "list" #[] 0)).update a (IY λ_=>out.toArray)).get? a=gV (seqObj "list" out.toArray c2):=#[_,My ho3 λ_=>out.toArray]
  exact h _ c2 (λb o hb q=>(KH _ _ _ _ hb).trans (keep b o hb q)) (e ▸ hc2)
 rw[list_sort_plain];show G2 (NV ho rfl ?_);show G2 (L0 ho rfl ?_ (by rw[Hq,IE]; omega) (IS _))
 show G2 (Oo ho1 rfl ?_);show G2 (OT ?_ (by change vs.length<=_; rw[IE]; omega))
 show G2 (Nh ?_ (IS _));show Jb ?_;change wpAny (model prog w) A _ P E { s with heap:=((s.heap.update a (IY λ_=>(#[]:Io G4))).push (seqObj "tuple" vs.toArray 0)).push (seqObj "list" #[] 0) }
 dsimp only
 by_cases h2:vs.length < 2
 ·rw[HE (by rw[Hq]; exact h2),HE (by rw[Hq]; exact h2)]
  show G2 (Hd (G2 ?_));rw[StateT.run_pure];show Hd ?_;dsimp only;show G2 (Oo ho3 rfl ?_);have hs:((arrOf (SortSt.mk' general' (vs.toArray.zip vs.toArray) #[] 7 td)).map (·.2))=vs.toArray:=by
   show(vs.toArray.zip vs.toArray).map (·.2)=vs.toArray
   apply Array.toList_inj.mp;rw[Array.toList_map,Array.toList_zip];exact List.map_snd_zip (Hj _)
  rw[hs];show G2 (L0 ho3 rfl ?_ (IS _) (by rw[Hq,IE]; omega))
  simp only[NW,IP,J1];exact Hd (fin vs rfl (by unfold eE; rw[HE h2]))
 ·have hn2:¬ vs.toArray.size < 2:=by rw[Hq]; exact h2
  have h2':2<=vs.length:=∅
  rw[HX hn2,HX hn2];show G2 (Jn (hkind h2' _ keep (λ(k:L9) (s':G5)=>k=κ/\s'={ s with heap:=((s.heap.update a (IY λ_=>(#[]:Io G4))).push (seqObj "tuple" vs.toArray 0)).push (seqObj "list" #[] 0) }) #[rfl,rfl]) ?_ λ_ _ x=>x.elim)
  rintro _ _ ⟨rfl,rfl⟩;show G2 (Jn (PySem.W.kat_run (Q:=λst' s'=>∃p:Io G9,p.size=vs.length/\arrOf st'=p.map (kas_item (vs.toArray.zip vs.toArray))/\failedOf st'=td/\p=mH lt (kas_sort vs.length)/\s'={ s with heap:=((s.heap.update a (IY λ_=>(#[]:Io G4))).push (seqObj "tuple" vs.toArray 0)).push (seqObj "list" #[] 0) })
   (G:=λp s'=>p=mH lt (kas_sort vs.length)/\s'={ s with heap:=((s.heap.update a (IY λ_=>(#[]:Io G4))).push (seqObj "tuple" vs.toArray 0)).push (seqObj "list" #[] 0) }) rfl h2' h64 (λp' st' s' a1 a2 a3 a4=>#[p',a1,a2,a3,a4])
   (lB (lt:=lt) (λi j hi hj C hC=>hlt h2' _ keep i j hi hj C hC) (jz (n:=vs.length) ∅) #[rfl,rfl])) ?_ λ_ _ e=>e)
  rintro⟨⟨⟩,st'⟩ s' ⟨p,hp,har,hf,ep,rfl⟩;dsimp only;have hout:=PySem.W.kat_snds rfl har;have hsz:(p.toList.map λi=>vs.getD i Ix).length=vs.length:=by rw[G1,HZ,hp]
  rw[hout];show G2 (Oo ho3 rfl ?_);show G2 (L0 ho3 rfl ?_ (IS _) (by rw[Hq,hsz,IE]; omega))
  rw[hf];simp only[NW,IP,J1];exact Hd (fin _ hsz (by unfold eE; rw[HX h2,ep]))
def sw {x:G4}{lt:G9->G9->HA}{κ:L9}{Q:G4->G5->Prop}(h64:vs.length < 64)
  (hcol:∀Q':G0 G4->G5->Prop,(∀h' tk,(∀b o,s.heap.get? b=gV o->h'.get? b=gV o)->s.heap.objs.size<=h'.objs.size->Q' vs { s with heap:=h',toks:=tk })->wpAny (model prog w) A.in1 (collect x) Q' E s)
  (hkind:2<=vs.length->∀h' tk,(∀b o,s.heap.get? b=gV o->h'.get? b=gV o)->∀Q:L9->G5->Prop,Q κ { s with heap:=h',toks:=tk }->wpAny (model prog w) A.in1.in1 (keyKind' vs.toArray) Q (λ_ _=>IJ) { s with heap:=h',toks:=tk })
  (hlt:2<=vs.length->∀h' tk,(∀b o,s.heap.get? b=gV o->h'.get? b=gV o)->∀i j,i < vs.length->j < vs.length->∀Q:HA->G5->Prop,Q (lt i j) { s with heap:=h',toks:=tk }->
   wpAny (model prog w) A.in1.in1 (keyLt' κ (vs.getD i Ix) (vs.getD j Ix)) Q (λ_ _=>IJ) { s with heap:=h',toks:=tk })
  (h:∀D h' tk c,(∀b o,s.heap.get? b=gV o->h'.get? b=gV o)->s.heap.objs.size<=D->h'.get? D=gV (seqObj "list" (eE lt Ix vs).toArray c)->Q (.ref D) { s with heap:=h',toks:=tk }) :
  wpAny (model prog w) A (call (.builtin "sorted") [x]) Q E s:=by
 show LJ kind_sorted plain_sorted entry_sorted (args_sorted1 _) ?_;unfold Mn.«sorted»;show G2 (m:=checkCount "sorted" 1 1 _) (Hd ?_);show G2 (hcol _ λh1 tk1 hk1 hle=>?_)
 show G2 (Nh ?_ (by rw[IE]; omega))
 have hoL:(h1.push (seqObj "list" vs.toArray 0)).get? h1.objs.size=gV (seqObj "list" vs.toArray 0):=Hv _ rfl;have kp:∀b o,s.heap.get? b=gV o->(h1.push (seqObj "list" vs.toArray 0)).get? b=gV o:=λb o e=>Ha _ (hk1 b o e)
 have hne:∀b o,s.heap.get? b=gV o->b≠h1.objs.size:=λb o e=>HL (HJ (Hw e) hle)
 change wpAny _ _ _ _ _ { s with heap:=h1.push (seqObj "list" vs.toArray 0),toks:=tk1 }
 show G2 (Jb (IR slot_list_sort #[_,hoL,rfl] entry_list_sort ?_ (args_list_sort _)));show sv (s:={ s with heap:=h1.push (seqObj "list" vs.toArray 0),toks:=tk1 }) (lt:=lt) (κ:=κ) hoL h64 (λh2 h' hk Q hq=>hkind h2 h' tk1 (λb o e=>hk b o (hne b o e) (kp b o e)) Q hq)
  (λh2 h' hk i j hi hj Q hq=>hlt h2 h' tk1 (λb o e=>hk b o (hne b o e) (kp b o e)) i j hi hj Q hq) λh' c hk hD=>?_
 exact#[_,rfl,Hd #[_,rfl,h _ h' tk1 c (λb o e=>hk b o (hne b o e) (kp b o e)) hle hD]]
end
end Mi
namespace Mi
open PySem PySem.Spec PyProof.Rows L2
abbrev fq:T->IN
 | .int _=>"int"|.str _=>"str"|.tup _=>"tuple"
abbrev bn:T->G7 T
 | .tup (x::_)=>gV x
 | _=>td
abbrev yt (ks:G0 T):G7 G9:=
 if ks.all (λk=>fq k == "int")then gV 0
 else if ks.all (λk=>fq k == "str")then gV 1
 else if ks.all (λk=>(bn k).any λf=>fq f == "int")then gV 2
 else if ks.all (λk=>(bn k).any λf=>fq f == "str")then gV 3
 else if ks.all (λk=>(bn k).any λf=>fq f == "tuple")then gV 4
 else td
abbrev uL:G9->L9
 | 0=>oneType'|1=>oneType'|2=>tuples' true|3=>tuples' true|_=>tuples' false
abbrev jR (ks:G0 T):HA:=ks.all λx=>ks.all λy=>(yr x y).isSome
abbrev Ag (ks:G0 T)(i j:G9):HA:=(yr (ks.getD i (.int 0)) (ks.getD j (.int 0))).getD false
def uM {ks:G0 T}(h:jR ks=true){i j:G9}(hi:i < ks.length)(hj:j < ks.length):yr (ks[i]) (ks[j])=gV (Ag ks i j):=by
 unfold jR at h;rw[HC]at h;have h1:=h ks[i] (Iu hi);rw[HC]at h1;have h2:=h1 ks[j] (Iu hj);unfold Ag;rw[show ks.getD i (.int 0)=ks[i] by simp[hi],show ks.getD j (.int 0)=ks[j] by simp[hj]]
 obtain⟨b,hb⟩:=IA.mp h2;rw[hb]; rfl
abbrev Gs (c:G9)(x y:T):Prop:=match c with|0=>fq x = "int"/\fq y = "int"|1=>fq x = "str"/\fq y = "str"|2=>∃f g,bn x=gV f/\bn y=gV g/\fq f = "int"/\fq g = "int"|3=>∃f g,bn x=gV f/\bn y=gV g/\fq f = "str"/\fq g = "str"|_=>∃f g,bn x=gV f/\bn y=gV g
section
variable{prog:HP}{w:Ii}{A:HY}{E:G4->G5->Prop}{s:G5}
def qP {h:Iv}{k:T}{v:G4}(x:IsT h k v):Pa (model prog w) h (typeOf v) (.type (fq k)):=by
 cases x with
 | int=>exact .now
 | str=>exact .now
 | tup a c d t=>exact c ▸ ((P7 a).andThen .now:Pa (model prog w) h (typeOf (.ref _)) _)
def IsTs.mem {h:Iv}:∀ {ks:G0 T} {vs:G0 G4},IsTs h ks vs->∀v∈vs,∃k∈ks,IsT h k v
 | _,_,.cons a b,v,hv=>by
  rcases HF.mp hv with rfl|hv
  ·exact#[_,.head _,a]
  ·obtain⟨k,hk,q⟩:=IsTs.mem b v hv;exact#[k,.tail _ hk,q]
def lC {h:Iv}{p:T->HA}:∀ {ks:G0 T} {vs:G0 G4},IsTs h ks vs->ks.all (λk=>(bn k).any p)=true->∃fs,PySem.W.KatTups h vs fs/\fs.length=vs.length/\∀v∈fs,∃k,p k=true/\IsT h k v
 | _,_,.nil,_=>#[[],.nil,rfl,λv hv=>nomatch hv]
 | k::ks,_,.cons a b,hp=>by
  rw[HW,G8]at hp;obtain⟨fs,h1,h2,h3⟩:=lC b hp.2;cases a with
  | int=>simp[bn]at hp
  | str=>simp[bn]at hp
  | @tup kk ad o items n a1 c1 d1 t1=>
   cases kk with
   | nil=>simp[bn]at hp
   | cons x xs=>
    have hx:p x=true:=by simpa [bn]using hp.1
    generalize hit:items.toList=its at t1;cases t1 with
    | @cons _ u _ us q1 q2=>
     show#[u::fs,.cons a1 c1 d1 (by rw[<- Jf,hit]; rfl) h1,by simp[h2],λv hv=>?_]
     rcases HF.mp hv with rfl|hv
     ·exact#[x,hx,q1]
     ·exact h3 v hv
def Bz {ks:G0 T}{vs:G0 G4}{c:G9}{Q:L9->G5->Prop}(h:IsTs s.heap ks vs)(h2:2<=vs.length)(hc:yt ks=gV c)(hq:Q (uL c) s):wpAny (model prog w) A (keyKind' vs.toArray) Q E s:=by
 have one:∀ty:IN,(Kx ty != Kx "tuple")=true->ks.all (λk=>fq k==ty)=true->Q oneType' s->wpAny (model prog w) A (keyKind' vs.toArray) Q E s:=λty hty hall hq=>
  PySem.W.kas_kind (T:=.type ty) h2 (λv hv=>by
   obtain⟨k,hk,x⟩:=h.mem v hv;have:=eq_of_beq (HC.mp hall k hk);exact this ▸ qP x) hty (by simp) hq
 have tup:∀ty:IN,ks.all (λk=>(bn k).any λf=>fq f==ty)=true->Q (tuples' (Kx ty != Kx "tuple")) s->wpAny (model prog w) A (keyKind' vs.toArray) Q E s:=λty hall hq=>by
  obtain⟨fs,h1,h3,h4⟩:=lC h hall;exact PySem.W.kat_kind (T:=.type ty) h1 ∅ (λv hv=>by
   obtain⟨k,hk,x⟩:=h4 v hv;have:=eq_of_beq hk;exact this ▸ qP x) (by simp) hq
 unfold yt at hc;split at hc
 ·cases hc; exact one "int" #v[] (by assumption) hq
 ·split at hc
  ·cases hc; exact one "str" #v[] (by assumption) hq
  ·split at hc
   ·cases hc; exact tup "int" (by assumption) hq
   ·split at hc
    ·cases hc; exact tup "str" (by assumption) hq
    ·split at hc
     ·cases hc; exact tup "tuple" (by assumption) hq
     ·cases hc
def n0 {b:HA}{Q:HA->G5->Prop}{d:G9}(hu:A.units+d < cLine):∀(xs ys:G0 T) (us vs:G0 G4) (i:G9) (k:HA),T.depths xs<=d->T.depths ys<=d->IsTs s.heap xs us->IsTs s.heap ys vs->nX xs ys=gV k->
  (b=true->i=0->∀x y,xs.head?=gV x->ys.head?=gV y->(fq x = "int"/\fq y = "int")\/(fq x = "str"/\fq y = "str"))->Q k s->PySem.W.KatLex prog w A b (decide (us.length < vs.length)) Q (us.zip vs) i s
 | [],[],_,_,i,k,_,_,h1,h2,e,hb,hq=>by cases h1; cases h2; cases e; exact Mz (by simpa using hq)
 | [],y::ys,_,_,i,k,_,_,h1,h2,e,hb,hq=>by cases h1; cases h2; cases e; exact Mz (by simpa using hq)
 | x::xs,[],_,_,i,k,_,_,h1,h2,e,hb,hq=>by cases h1; cases h2; cases e; exact Mz (by simpa using hq)
 | x::xs,y::ys,_,_,i,k,d1,d2,h1,h2,e,hb,hq=>by
  simp only[T.depths]at d1 d2;cases h1 with
  | @cons _ u _ us p1 q1=>
   cases h2 with
   | @cons _ v _ vs p2 q2=>
    have he:=si d x y _ _ A s ∅ p1 p2 hu ∅
    rw[Kj];show PySem.W.kat_cons (he prog w _ _ ?_);simp only[nX]at e;have hlen:decide ((u::us).length < (v::vs).length)=decide (us.length < vs.length):=by simp
    rw[hlen]
    by_cases hxy:x=y
    ·rw[HE hxy]at e;rw[IL hxy];exact PySem.W.kat_yes (n0 hu xs ys us vs (i+1) k ∅ ∅ q1 q2 e (λ_ z=>absurd z (Nat.succ_ne_zero _)) hq)
    ·rw[HX hxy]at e;rw[HQ hxy];show PySem.W.kat_no ?_
     by_cases hb0:b=true/\i=0
     ·obtain⟨rfl,rfl⟩:=hb0;rcases hb rfl rfl x y rfl rfl with⟨hx,hy⟩|⟨hx,hy⟩
      ·cases p1 with
       | int=>cases p2 with
        | int=>cases e; exact oneLt_int hq
        | _=>exact absurd hy (by simp[fq])
       | _=>exact absurd hx (by simp[fq])
      ·cases p1 with
       | str=>cases p2 with
        | str=>cases e; exact oneLt_str hq
        | _=>exact absurd hy (by simp[fq])
       | _=>exact absurd hx (by simp[fq])
     ·have hf:(b&&i==0)=false:=by
       cases b with
       | false=>rfl
       | true=>
        have:i≠0:=λz=>hb0 #[rfl,z]
        simpa using this
      rw[hf];exact PySem.W.kat_one _ _ ((Dz d x y _ _ A s k ∅ ∅ p1 p2 hu e) prog w _ _ hq)
def yu {c d:G9}{x y:T}{u v:G4}{k:HA}{Q:HA->G5->Prop}(hu:A.units+d < cLine)(d1:x.depth<=d)(d2:y.depth<=d)(h1:IsT s.heap x u)(h2:IsT s.heap y v)(e:yr x y=gV k)
  (hc:Gs c x y)
  (hq:Q k s):wpAny (model prog w) A (keyLt' (uL c) u v) Q E s:=by
 have tup:∀b:HA,(∃f g,bn x=gV f/\bn y=gV g/\(b=true->(fq f = "int"/\fq g = "int")\/(fq f = "str"/\fq g = "str")))->wpAny (model prog w) A (keyLt' (tuples' b) u v) Q E s:=by
  rintro b ⟨f,g,hf,hg,hb⟩;cases h1 with
  | int=>cases hf
  | str=>cases hf
  | @tup xs a o items n a1 c1 e1 t1=>
   cases h2 with
   | int=>cases hg
   | str=>cases hg
   | @tup ys a' o' items' n' a2 c2 e2 t2=>
    simp only[T.depth]at d1 d2;show PySem.W.kat_lt a1 e1 a2 e2 ?_;have:=n0 (prog:=prog) (w:=w) (b:=b) (Q:=Q) hu xs ys items.toList items'.toList 0 k ∅ ∅ t1 t2 e (λhb' _ p q hp hq'=>by
     cases xs with
     | nil=>cases hp
     | cons x0 xs=>cases ys with
      | nil=>cases hq'
      | cons y0 ys=>cases hp; cases hq'; cases hf; cases hg; exact hb hb') hq
    simpa using this
 match c,hc with
 | 0,#[hx,hy]=>
  cases h1 with
  | int=>cases h2 with
   | int=>cases e; exact PySem.W.kat_lt_int hq
   | _=>exact absurd hy (by simp[fq])
  | _=>exact absurd hx (by simp[fq])
 | 1,#[hx,hy]=>
  cases h1 with
  | str=>cases h2 with
   | str=>cases e; exact PySem.W.kas_lt_str hq
   | _=>exact absurd hy (by simp[fq])
  | _=>exact absurd hx (by simp[fq])
 | 2,#[f,g,h1',h2',h3,h4]=>exact tup true #[f,g,h1',h2',λ_=>.inl #[h3,h4]]
 | 3,#[f,g,h1',h2',h3,h4]=>exact tup true #[f,g,h1',h2',λ_=>.inr #[h3,h4]]
 | n+4,#[f,g,h1',h2']=>exact tup false #[f,g,h1',h2',λz=>nomatch z]
end
def yv {ks:G0 T}{c:G9}(h:yt ks=gV c){x y:T}(hx:x∈ks)(hy:y∈ks) :
  Gs c x y:=by
 have one:∀ {ty:IN},ks.all (λk=>fq k==ty)=true->fq x=ty/\fq y=ty:=λha=>#[eq_of_beq (HC.mp ha x hx),eq_of_beq (HC.mp ha y hy)]
 have fst:∀ {ty:IN},ks.all (λk=>(bn k).any λf=>fq f==ty)=true->∃f g,bn x=gV f/\bn y=gV g/\fq f=ty/\fq g=ty:=λ{ty} ha=>by
  have h1:=HC.mp ha x hx;have h2:=HC.mp ha y hy;cases e1:bn x with
  | none=>rw[e1]at h1; cases h1
  | some f=>
   cases e2:bn y with
   | none=>rw[e2]at h2; cases h2
   | some g=>
    rw[e1]at h1; rw[e2]at h2
    exact#[f,g,rfl,rfl,eq_of_beq (by simpa using h1),eq_of_beq (by simpa using h2)]
 unfold yt at h;split at h
 ·cases h; exact one (by assumption)
 ·split at h
  ·cases h; exact one (by assumption)
  ·split at h
   ·cases h; exact fst (by assumption)
   ·split at h
    ·cases h; exact fst (by assumption)
    ·split at h
     ·cases h;obtain⟨f,g,h1,h2,_⟩:=fst (by assumption)
      exact#[f,g,h1,h2]
     ·cases h
abbrev dX (S:aa):W->G7 (G0 W)
 | .tup xs=>gV xs
 | .ref i=>match gG S i with
  | some xs=>gV xs
  | none=>(kL S i).map λU=>U.map λp=>p.1.w
 | _=>td
abbrev d8:G9:=8
abbrev mJ (ks:G0 T):HA:=decide (ks.length < 64)&&decide (T.depths ks<=d8)&&(decide (ks.length < 2)||((yt ks).isSome&&jR ks))
abbrev g9 (xs:G0 W)(S:aa):G7 (W×aa):=match xs with
 | [x]=>match dX S x with
  | some ws=>match W.ts ws with
   | some ks=>if mJ ks then gV (.ref S.length,S++[.lst (eE (Ag ks) .non ws)])else td
   | none=>td
  | none=>td
 | _=>td
abbrev jS (xs:G0 W)(S:aa):G7 (W×aa):=match xs with
 | [.ref i]=>match kL S i with
  | some U=>gV (.ref S.length,S++[.lst (U.map λp=>p.1.w)])
  | none=>gD [.ref i] S
 | xs=>gD xs S
abbrev pI (xs:G0 W)(S:aa):G7 (W×aa):=match xs with
 | [.ref i]=>match kL S i with
  | some U=>gV (.int U.length,S)
  | none=>pB [.ref i] S
 | xs=>pB xs S
abbrev mK (ks:G0 T):G9:=argBest (Ag ks) (ks.length - 1)
abbrev yw (xs:G0 W)(S:aa):G7 (W×aa):=match xs with
 | [.ref i]=>match gG S i with
  | some ws=>match W.ts ws with
   | some ks=>if T.depths ks<=d8/\jR ks=true then(ws[mK ks]?).map λw=>(w,S)else td
   | none=>td
  | none=>td
 | _=>td
abbrev gI:G0 W->G7 (G0 HA)
 | []=>gV []
 | .bl b::ws=>(gI ws).map (b :: ·)
 | _::_=>td
abbrev BA (xs:G0 W)(S:aa):G7 (W×aa):=match xs with
 | [.ref i]=>match gG S i with
  | some ws=>(gI ws).map λbs=>(.bl (bs.all id),S)
  | none=>td
 | _=>td
section
variable{X:Cx}{J:G0 (Hb×Je)}{Y:L2.St}{H:Hp}{s:G5}{A:G0 Hb}{S:aa}
def RelL.pick {K:Hl}{ws:G0 W}{vs:G0 V}(r:RelL K A H ws vs)(d:W)(d':V):∀(is:G0 G9),(∀i∈is,i < ws.length)->RelL K A H (is.map λi=>ws.getD i d) (is.map λi=>vs.getD i d')
 | [],_=>.nil
 | i::is,h=>by
  have hi:=h i (.head _);obtain⟨v,h1,h2⟩:=r.get (Hi hi);show .cons ?_ (RelL.pick r d d' is λj hj=>h j (.tail _ hj))
  have e1:ws.getD i d=ws[i]:=by simp[hi]
  have e2:vs.getD i d'=v:=by simp[h1]
  change Rel K A H (ws.getD i d) (vs.getD i d');rw[e1,e2]; exact h2
def Vals.pick {vs:G0 V}{us:G0 G4}(r:Vals vs us)(d:V)(d':G4):∀(is:G0 G9),(∀i∈is,i < vs.length)->Vals (is.map λi=>vs.getD i d) (is.map λi=>us.getD i d')
 | [],_=>.nil
 | i::is,h=>by
  have hi:=h i (.head _);obtain⟨v,h1,h2⟩:=L2.Vals.get r (Hi hi);show .cons ?_ (Vals.pick r d d' is λj hj=>h j (.tail _ hj))
  have e1:vs.getD i d=vs[i]:=by simp[hi]
  have e2:us.getD i d'=v:=by simp[h1]
  change L2.RelV (vs.getD i d) (us.getD i d');rw[e1,e2]; exact h2
def mL {n:G9}{lt:G9->G9->HA}(hn:0 < n):∀i∈(mH lt (Od n)).toList,i < n:=λi hi=>Hu.mp ((mI (lt:=lt) (jz hn)).mem_iff.mp hi)
def uN {K:Hl}{lt:G9->G9->HA}{ws:G0 W}{vs:G0 V}(r:RelL K A H ws vs):RelL K A H (eE lt .non ws) (eE lt .non vs):=by
 unfold eE;rw[r.length];split
 ·exact r
 ·exact r.pick _ _ _ λi hi=>by rw[r.length]; exact mL ∅ i hi
def sx {lt:G9->G9->HA}{vs:G0 V}{us:G0 G4}(r:Vals vs us):Vals (eE lt .non vs) (eE lt .none us):=by
 unfold eE;rw[L2.Vals.length r];split
 ·exact r
 ·exact Vals.pick r _ _ _ λi hi=>by rw[L2.Vals.length r]; exact mL ∅ i hi
def n4 {prog:HP}{w:Ii}{B:HY}{E:G4->G5->Prop}{l:Hb}{vs:G0 G4}{Q:G0 G4->G5->Prop}(hl:ND s.heap l vs.toArray)(hsz:vs.length<=sizeLine)
  (h:∀h' tk,(∀b o,s.heap.get? b=gV o->h'.get? b=gV o)->s.heap.objs.size<=h'.objs.size->Q vs { s with heap:=h',toks:=tk }):wpAny (model prog w) B (collect (.ref l)) Q E s:=by
 obtain⟨o,ho,hc,n,hd⟩:=id hl;unfold collect;show G2 (MQ (Jm entry_proto_collect' ?_));change wpAny _ _ (do again (.builtin "list.__iadd__" #[[<- newList [],.ref l],[]])) _ _ s
 show G2 (Nh (Hd #[Code.quiet_builtin _ (by decide +kernel),Jm entry_list_iadd' ?_]))
 change wpAny _ _ (JN (.ref s.heap.objs.size) (.ref l) (.ref s.heap.objs.size)) _ _ { s with heap:=s.heap.push (seqObj "list" #[] 0) }
 unfold JN;have ho':(s.heap.push (seqObj "list" #[] 0)).get? l=gV o:=Ha _ ho;show G2 (Lr (T:="tuple") #[o,ho',hc] ?_);have ht:(Kx "tuple" == Kx "tuple")=true:=by rfl
 rw[HE (by rw[ht]; simp)]
 show G2 (NV ho' hd ?_);show G2 (NV (xs:=#[]) (n:=0) (Hv _ rfl) rfl ?_);rw[HX (by simp)]
 show G2 (L0 (xs:=#[]) (n:=0) (Hv _ rfl) rfl ?_ (IS _) (by show(#[]++vs.toArray).size<=sizeLine+1; simp only[Array.size_append,Hq,Jk]; omega))
 show Hd ?_;change wpAny (model prog w) B (do
   let o <- load s.heap.objs.size
   match o.data with
   | .seq xs _=>pure xs.toList
   | _=>unsupported "internal:collect") Q E { s with heap:=(s.heap.push (seqObj "list" #[] 0)).update s.heap.objs.size (IY (· ++ vs.toArray)) }
 show G2 (Nn (My (Hv _ rfl) _) ?_);change wpAny _ _ (pure ((#[]:Io G4)++vs.toArray).toList) Q E _;rw[show((#[]:Io G4)++vs.toArray).toList=vs by simp]
 show Hd (h _ s.toks (λb o' e=>(KH _ _ _ _ (HL (Hw e))).trans (Ha _ e)) ?_)
 rw[Oe,size_push'];exact J3 _
def DicAt.raw {wd:Ii}{a:Hb}{xs:G0 (T×Hb×G4)}{h:Iv}(d:DicAt wd a xs h):∃es ep,RawD a es ep h/\es.toList=xs.map (uq wd):=
 let ⟨_,_,_,o,es,ep,h1,h2,h3,h4⟩:=d; #[es,ep,#[o,h1,h2,h3],h4]
def KRel.keysL {U:G0 (T×W)}{xs:G0 (T×Hb×G4)}(r:KRel X.K A H U xs):RelL X.K A H (U.map λp=>p.1.w) (xs.map λq=>V.ref q.2.1):=by
 unfold KRel at r
 induction r with
 | nil=>exact .nil
 | cons h t ih=>exact .cons h.2.2.2.1 ih
def lD (xs:G0 (T×Hb×G4)):Vals (xs.map λq=>V.ref q.2.1) (xs.map λq=>Im q.2.1):=by
 induction xs with
 | nil=>exact .nil
 | cons x xs ih=>exact .cons rfl ih
def jT {wd:Ii}{es:Io JF}{xs:G0 (T×Hb×G4)}(he:es.toList=xs.map (uq wd)){acc:Io G4}(ha:Mp (λi v=>∃e,es[i]?=gV e/\e.key=v) acc es.size):acc.toList=xs.map λq=>Im q.2.1:=by
 have hl:es.size=xs.length:=by rw[<- HZ,he,G1]
 apply Lh
 ·rw[HZ,ha.1,G1,hl]
 ·intro i h1 h2;rw[HZ]at h1;obtain⟨e,q1,q2⟩:=ha.2 i acc[i] (by simp[h1])
  rw[<- Jf,he,Hc]at q1;rw[G1]at h2;rw[Hi h2]at q1;simp only[HR,Ir]at q1;subst q1;rw[List.getElem_map,Array.getElem_toList];exact q2.symm
def sy {x:W}{a:V}{u:G4}{ws:G0 W}(hh:X.A.handled=td)(I:Inv X J Y H s)(so:StoreOk X.w X.K A H S)(rx:Rel X.K A H x a)(ru:RelV a u)(e:dX S x=gV ws):∃vs us,RelL X.K A H ws vs/\Vals vs us/\us.length<=sizeLine/\
  ∀(B:HY) (hB:B.handled=td) (E:G4->G5->Prop) (Q':G0 G4->G5->Prop),(∀h' tk,(∀b o,s.heap.get? b=gV o->h'.get? b=gV o)->s.heap.objs.size<=h'.objs.size->Q' us { s with heap:=h',toks:=tk })->wpAny (model X.prog X.w) B (collect u) Q' E s:=by
 cases rx with
 | tup h1 r1=>
  cases e;obtain⟨its,rv,ht,hz⟩:=I.tuple h1;obtain rfl:u=Im _:=ru;exact#[_,its,r1,rv,by rw[<- L2.Vals.length rv]; exact hz,λB hB E Q' h=>n4 ht (by rw[<- L2.Vals.length rv]; exact hz) h]
 | ref ea=>
  dsimp only[dX]at e;split at e
  ·rename_i xs hx;cases e;obtain⟨vs,h1,r1⟩:=cC so hx ea;obtain⟨its,rv,p,hz⟩:=I.list h1;obtain rfl:u=Im _:=ru;show#[_,its,r1,rv,by rw[<- L2.Vals.length rv]; exact hz,λB hB E Q' h=>collect_list p.isList (h _ s.toks (λb o' e=>(KH _ _ _ _ (HL (Hw e))).trans (Ha _ e)) ?_) (by rw[<- L2.Vals.length rv]; exact hz)]
   rw[Oe,size_push'];exact J3 _
  ·rw[G6]at e;obtain⟨U,hk,rfl⟩:=e;obtain⟨xs,rd,kr⟩:=fJ so hk ea;have d:=cw I rd;obtain⟨es,ep,raw,he⟩:=d.raw;obtain rfl:u=Im _:=ru;have hl:es.size=xs.length:=by rw[<- HZ,he,G1]
   show#[_,_,kr.keysL,lD xs,by rw[G1]; exact d.1,λB hB E Q' h=>nW (qN d.2.1) hB raw (by rw[hl]; exact d.1) λh' tk acc hk' hle ha=>?_]
   rw[jT he ha];exact h h' tk hk' hle
 | _=>cases e
def lE {h':Iv}{tk c:G9}{D:Hb}{ws:G0 W}{vs:G0 V}{us:G0 G4}(I:Inv X J Y H s)(so:StoreOk X.w X.K A H S)(r:RelL X.K A H ws vs)(rv:Vals vs us)(hz:us.length<=sizeLine)(hk:∀b o,s.heap.get? b=gV o->h'.get? b=gV o)(hD:s.heap.objs.size<=D)
  (ho:h'.get? D=gV { cls:=.type "list",data:=.seq us.toArray c }):PostE X J Y A H (S++[.lst ws]) (.ref S.length) (.ref D) { s with heap:=h',toks:=tk }:=by
 have hn:H D=td:=I.hok.fresh hD;show#[.ref D,_,A++[D],I.laid (a:=D) (o:=.lst vs) (t':=tk) hk hD #[by rw[L2.Vals.length rv]; exact hz,us,c,rv,ho],rfl,dU hn,so.push hn r,.ref ?_]
 rw[<- so.len]; simp
def mM (hh:X.A.handled=td)(hu:X.A.units+12 < cLine):LCall X (.builtin "sorted") g9:=by
 intro J s Y H A S xs vs us w S' I so rl rv e;cases rl with
 | nil=>cases e
 | cons r t=>
  cases t with
  | cons _ _=>cases e
  | nil=>
   cases rv with
   | cons ru rv2=>
    cases rv2;dsimp only[g9]at e;split at e
    ·rename_i ws hw;split at e
     ·rename_i ks hk;split at e
      ·rename_i hok;cases e;obtain⟨vs',us',r1,rv1,hz,hcol⟩:=sy hh I so r ru hw
       (dsimp only[mJ]at hok; simp only[G8,HM]at hok)
       obtain⟨⟨h64,hd⟩,hok⟩:=hok;have hws:T.ws ks=ws:=W.ts_w hk;have hT:IsTs s.heap ks us':=fZ I ks (hws ▸ r1) rv1;have hl:us'.length=ks.length:=hT.length.symm;have sk:2<=us'.length->(yt ks).isSome=true/\jR ks=true:=λh2=>by
        rcases Jc _ _ ▸ hok with h|h
        ·simp only[HM]at h; omega
        ·simpa using h
       show sw (vs:=us') (lt:=Ag ks) (κ:=uL ((yt ks).getD 0)) ∅ (λQ' hQ'=>hcol X.A.in1 hh _ Q' hQ') (λh2 h' tk hk' Q hq=>?_) (λh2 h' tk hk' i j hi hj Q hq=>?_) λD h' tk c hk' hD ho=>?_
       ·obtain⟨q1,q2⟩:=sk h2;obtain⟨c,hc⟩:=IA.mp q1;rw[hc]at hq;exact Bz (s:={ s with heap:=h',toks:=tk }) (hT.kept λb o _ e=>hk' b o e) h2 hc hq
       ·obtain⟨q1,q2⟩:=sk h2;obtain⟨c,hc⟩:=IA.mp q1;rw[hc];have hi':i < ks.length:=∅
        have hj':j < ks.length:=∅
        have g:=(hT.kept (h':=h') λb o _ e=>hk' b o e)
        have e1:us'.getD i Ix=us'[i]:=by simp[hi]
        have e2:us'.getD j Ix=us'[j]:=by simp[hj]
        rw[e1,e2];have b1:=dW (ks:=ks) i hi';have b2:=dW (ks:=ks) j hj';exact yu (s:={ s with heap:=h',toks:=tk }) (d:=d8) (c:=c) (by rw[bg,bg]; unfold d8; omega) ∅ ∅ (g.get i hi' hi) (g.get j hj' hj) (uM q2 hi' hj') (yv hc (Iu hi') (Iu hj')) hq
       ·exact lE I so (uN r1) (sx rv1) (by rw[nZ]; exact hz) hk' hD ho
      ·cases e
     ·cases e
    ·cases e
def n6 (hh:X.A.handled=td):LCall X (.type "list") jS:=by
 intro J s Y H A S xs vs us w S' I so rl rv e
 by_cases hd:∃i U,xs=[.ref i]/\kL S i=gV U
 ·obtain⟨i,U,rfl,hk⟩:=hd
  (dsimp only[jS]at e; simp only[hk]at e)
  cases e;cases rl with
  | cons r t=>
   cases t;cases rv with
   | cons ru rv2=>
    cases rv2;cases r with
    | ref ea=>
     obtain⟨xs,rd,kr⟩:=fJ so hk ea;have d:=cw I rd;obtain⟨es,ep,raw,he⟩:=d.raw;obtain rfl:_=Im _:=ru;have hl:es.size=xs.length:=by rw[<- HZ,he,G1]
     show PySem.W.kdl_call (qN d.2.1) hh raw (by rw[hl]; exact d.1) λh' tk acc' c' hk' hD ha=>?_
     have ea':=jT he ha;show lE (us:=acc'.toList) I so kr.keysL (ea' ▸ lD xs) (by rw[ea',G1]; exact d.1) hk' (Hj _) (c:=c') ?_
     simpa using hD
 ·have:jS xs S=gD xs S:=by
   unfold jS;split
   ·rename_i i;split
    ·rename_i U hk;exact absurd #[i,U,rfl,hk] hd
    ·rfl
   ·rfl
  rw[this]at e;exact gH J s Y H A S xs vs us w S' I so rl rv e
end
open PySem.W (KasT kas_sort kas_asc kas_desc kas_tail3 kas_descPart kas_count kas_place kas_bin kas_rev)
abbrev gt (p:Io G9)(i:G9):G9:=p.getD i 0
end Mi
namespace Mi
open PySem PySem.Spec PyProof.Rows L2
def uO {α:Type}{lt:G9->G9->HA}{d:α}{xs:G0 α}:(eE lt d xs).Perm xs:=by
 unfold eE;split
 ·exact .refl _
 ·have p:Pm xs.length (mH lt (Od xs.length)):=mI (jz ∅)
  show(Qh _ p).trans ?_;have:(Ho xs.length).map (λi=>xs.getD i d)=xs:=by
   apply Lh
   ·simp
   ·intro k h1 h2; simp[h2]
  rw[this]
abbrev jU (xs:G0 W)(S:aa):G7 (W×aa):=match xs with
 | [.ref i]=>match uC S i with
  | some (lo,hi)=>if -(2 ^ 62)<=lo/\lo < 2 ^ 62/\-(2 ^ 62)<=hi/\hi < 2 ^ 62/\(hi - lo).toNat<=sizeLine then gV (.tup (yp lo (hi - lo).toNat),S)else td
  | none=>jN [.ref i] S
 | xs=>jN xs S
section
variable{prog:HP}{w:Ii}{A:HY}{E:G4->G5->Prop}{s:G5}
def kQ {Q:G0 G4->G5->Prop}{r:Hb}{a b c:Hg}{t u v:Qj}{n:G9}(hh:A.handled=td)(hr:P5 s.heap r a b c t u v)(hsmall:Lo a b c=true)
  (hn:Jo a b c=n) (hlen:n<=2 ^ 24)
  (hQ:∀h' tk (acc:Io G4),(∀b o,s.heap.get? b=gV o->h'.get? b=gV o)->s.heap.objs.size<=h'.objs.size->Mp (λi v=>∃t,v=.int (a+i*c) t) acc n->Q acc.toList { s with heap:=h',toks:=tk }):wpAny (model prog w) A (collect (.ref r)) Q E s:=by
 unfold collect;show G2 (MQ (Jm F.entry_proto_collect ?_));rw[IZ F.plain_proto_collect _];change wpAny _ A.in1 (newList [] >>= λl=>again (.builtin "list.__iadd__" #[[l,.ref r],[]])) _ _ s
 show G2 (Ip ?_);show Hd #[Kq F.plain_list_iadd _,Jm F.entry_list_iadd ?_];rw[IZ F.plain_list_iadd _];change wpAny _ A.in1 (JN (.ref s.heap.objs.size) (.ref r) (.ref s.heap.objs.size)) _ _ _;have hS:(s.heap.push { cls:=.type "list",data:=.seq ([]:G0 G4).toArray }).get? s.heap.objs.size=gV { cls:=.type "list",data:=.seq #[] 0 }:=Hv _ rfl;have fin':∀s',(∃h' tk acc c',s'={ s with heap:=h',toks:=tk }/\(∀b o,s.heap.get? b=gV o->h'.get? b=gV o)/\h'.get? s.heap.objs.size=gV { cls:=.type "list",dict:=td,data:=.seq acc c',slots:=#[] }/\Mp (λi v=>∃t,v=.int (a+i*c) t) acc n)->wpAny (model prog w) A (do
   let o <- load s.heap.objs.size
   match o.data with
   | .seq xs _=>pure xs.toList
   | _=>unsupported "internal:collect") Q E s':=by
  rintro s' ⟨h',tk,acc,c',rfl,hk,hS',hacc⟩;exact G2 (Nn hS' (Hd (hQ h' tk acc hk (K1 (Hw hS')) hacc)))
 show Jn (wpAny_extend_range (A:=A) (s:={ s with heap:=s.heap.push { cls:=.type "list",data:=.seq ([]:G0 G4).toArray } }) (R:=λr s'=>r=.ok (.ret (.ref s.heap.objs.size))/\∃h' tk acc c',s'={ s with heap:=h',toks:=tk }/\(∀b o,s.heap.get? b=gV o->h'.get? b=gV o)/\h'.get? s.heap.objs.size=gV { cls:=.type "list",dict:=td,data:=.seq acc c',slots:=#[] }/\Mp (λi v=>∃t,v=.int (a+i*c) t) acc n) hh (Ha _ hr) hsmall hn hlen _ _ 0 hS λh' tk acc' c' hk hS' hacc=>#[rfl,h',tk,acc',c',rfl,λb o e=>hk b o (HL (Hw e)) (Ha _ e),hS',hacc]) (λfin s' h=>?_) (λe s' h=>?_)
 ·cases fin with
  | done f=>
   obtain⟨e,h⟩:=h;cases e;exact fin' s' h
  | again c'=>exact#[h.1,Mj h.2 λr s'' hr=>by obtain⟨rfl,hr⟩:=hr; exact fin' s'' hr]
 ·exact absurd h.1 (by simp)
def iO {Q₁:G4->G5->Prop}{r:Hb}{a b c:Hg}{t u v:Qj}{n:G9}(hh:A.handled=td)(hr:P5 s.heap r a b c t u v)(hsmall:Lo a b c=true)
  (hn:Jo a b c=n) (hlen:n<=2 ^ 24)
  (h:∀(h':Iv) (tk:G9) (acc:Io G4),(∀b o,s.heap.get? b=gV o->h'.get? b=gV o)->s.heap.objs.size<=h'.objs.size->Mp (λi v=>∃t,v=.int (a+i*c) t) acc n->Q₁ (.ref h'.objs.size) { s with heap:=h'.push { cls:=.type "tuple",data:=.seq acc },toks:=tk }) :
  codeAny (model prog w) A (.call (.builtin "tuple.__new__") #[[.type "tuple",.ref r],[]]) (wants Q₁ E) s:=by
 show codeAny_of_tree ?_;change wpAny _ A.in1 (do checkBuiltinCall "tuple.__new__" #[[.type "tuple",.ref r],[]]; again (.builtin "tuple.__new__" #[[.type "tuple",.ref r],[]])) _ _ s
 show G2 (MN (F.newCall_tuple_1 _) (Hd #[Kq F.plain_tuple_new _,Jm F.entry_tuple_new ?_]));rw[IZ F.plain_tuple_new _];have hsub:=PySem.sub_tuple_self;have hinit:=PySem.init_tuple_lookup;have hmh:=PySem.madeHere_tuple;have hTI:s.TypeIs (.ref r) "range":=#[_,hr,rfl];have hh1:A.in1.handled=td:=by simp[hh]
 wp_walk using Lr hTI,kQ (A:=A.in1) hh1 hr hsmall hn hlen
 intro h' tk acc hk hle hacc;change wpAny _ _ (Jh acc.toList.toArray >>= λv=>ret v) _ _ _
 unfold Jh;show G2 (Ip ?_ (by change acc.toList.toArray.size<=sizeLine; simp only[Array.toArray_toList]; rw[hacc.1,IE]; omega))
 show Hd ?_;have e:acc.toList.toArray=acc:=by simp
 rw[e];exact h h' tk acc hk hle hacc
def iP {Q:G4->G5->Prop}{r:Hb}{a b c:Hg}{t u v:Qj}{n:G9}(hh:A.handled=td)(hr:P5 s.heap r a b c t u v)(hsmall:Lo a b c=true)
  (hn:Jo a b c=n) (hlen:n<=2 ^ 24)
  (hQ:∀(h':Iv) (tk:G9) (acc:Io G4),(∀b o,s.heap.get? b=gV o->h'.get? b=gV o)->s.heap.objs.size<=h'.objs.size->Mp (λi v=>∃t,v=.int (a+i*c) t) acc n->Q (.ref h'.objs.size) { s with heap:=h'.push { cls:=.type "tuple",data:=.seq acc },toks:=tk }) :
  wpAny (model prog w) A (call (.type "tuple") [.ref r]) Q E s:=by
 show callType_codes (Q₁:=λobj s₁=>s₁.TypeIs obj "tuple"/\Q obj s₁) F.called_tuple (F.typeCall_tuple_1 _) F.entry_object_init
  (iO (by simp[hh]) hr hsmall hn hlen λh' tk acc hk hle hacc=>#[#[_,Hv _ rfl,rfl],hQ h' tk acc hk hle hacc]) λobj s₁ h₁=>?_
 exact#[h₁.1,F.args_object_init_2 obj _,object_init_meets F.called_tuple.init.lookup F.called_tuple.made #v[] prog w A.in1 _ s₁ #[h₁.1,rfl,h₁.2]]
end
section
variable{X:Cx}{J:G0 (Hb×Je)}{Y:L2.St}{H:Hp}{s:G5}{A:G0 Hb}{S:aa}
def mN (hh:X.A.handled=td):LCall X (.type "tuple") jU:=by
 intro J s Y H A S xs vs us w S' I so rl rv e;unfold jU at e;split at e
 ·rename_i i;split at e
  ·rename_i lo hi hr;split at e
   ·rename_i hb;cases e;obtain⟨a,ea,rfl⟩:=qJ (xs:=[]) rl rv;obtain⟨b1,b2,b3,b4,b5⟩:=hb;have hH:H a=gV (.rng lo hi):=by
     unfold uC at hr;split at hr
     ·rename_i hx; cases hr; exact so.obj i _ a hx ea
     ·cases hr
    obtain⟨t,u,v,ho⟩:=I.hok a _ hH;have hn:Jo lo hi 1=((hi - lo).toNat:G9):=by rw[Nb]; split <;> omega
    show iP hh ho (Pf b1 b2 b3 b4) hn b5 λh' tk acc hk hle hacc=>?_
    have hv:Vals ((Ho (hi - lo).toNat).map λ(k:G9)=>V.int (lo+(k:Hg))) acc.toList:=by
     show mC (by rw[G1,HG,HZ,hacc.1]) λi v u e1 e2=>?_
     rw[Hc,G6]at e1;obtain⟨k,e1,rfl⟩:=e1;obtain⟨hk,rfl⟩:=Hm.mp e1;obtain⟨t,rfl⟩:=hacc.2 i u (by rw[<- Jf]; exact e2)
     exact#[t,by simp]
    have hnn:H h'.objs.size=td:=I.hok.fresh hle;show#[.ref h'.objs.size,_,A,I.laid (a:=h'.objs.size) (o:=.tup ((Ho (hi - lo).toNat).map λ(k:G9)=>V.int (lo+(k:Hg)))) (t':=tk) (λb o e=>Ha _ (hk b o e)) hle #[#[by simpa using b5,NoD.new _ _ _],acc.toList,hv,?_],rfl,dj (.inl hnn),so.lay hnn,.tup (.inl (.inl ba)) (mD _)]
    exact#[_,Hv _ rfl,rfl,0,by simp]
   ·cases e
  ·exact jd J s Y H A S _ vs us w S' I so rl rv e
 ·exact jd J s Y H A S _ vs us w S' I so rl rv e
def sA (hh:X.A.handled=td)(hu:X.A.units+12 < cLine):LCall X (.builtin "min") yw:=by
 intro J s Y H A S xs vs us w S' I so rl rv e;cases rl with
 | nil=>cases e
 | cons r t=>
  cases t with
  | cons _ _=>cases r <;> cases e
  | nil=>
   cases rv with
   | cons ru rv2=>
    cases rv2;cases r with
    | ref ea=>
     dsimp only[yw]at e;split at e
     ·rename_i ws hw;split at e
      ·rename_i ks hk;split at e
       ·rename_i hc;rw[G6]at e;obtain⟨w',e1,e2⟩:=e;cases e2;obtain⟨vs',h1,r1⟩:=cC so hw ea;obtain⟨its,rv1,p,hz⟩:=I.list h1;obtain rfl:_=Im _:=ru;have hws:T.ws ks=ws:=W.ts_w hk;have hT:IsTs s.heap ks its:=fZ I ks (hws ▸ r1) rv1;have hl:its.length=ks.length:=hT.length.symm;have hlw:ws.length=ks.length:=by rw[r1.length,L2.Vals.length rv1,hl]
        have hn:0 < ks.length:=by
         have:=(Hm.mp e1).1;omega
        show uI (items:=its.toArray) (bt:=Ag ks) hh p.isList (by simpa [hl]using hn) (λi j vi vj s' Q E hk' hi hj hq=>?_) λv h' tk hv hk'=>?_
        ·have hi':i < ks.length:=by
          have:=(JQ.mp hi).1
          simpa [hl]using this
         have hj':j < ks.length:=by
          have:=(JQ.mp hj).1
          simpa [hl]using this
         have g:=hT.kept (h':=s'.heap) λb o _ e=>hk' b o e
         have e1:vi=its[i]'∅:=by
          have:=(JQ.mp hi).2
          simpa using this.symm
         have e2:vj=its[j]'∅:=by
          have:=(JQ.mp hj).2
          simpa using this.symm
         subst e1 e2;have b1:=dW (ks:=ks) i hi';have b2:=dW (ks:=ks) j hj';exact Dz d8 _ _ _ _ X.A.in1 s' _ ∅ ∅ (g.get i hi' ∅) (g.get j hj' ∅) (by rw[bg]; unfold d8; omega) (uM hc.2 hi' hj') X.prog X.w _ _ hq
        ·have hv':its[mK ks]?=gV v:=by
          have:its.toArray.size=ks.length:=by simpa using hl
          rw[this]at hv
          simpa [mK]using hv
         obtain⟨v',q1,q2⟩:=r1.get e1;obtain⟨u',q3,q4⟩:=L2.Vals.get rv1 q1;rw[hv']at q3;cases q3;exact#[v',H,A,I.kept hk',q4,.refl,so,q2]
       ·cases e
      ·cases e
     ·cases e
    | _=>cases e
def lF:∀ {ws:G0 W} {bs:G0 HA},gI ws=gV bs->ws=bs.map W.bl
 | [],bs,h=>by cases h; rfl
 | .bl b::ws,bs,h=>by
  (dsimp only[gI]at h; simp only[G6]at h)
  obtain⟨r,h1,h2⟩:=h;subst h2;rw[lF h1]; rfl
 | .non::_,_,h|.int _::_,_,h|.str _::_,_,h|.tup _::_,_,h|.ref _::_,_,h=>by cases h
def pJ {bs:G0 HA}{vs:G0 V}{us:G0 G4}(r:RelL X.K A H (bs.map W.bl) vs)(rv:Vals vs us):us=bs.map JH:=by
 induction bs generalizing vs us with
 | nil=>cases r; cases rv; rfl
 | cons b bs ih=>
  cases r with
  | cons r1 r2=>
   cases rv with
   | cons v1 v2=>
    cases r1;obtain rfl:_=JH b:=v1;rw[ih r2 v2]; rfl
def sB (bs:G0 HA):(Ho bs.length).all (λi=>bs.getD i false)=bs.all id:=by
 induction bs with
 | nil=>rfl
 | cons b bs ih=>simp[Mm,K7,K9]at ih ⊢; rw[ih]
def BB {id:IN}{fb:G0 HA->HA}{g:G0 W->aa->G7 (W×aa)}(hg:∀xs S,g xs S=match xs with|[.ref i]=>(match gG S i with|some ws=>(gI ws).map λbs=>(.bl (fb bs),S)|none=>td)|_=>td)
  (hcall:∀ {s:G5} {x:G4} {Q:G4->G5->Prop} {E:G4->G5->Prop} {bs:G0 HA},wpAny (model X.prog X.w) X.A.in1 (pyIter x) (λit s₂=>∃I fp wr P St,it=.ref I/\Qe X.prog X.w X.A.in1 I fp wr bs.length P St/\St 0 s₂.heap/\TruthOf X.prog X.w X.A.in1 P (λi=>bs.getD i false)/\
   ∀h' tk,(∀b o,b∉wr->s₂.heap.get? b=gV o->h'.get? b=gV o)->Q (.bool (fb bs)) { s₂ with heap:=h',toks:=tk }) E s->wpAny (model X.prog X.w) X.A (call (.builtin id) [x]) Q E s)
  (hh:X.A.handled=td):LCall X (.builtin id) g:=by
 intro J s Y H A S xs vs us w S' I so rl rv e;rw[hg]at e;cases rl with
 | nil=>cases e
 | cons r t=>
  cases t with
  | cons _ _=>cases r <;> cases e
  | nil=>
   cases rv with
   | cons ru rv2=>
    cases rv2;cases r with
    | @ref ri ad ea=>
     simp only at e;split at e
     ·rename_i ws hw;rw[G6]at e;obtain⟨bs,e1,e2⟩:=e;cases e2;obtain⟨vs',h1,r1⟩:=cC so hw ea;obtain⟨its,rv1,p,hz⟩:=I.list h1;obtain rfl:_=Im _:=ru;rw[lF e1]at r1;have hits:=pJ r1 rv1;show hcall (bs:=bs) ?_;show LR p.isList ?_;have hlt:ad < s.heap.objs.size:=by obtain⟨_,ho,_⟩:=p.isList; exact Hw ho
      have W:=PV (prog:=X.prog) (w:=X.w) (A:=X.A.in1) hh s.heap.objs.size ad (HL hlt) its.toArray;have hsz:its.toArray.size=bs.length:=by rw[Hq,hits,G1]
      rw[hsz]at W;show#[_,_,_,_,_,rfl,W,#[#[_,Hv _ rfl,rfl,rfl],?_],λi v s' Q E hi hq=>?_,λh' tk hk=>?_]
      ·obtain⟨o,ho,hc⟩:=p.isList;exact#[o,Ha _ ho,hc]
      ·have hb:bs[i]?.map JH=gV v:=by rw[<- Hc,<- hits]; simpa using hi
       cases q:bs[i]? with
       | none=>rw[q]at hb; cases hb
       | some b=>
        rw[q]at hb;cases hb;have eb:bs.getD i false=b:=by simp[q]
        have hq:Q (bs.getD i false) s':=hq;rw[eb]at hq;exact IU hq
      ·show#[.bl (fb bs),H,A,I.kept (λb o e=>hk b o (λz=>?_) (Ha _ e)),rfl,.refl,so,.bl]
       have hb:=Hw e;rw[Hk.mp z]at hb;exact Iw _ hb
     ·cases e
    | _=>cases e
def sC (hh:X.A.handled=td):LCall X (.builtin "all") BA:=
 BB (fb:=λbs=>bs.all id) (λxs S=>rfl) (λ{s x Q E bs} h=>call_all_walk (Jn h (λit s₂ #[I,fp,wr,P,St',a,b,c,d,f]=>#[I,fp,wr,_,P,St',_,a,b,c,d,λh' tk hk=>by rw[sB]; exact f h' tk hk]) λ_ _ e=>e)) hh
end
noncomputable abbrev FA:=Fm->aa->G7 (G0 W×aa)
noncomputable abbrev FT:=Fm->aa->G7 (HA×aa)
inductive Out where
 | nx (Z:Fm)|rt (w:W)|bk (Z:Fm)|ct (Z:Fm)
noncomputable abbrev FS:=Fm->aa->G7 (Out×aa)
section
variable (X:Cx)
inductive tE (f:FE)(Y:L2.St)(H:Hp)(Q:VK):Prop
 | mk (A:G0 Hb) (Z:Fm) (S:aa) (w:W) (S':aa) (er:EnvRel X.K A H Z Y) (so:StoreOk X.w X.K A H S) (e:f Z S=gV (w,S')) (q:∀v H',EndV X.w X.K A H S' w v H'->Q v H'):tE f Y H Q
abbrev EndB (A:G0 Hb)(H:Hp)(S':aa)(k:HA):HA->Hp->Prop:=λb H'=>b=k/\∃A',Ext X.K A H A' H'/\StoreOk X.w X.K A' H' S'
inductive tT (f:FT)(Y:L2.St)(H:Hp)(Q:HA->Hp->Prop):Prop
 | mk (A:G0 Hb) (Z:Fm) (S:aa) (k:HA) (S':aa) (er:EnvRel X.K A H Z Y) (so:StoreOk X.w X.K A H S) (e:f Z S=gV (k,S')) (q:∀b H',EndB X A H S' k b H'->Q b H'):tT f Y H Q
inductive EndA (A:G0 Hb)(H:Hp)(S':aa)(ws:G0 W)(vs:G0 V)(H':Hp):Prop
 | mk (A':G0 Hb) (e:Ext X.K A H A' H') (so:StoreOk X.w X.K A' H' S') (r:RelL X.K A' H' ws vs):EndA A H S' ws vs H'
inductive tA (f:FA)(Y:L2.St)(H:Hp)(Q:G0 V->Hp->Prop):Prop
 | mk (A:G0 Hb) (Z:Fm) (S:aa) (ws:G0 W) (S':aa) (er:EnvRel X.K A H Z Y) (so:StoreOk X.w X.K A H S) (e:f Z S=gV (ws,S')) (q:∀vs H',EndA X A H S' ws vs H'->Q vs H'):tA f Y H Q
inductive EndF (A:G0 Hb)(H:Hp)(o:Out)(S':aa)(c:Fm->Out)(Y':L2.St)(H':Hp):Prop
 | mk (Z':Fm) (A':G0 Hb) (eo:o=c Z') (e:Ext X.K A H A' H') (so:StoreOk X.w X.K A' H' S') (er:EnvRel X.K A' H' Z' Y'):EndF A H o S' c Y' H'
inductive EndR (A:G0 Hb)(H:Hp)(o:Out)(S':aa)(v:V)(H':Hp):Prop
 | mk (w:W) (A':G0 Hb) (eo:o=.rt w) (e:Ext X.K A H A' H') (so:StoreOk X.w X.K A' H' S') (r:Rel X.K A' H' w v):EndR A H o S' v H'
abbrev EndS (A:G0 Hb)(H:Hp)(o:Out)(S':aa):Ends where
 nx:=EndF X A H o S' .nx
 rt:=EndR X A H o S'
 bk:=EndF X A H o S' .bk
 ct:=EndF X A H o S' .ct
structure Imp (E D:Ends):Prop where
 nx:∀Y H,E.nx Y H->D.nx Y H
 rt:∀v H,E.rt v H->D.rt v H
 bk:∀Y H,E.bk Y H->D.bk Y H
 ct:∀Y H,E.ct Y H->D.ct Y H
inductive tS (f:FS)(D:Ends)(Y:L2.St)(H:Hp):Prop
 | mk (A:G0 Hb) (Z:Fm) (S:aa) (o:Out) (S':aa) (er:EnvRel X.K A H Z Y) (so:StoreOk X.w X.K A H S) (e:f Z S=gV (o,S')) (d:Imp (EndS X A H o S') D):tS f D Y H
noncomputable abbrev GE (e:HB)(f:FE):Prop:=PE X e (tE X f)
noncomputable abbrev GT (e:HB)(f:FT):Prop:=PT X e (tT X f)
noncomputable abbrev GW (e:HB)(f:FT):Prop:=PW X e (tT X f)
noncomputable abbrev GA (es:G0 HB)(f:FA):Prop:=PA X es (tA X f)
noncomputable abbrev GS (st:J8)(f:FS):Prop:=PS X st (tS X f)
noncomputable abbrev GSs (sts:G0 J8)(f:FS):Prop:=PSs X sts (tS X f)
end
def Imp.trans {E D F:Ends}(a:Imp E D)(b:Imp D F):Imp E F:=#[λ_ _ h=>b.nx _ _ (a.nx _ _ h),λ_ _ h=>b.rt _ _ (a.rt _ _ h),λ_ _ h=>b.bk _ _ (a.bk _ _ h),λ_ _ h=>b.ct _ _ (a.ct _ _ h)]
section
variable{X:Cx}
def GE.of {e:HB}{t:TE}{f:FE}(h:PE X e t)(hf:∀(Y:L2.St) (H:Hp) (A:G0 Hb) (Z:Fm) (S:aa) (w:W) (S':aa),EnvRel X.K A H Z Y->StoreOk X.w X.K A H S->f Z S=gV (w,S')->∀Q:VK,(∀v H',EndV X.w X.K A H S' w v H'->Q v H')->t Y H Q):GE X e f:=
 λJ s Y H Q I #[A,Z,S,w,S',er,so,e1,hq]=>h J s Y H Q I (hf Y H A Z S w S' er so e1 Q hq)
def GT.of {e:HB}{t:TT}{f:FT}(h:PT X e t)(hf:∀(Y:L2.St) (H:Hp) (A:G0 Hb) (Z:Fm) (S:aa) (k:HA) (S':aa),EnvRel X.K A H Z Y->StoreOk X.w X.K A H S->f Z S=gV (k,S')->∀Q:HA->Hp->Prop,(∀b H',EndB X A H S' k b H'->Q b H')->t Y H Q):GT X e f:=
 λJ s Y H Q I #[A,Z,S,w,S',er,so,e1,hq]=>h J s Y H Q I (hf Y H A Z S w S' er so e1 Q hq)
def GW.of {e:HB}{t:TT}{f:FT}(h:PW X e t)(hf:∀(Y:L2.St) (H:Hp) (A:G0 Hb) (Z:Fm) (S:aa) (k:HA) (S':aa),EnvRel X.K A H Z Y->StoreOk X.w X.K A H S->f Z S=gV (k,S')->∀Q:HA->Hp->Prop,(∀b H',EndB X A H S' k b H'->Q b H')->t Y H Q):GW X e f:=
 λwh J s Y H Q I #[A,Z,S,w,S',er,so,e1,hq]=>h wh J s Y H Q I (hf Y H A Z S w S' er so e1 Q hq)
def GA.of {es:G0 HB}{t:TA}{f:FA}(h:PA X es t)(hf:∀(Y:L2.St) (H:Hp) (A:G0 Hb) (Z:Fm) (S:aa) (ws:G0 W) (S':aa),EnvRel X.K A H Z Y->StoreOk X.w X.K A H S->f Z S=gV (ws,S')->∀Q:G0 V->Hp->Prop,(∀vs H',EndA X A H S' ws vs H'->Q vs H')->t Y H Q):GA X es f:=
 λpos J s Y H Q I #[A,Z,S,w,S',er,so,e1,hq]=>h pos J s Y H Q I (hf Y H A Z S w S' er so e1 Q hq)
def GS.of {st:J8}{t:TS}{f:FS}(h:PS X st t)(hf:∀(Y:L2.St) (H:Hp) (A:G0 Hb) (Z:Fm) (S:aa) (o:Out) (S':aa),EnvRel X.K A H Z Y->StoreOk X.w X.K A H S->f Z S=gV (o,S')->∀D:Ends,Imp (EndS X A H o S') D->t D Y H):GS X st f:=
 λJ s Y H D I #[A,Z,S,o,S',er,so,e1,hq]=>h J s Y H D I (hf Y H A Z S o S' er so e1 D hq)
def GSs.of {st:G0 J8}{t:TS}{f:FS}(h:PSs X st t)(hf:∀(Y:L2.St) (H:Hp) (A:G0 Hb) (Z:Fm) (S:aa) (o:Out) (S':aa),EnvRel X.K A H Z Y->StoreOk X.w X.K A H S->f Z S=gV (o,S')->∀D:Ends,Imp (EndS X A H o S') D->t D Y H):GSs X st f:=
 λJ s Y H D I #[A,Z,S,o,S',er,so,e1,hq]=>h J s Y H D I (hf Y H A Z S o S' er so e1 D hq)
def EndV.after {A A1:G0 Hb}{H H1:Hp}{S':aa}{w:W}{v:V}{H':Hp}(e:Ext X.K A H A1 H1)(h:EndV X.w X.K A1 H1 S' w v H'):EndV X.w X.K A H S' w v H':=by
 obtain⟨A',x,y,z⟩:=h;exact#[A',e.trans x,y,z]
def EndB.after {A A1:G0 Hb}{H H1:Hp}{S':aa}{k b:HA}{H':Hp}(e:Ext X.K A H A1 H1)(h:EndB X A1 H1 S' k b H'):EndB X A H S' k b H':=by
 obtain⟨h1,A',x,y⟩:=h;exact#[h1,A',e.trans x,y]
def EndS.after {A A1:G0 Hb}{H H1:Hp}{S':aa}{o:Out}(e:Ext X.K A H A1 H1):Imp (EndS X A1 H1 o S') (EndS X A H o S'):=
 #[λ_ _ #[Z',A',a,b,c,d]=>#[Z',A',a,e.trans b,c,d],λ_ _ #[Z',A',a,b,c,d]=>#[Z',A',a,e.trans b,c,d],λ_ _ #[Z',A',a,b,c,d]=>#[Z',A',a,e.trans b,c,d],λ_ _ #[Z',A',a,b,c,d]=>#[Z',A',a,e.trans b,c,d]]
abbrev fC (w:W):FE:=λ_ S=>gV (w,S)
abbrev fV (i:G9):FE:=λZ S=>match Z[i]? with
 | some (gV w)=>gV (w,S)
 | _=>td
def n8 {e:HB}{v:V}{w:W}(h:PE X e (tC v))(r:∀A H,Rel X.K A H w v):GE X e (fC w):=
 GE.of h λY H A Z S w' S' er so e Q hq=>by cases e; exact hq _ _ (.here so (r A H))
def FU {i:G9}{e:HB}(h:PE X e (C3 i)):GE X e (fV i):=GE.of h λY H A Z S w S' er so e Q hq=>by
 unfold fV at e;split at e
 ·rename_i w' hw;cases e;obtain⟨v,h1,h2⟩:=er.2 i _ hw;exact#[v,h1,hq _ _ (.here so h2)]
 ·cases e
abbrev yy (g:W->W->aa->G7 (W×aa))(fa fb:FE):FE:=λZ S=>match fa Z S with
 | some (x,S1)=>match fb Z S1 with
  | some (y,S2)=>g x y S2
  | none=>td
 | none=>td
def E1 {fa fb:FE}{g:W->W->aa->G7 (W×aa)}{Z:Fm}{S:aa}{r:W×aa}(e:yy g fa fb Z S=gV r):∃x S1 y S2,fa Z S=gV (x,S1)/\fb Z S1=gV (y,S2)/\g x y S2=gV r:=by
 unfold yy at e;split at e
 ·rename_i x S1 h1;split at e
  ·rename_i y S2 h2;exact#[x,S1,y,S2,h1,h2,e]
  ·cases e
 ·cases e
def fK {fa fb:FE}{Z:Fm}{S S1 S2:aa}{x y:W}{Y:L2.St}{H:Hp}{A:G0 Hb}{R:V->V->Hp->Prop}(er:EnvRel X.K A H Z Y)(so:StoreOk X.w X.K A H S)(h1:fa Z S=gV (x,S1))(h2:fb Z S1=gV (y,S2))
  (h:∀a b H2 A2,Ext X.K A H A2 H2->StoreOk X.w X.K A2 H2 S2->Rel X.K A2 H2 x a->Rel X.K A2 H2 y b->R a b H2):tE X fa Y H λa H1=>tE X fb Y H1 λb H2=>R a b H2:=by
 show#[A,Z,S,x,S1,er,so,h1,λa H1 #[A1,e1,o1,r1]=>?_]
 show#[A1,Z,S1,y,S2,er.mono e1,o1,h2,λb H2 #[A2,e2,o2,r2]=>?_]
 exact h a b H2 A2 (e1.trans e2) o2 (r1.mono e2) r2
inductive rOp (X:Cx)(g:W->W->aa->G7 (W×aa))(a b:V)(H:Hp)(Q:VK):Prop
 | mk (A:G0 Hb) (S:aa) (x y w:W) (S':aa) (so:StoreOk X.w X.K A H S) (rx:Rel X.K A H x a) (ry:Rel X.K A H y b) (e:g x y S=gV (w,S')) (q:∀v H',EndV X.w X.K A H S' w v H'->Q v H'):rOp X g a b H Q
inductive rCall (X:Cx)(g:G0 W->aa->G7 (W×aa))(vs:G0 V)(H:Hp)(Q:VK):Prop
 | mk (A:G0 Hb) (S:aa) (ws:G0 W) (w:W) (S':aa) (so:StoreOk X.w X.K A H S) (rl:RelL X.K A H ws vs) (e:g ws S=gV (w,S')) (q:∀v H',EndV X.w X.K A H S' w v H'->Q v H'):rCall X g vs H Q
def LOp.opr {f:G4->G4->Pq G4}{g:W->W->aa->G7 (W×aa)}(h:LOp X f g):OpR X f (rOp X g):=by
 intro J s Y H a b u v Q I ru rv ⟨A,S,x,y,w,S',so,rx,ry,e,hq⟩;exact be (h J s Y H A S x y a b u v w S' I so rx ru ry rv e) λu' s' #[v',H',A',I',r',e1,o1,z1]=>#[v',H',I',r',hq v' H' #[A',e1,o1,z1]]
def Ah {a b:HB}{op:NG}{pos:JE}{fa fb:FE}{g:W->W->aa->G7 (W×aa)}(ho:LOp X (binaryOp op) g)(ha:GE X a fa)(hb:GE X b fb):GE X (.BinOp a op b pos) (yy g fa fb):=
 GE.of (Di ho.opr ha hb) λY H A Z S w S' er so e Q hq=>by
  obtain⟨x,S1,y,S2,h1,h2,h3⟩:=E1 e;exact fK er so h1 h2 λa b H2 A2 e2 o2 r1 r2=>#[A2,S2,x,y,w,S',o2,r1,r2,h3,λv H' z=>hq v H' (z.after e2)]
abbrev uP (fa:FE):FE:=λZ S=>match fa Z S with
 | some (.int i,S1)=>gV (.int (-i),S1)
 | _=>td
def uQ {a:HB}{pos:JE}{fa:FE}(ha:GE X a fa):GE X (.UnaryOp .USub a pos) (uP fa):=
 GE.of (Dj Bj ha) λY H A Z S w S' er so e Q hq=>by
  unfold uP at e;split at e
  ·rename_i i S1 h1;cases e;show#[A,Z,S,_,_,er,so,h1,λv H1 #[A1,e1,o1,r1]=>?_]
   cases r1;exact#[_,rfl,hq _ _ #[A1,e1,o1,.int]]
  ·cases e
abbrev yz (o:COp)(fa fb:FE):FE:=yy (aJ o) fa fb
def BC {a b:HB}{o:COp}{pos:JE}{fa fb:FE}(hu:X.A.units+fI < cLine)(ha:GE X a fa)(hb:GE X b fb)(hm:behindInMarks o.py b=false):GE X (.Compare a [o.py] [b] pos) (yz o fa fb):=
 GE.of (xL (nT hu o).opr ha hb hm) λY H A Z S w S' er so e Q hq=>by
  obtain⟨x,S1,y,S2,h1,h2,h3⟩:=E1 e;exact fK er so h1 h2 λa b H2 A2 e2 o2 r1 r2=>#[A2,S2,x,y,w,S',o2,r1,r2,h3,λv H' z=>hq v H' (z.after e2)]
abbrev og (f:FE):FT:=λZ S=>match f Z S with
 | some (.bl k,S')=>gV (k,S')
 | _=>td
def BE {a b:HB}{o:COp}{pos:JE}{fa fb:FE}(hu:X.A.units+fI < cLine)(ha:GE X a fa)(hb:GE X b fb)(hm:behindInMarks o.py b=false):GT X (.Compare a [o.py] [b] pos) (og (yz o fa fb)):=
 GT.of (xM (nT hu o).opr ha hb hm) λY H A Z S k S' er so e Q hq=>by
  unfold og at e;split at e
  ·rename_i k' S'' h0;cases e;obtain⟨x,S1,y,S2,h1,h2,h3⟩:=E1 h0;show fK er so h1 h2 λa b H2 A2 e2 o2 r1 r2=>#[A2,S2,x,y,_,_,o2,r1,r2,h3,λv H' #[A',z1,z2,z3]=>?_]
   cases z3;exact#[k,rfl,hq _ _ #[rfl,A',e2.trans z1,z2]]
  ·cases e
abbrev fL (o o':COp)(fa fb fc:FE):FE:=λZ S=>match fa Z S with
 | some (x,S1)=>match fb Z S1 with
  | some (y,S2)=>match r9 o x y S2 with
   | some true=>match fc Z S2 with
    | some (z,S3)=>dF o' y z S3
    | none=>td
   | some false=>gV (.bl false,S2)
   | none=>td
  | none=>td
 | none=>td
def jV {o o':COp}{fa fb fc:FE}{Y:L2.St}{H:Hp}{A:G0 Hb}{Z:Fm}{S:aa}{w:W}{S':aa}(er:EnvRel X.K A H Z Y)(so:StoreOk X.w X.K A H S)(e:fL o o' fa fb fc Z S=gV (w,S'))(Q:VK)(hq:∀v H',EndV X.w X.K A H S' w v H'->Q v H') :
  pe (rOp X (dF o))
   (rOp X (dF o')) (tE X fa) (tE X fb) (tE X fc) Y H Q:=by
 unfold fL at e;split at e
 ·rename_i x S1 h1;split at e
  ·rename_i y S2 h2;show fK er so h1 h2 λa b H2 A2 e2 o2 r1 r2=>?_
   split at e
   ·rename_i hc;split at e
    ·rename_i z S3 h3;show#[A2,S2,x,y,.bl true,S2,o2,r1,r2,by simp[dF,hc],λv H3 #[A3,z1,z2,z3]=>?_]
     cases z3;show#[true,rfl,?_];rw[HE rfl];show#[A3,Z,S2,z,S3,er.mono (e2.trans z1),z2,h3,λc H4 #[A4,y1,y2,y3]=>?_]
     exact#[A4,S3,y,z,w,S',y2,(r2.mono z1).mono y1,y3,e,λv H' q=>hq v H' (q.after ((e2.trans z1).trans y1))]
    ·cases e
   ·rename_i hc;cases e;show#[A2,S',x,y,.bl false,S',o2,r1,r2,by simp[dF,hc],λv H3 #[A3,z1,z2,z3]=>?_]
    cases z3;show#[false,rfl,?_];rw[HX Ht];exact hq _ _ #[A3,e2.trans z1,z2,.bl]
   ·cases e
  ·cases e
 ·cases e
def uR {a b c:HB}{o o':COp}{pos:JE}{fa fb fc:FE}(hu:X.A.units+fI < cLine)(ha:GE X a fa)(hb:GE X b fb)(hc:GE X c fc)(hm:lastMarks [o.py,o'.py] [b,c]=false):GE X (.Compare a [o.py,o'.py] [b,c] pos) (fL o o' fa fb fc):=
 GE.of (tY (gX hu o).opr (gX hu o').opr ha hb hc hm) λY H A Z S w S' er so e Q hq=>jV er so e Q hq
def uS {a b c:HB}{o o':COp}{pos:JE}{fa fb fc:FE}(hu:X.A.units+fI < cLine)(ha:GE X a fa)(hb:GE X b fb)(hc:GE X c fc)(hm:lastMarks [o.py,o'.py] [b,c]=false):GT X (.Compare a [o.py,o'.py] [b,c] pos) (og (fL o o' fa fb fc)):=
 GT.of (tZ (gX hu o).opr (gX hu o').opr ha hb hc hm) λY H A Z S k S' er so e Q hq=>by
  unfold og at e;split at e
  ·rename_i k' S'' h0;cases e;show jV er so h0 (λx H'=>∃k,x=.bl k/\Q k H') λv H' #[A',z1,z2,z3]=>?_
   cases z3;exact#[_,rfl,hq _ _ #[rfl,A',z1,z2]]
  ·cases e
abbrev gx (f:FE):FT:=λZ S=>match f Z S with
 | some (w,S')=>(dc S' w).map λk=>(k,S')
 | none=>td
def cD {e:HB}{f:FE}(h:GE X e f)(he:∀whole,isTrue e X.env whole=(do let v <- whole; standAt e.pos; holding [v] (truthy v))):GT X e (gx f):=by
 intro J s Y H Q I ⟨A,Z,S,k,S',er,so,e1,hq⟩;unfold gx at e1;split at e1
 ·rename_i w S1 h1;rw[G6]at e1;obtain⟨k',ek,e2⟩:=e1;cases e2;show isTrue_plain (be (h J s Y H (EndV X.w X.K A H _ w) I #[A,Z,S,w,_,er,so,h1,λ_ _ z=>z]) λv s1 #[x,H1,I1,r1,A1,e1,o1,z1]=>?_) (he _)
  exact FQ I1 o1 z1 r1 ek λs' I'=>#[H1,I',hq _ _ #[rfl,A1,e1,o1]]
 ·cases e1
abbrev uT (f g:FT):FT:=λZ S=>match f Z S with
 | some (true,S1)=>g Z S1
 | some (false,S1)=>gV (false,S1)
 | none=>td
abbrev DA (f g:FT):FT:=λZ S=>match f Z S with
 | some (true,S1)=>gV (true,S1)
 | some (false,S1)=>g Z S1
 | none=>td
abbrev yA (f:FT):FT:=λZ S=>match f Z S with
 | some (k,S1)=>gV (!k,S1)
 | none=>td
def uU {f g:FT}{Y:L2.St}{H:Hp}{A:G0 Hb}{Z:Fm}{S:aa}{k:HA}{S':aa}(er:EnvRel X.K A H Z Y)(so:StoreOk X.w X.K A H S)(e:uT f g Z S=gV (k,S'))(Q:HA->Hp->Prop)(hq:∀b H',EndB X A H S' k b H'->Q b H') :
  C4 (tT X f) (tT X g) Y H Q:=by
 unfold uT at e;split at e
 ·rename_i S1 h1;show#[A,Z,S,true,S1,er,so,h1,λb H1 #[z0,A1,z1,z2]=>?_]
  subst z0;rw[HE rfl];exact#[A1,Z,S1,k,S',er.mono z1,z2,e,λb H' q=>hq b H' (q.after z1)]
 ·rename_i S1 h1;cases e;show#[A,Z,S,false,_,er,so,h1,λb H1 #[z0,A1,z1,z2]=>?_]
  subst z0;rw[HX Ht];exact hq _ _ #[rfl,A1,z1,z2]
 ·cases e
def yB {f g:FT}{Y:L2.St}{H:Hp}{A:G0 Hb}{Z:Fm}{S:aa}{k:HA}{S':aa}(er:EnvRel X.K A H Z Y)(so:StoreOk X.w X.K A H S)(e:DA f g Z S=gV (k,S'))(Q:HA->Hp->Prop)(hq:∀b H',EndB X A H S' k b H'->Q b H') :
  Gp (tT X f) (tT X g) Y H Q:=by
 unfold DA at e;split at e
 ·rename_i S1 h1;cases e;show#[A,Z,S,true,_,er,so,h1,λb H1 #[z0,A1,z1,z2]=>?_]
  subst z0;rw[HE rfl];exact hq _ _ #[rfl,A1,z1,z2]
 ·rename_i S1 h1;show#[A,Z,S,false,S1,er,so,h1,λb H1 #[z0,A1,z1,z2]=>?_]
  subst z0;rw[HX Ht];exact#[A1,Z,S1,k,S',er.mono z1,z2,e,λb H' q=>hq b H' (q.after z1)]
 ·cases e
def yC {a:HB}{pos:JE}{f:FT}(h:GT X a f):GW X (.BoolOp .And [a] pos) f:=xD h
def BF {a:HB}{pos:JE}{f:FT}(h:GT X a f):GW X (.BoolOp .Or [a] pos) f:=AM h
def BG {a b:HB}{r:G0 HB}{pos:JE}{f g:FT}(h:GT X a f)(h2:GW X (.BoolOp .And (b::r) pos) g):GW X (.BoolOp .And (a::b::r) pos) (uT f g):=
 GW.of (AN h h2) λY H A Z S k S' er so e Q hq=>uU er so e Q hq
def DB {a b:HB}{r:G0 HB}{pos:JE}{f g:FT}(h:GT X a f)(h2:GW X (.BoolOp .Or (b::r) pos) g):GW X (.BoolOp .Or (a::b::r) pos) (DA f g):=
 GW.of (C5 h h2) λY H A Z S k S' er so e Q hq=>yB er so e Q hq
def BH {a:HB}{pos:JE}{f:FT}(h:GT X a f):GT X (.UnaryOp .Not a pos) (yA f):=
 GT.of (AO h) λY H A Z S k S' er so e Q hq=>by
  unfold yA at e;split at e
  ·rename_i k1 S1 h1;cases e;show#[A,Z,S,k1,_,er,so,h1,λb H1 #[z0,A1,z1,z2]=>?_]
   subst z0;exact hq _ _ #[rfl,A1,z1,z2]
  ·cases e
abbrev qQ (f g:FE):FE:=λZ S=>match f Z S with
 | some (.bl true,S1)=>g Z S1
 | some (.bl false,S1)=>gV (.bl false,S1)
 | _=>td
abbrev yD (f g:FE):FE:=λZ S=>match f Z S with
 | some (.bl true,S1)=>gV (.bl true,S1)
 | some (.bl false,S1)=>g Z S1
 | _=>td
abbrev qR (f:FE):FE:=λZ S=>match f Z S with
 | some (.bl k,S1)=>gV (.bl (!k),S1)
 | _=>td
def BI {a:HB}{op:PY}{pos:JE}{f:FE}(h:GE X a f):GE X (.BoolOp op [a] pos) f:=AQ h
def BJ {a b:HB}{r:G0 HB}{pos:JE}{f g:FE}(h:GE X a f)(h2:GE X (.BoolOp .And (b::r) pos) g):GE X (.BoolOp .And (a::b::r) pos) (qQ f g):=
 GE.of (AR h h2) λY H A Z S w S' er so e Q hq=>by
  unfold qQ at e;split at e
  ·rename_i S1 h1;show#[A,Z,S,_,S1,er,so,h1,λv H1 #[A1,z1,z2,z3]=>?_]
   cases z3;show#[true,rfl,?_];rw[HE rfl];exact#[A1,Z,S1,w,S',er.mono z1,z2,e,λb H' q=>hq b H' (q.after z1)]
  ·rename_i S1 h1;cases e;show#[A,Z,S,_,_,er,so,h1,λv H1 #[A1,z1,z2,z3]=>?_]
   cases z3;show#[false,rfl,?_];rw[HX Ht];exact hq _ _ #[A1,z1,z2,.bl]
  ·cases e
def DC {a b:HB}{r:G0 HB}{pos:JE}{f g:FE}(h:GE X a f)(h2:GE X (.BoolOp .Or (b::r) pos) g):GE X (.BoolOp .Or (a::b::r) pos) (yD f g):=
 GE.of (C8 h h2) λY H A Z S w S' er so e Q hq=>by
  unfold yD at e;split at e
  ·rename_i S1 h1;cases e;show#[A,Z,S,_,_,er,so,h1,λv H1 #[A1,z1,z2,z3]=>?_]
   cases z3;show#[true,rfl,?_];rw[HE rfl];exact hq _ _ #[A1,z1,z2,.bl]
  ·rename_i S1 h1;show#[A,Z,S,_,S1,er,so,h1,λv H1 #[A1,z1,z2,z3]=>?_]
   cases z3;show#[false,rfl,?_];rw[HX Ht];exact#[A1,Z,S1,w,S',er.mono z1,z2,e,λb H' q=>hq b H' (q.after z1)]
  ·cases e
def BK {a:HB}{pos:JE}{f:FE}(h:GE X a f):GE X (.UnaryOp .Not a pos) (qR f):=
 GE.of (AS h) λY H A Z S w S' er so e Q hq=>by
  unfold qR at e;split at e
  ·rename_i k1 S1 h1;cases e;show#[A,Z,S,_,_,er,so,h1,λb H1 #[A1,z1,z2,z3]=>?_]
   cases z3;exact#[_,rfl,hq _ _ #[A1,z1,z2,.bl]]
  ·cases e
abbrev yE (c:FT)(f g:FE):FE:=λZ S=>match c Z S with
 | some (true,S1)=>f Z S1
 | some (false,S1)=>g Z S1
 | none=>td
def BL {c a b:HB}{pos:JE}{fc:FT}{f g:FE}(hc:GT X c fc)(ha:GE X a f)(hb:GE X b g):GE X (.IfExp c a b pos) (yE fc f g):=
 GE.of (tP hc ha hb) λY H A Z S w S' er so e Q hq=>by
  unfold yE at e;split at e
  ·rename_i S1 h1;show#[A,Z,S,_,S1,er,so,h1,λb H1 #[z0,A1,z1,z2]=>?_]
   subst z0;rw[HE rfl];exact#[A1,Z,S1,w,S',er.mono z1,z2,e,λb H' q=>hq b H' (q.after z1)]
  ·rename_i S1 h1;show#[A,Z,S,_,S1,er,so,h1,λb H1 #[z0,A1,z1,z2]=>?_]
   subst z0;rw[HX Ht];exact#[A1,Z,S1,w,S',er.mono z1,z2,e,λb H' q=>hq b H' (q.after z1)]
  ·cases e
abbrev hG:FA:=λ_ S=>gV ([],S)
abbrev dC (f:FE)(g:FA):FA:=λZ S=>match f Z S with
 | some (w,S1)=>match g Z S1 with
  | some (ws,S2)=>gV (w::ws,S2)
  | none=>td
 | none=>td
def BM:GA X [] hG:=GA.of ph λY H A Z S ws S' er so e Q hq=>by cases e; exact hq _ _ #[A,.refl,so,.nil]
def yF {e:HB}{es:G0 HB}{f:FE}{g:FA}(h:GE X e f)(h2:GA X es g)(hs:starEach (e::es) X.env=(false,eval e X.env)::starEach es X.env):GA X (e::es) (dC f g):=
 GA.of (gT h h2 hs) λY H A Z S ws S' er so e Q hq=>by
  unfold dC at e;split at e
  ·rename_i w S1 h1;split at e
   ·rename_i ws2 S2 h2;cases e;show#[A,Z,S,w,S1,er,so,h1,λv H1 #[A1,z1,z2,z3]=>?_]
    show#[A1,Z,S1,ws2,_,er.mono z1,z2,h2,λvs H2 #[A2,y1,y2,y3]=>?_]
    exact hq _ _ #[A2,z1.trans y1,y2,.cons (z3.mono y1) y3]
   ·cases e
  ·cases e
abbrev uV (f:FA):FE:=λZ S=>match f Z S with
 | some (ws,S1)=>pv S1 ws
 | none=>td
abbrev uW (f:FA):FE:=λZ S=>match f Z S with
 | some (ws,S1)=>kO S1 ws
 | none=>td
def uX {es:G0 HB}{k:G9}{pos:JE}{f:FA}(h:GA X es f):GE X (.Tuple es k pos) (uV f):=
 GE.of (Bn h) λY H A Z S w S' er so e Q hq=>by
  unfold uV at e;split at e
  ·rename_i ws S1 h1;obtain⟨hl,rfl,rfl⟩:=qC e;show#[A,Z,S,ws,_,er,so,h1,λvs H1 #[A1,z1,z2,z3]=>#[by rw[<- z3.length]; exact hl,λp hp=>?_]]
   exact hq _ _ (EndV.after z1 (.tup z2 z3 hp))
  ·cases e
def uY {es:G0 HB}{pos:JE}{f:FA}(h:GA X es f):GE X (.List es pos) (uW f):=
 GE.of (Bo h) λY H A Z S w S' er so e Q hq=>by
  unfold uW at e;split at e
  ·rename_i ws S1 h1;obtain⟨hl,rfl,rfl⟩:=jx e;show#[A,Z,S,ws,_,er,so,h1,λvs H1 #[A1,z1,z2,z3]=>#[by rw[<- z3.length]; exact hl,λp hp=>?_]]
   exact hq _ _ (EndV.after z1 (.lst z2 z3 hp))
  ·cases e
abbrev jh (g:G0 W->aa->G7 (W×aa))(f:FA):FE:=λZ S=>match f Z S with
 | some (ws,S1)=>g ws S1
 | none=>td
def LCall.callr {v:G4}{g:G0 W->aa->G7 (W×aa)}(h:LCall X v g):CallR X v (rCall X g):=by
 intro J s Y H vs us Q I rv ⟨A,S,ws,w,S',so,rl,e,hq⟩;exact be (h J s Y H A S ws vs us w S' I so rl rv e) λu' s' #[v',H',A',I',r',e1,o1,z1]=>#[v',H',I',r',hq v' H' #[A',e1,o1,z1]]
def lG {g:G0 W->aa->G7 (W×aa)}{f:FA}{Y:L2.St}{H:Hp}{A:G0 Hb}{Z:Fm}{S:aa}{w:W}{S':aa}(er:EnvRel X.K A H Z Y)(so:StoreOk X.w X.K A H S)(e:jh g f Z S=gV (w,S'))(Q:VK)(hq:∀v H',EndV X.w X.K A H S' w v H'->Q v H') :
  tA X f Y H λvs H1=>rCall X g vs H1 Q:=by
 unfold jh at e;split at e
 ·rename_i ws S1 h1;exact#[A,Z,S,ws,S1,er,so,h1,λvs H1 #[A1,z1,z2,z3]=>#[A1,S1,ws,w,S',z2,z3,e,λv H' q=>hq v H' (q.after z1)]]
 ·cases e
def qS {id:IN}{x:Hs}{e:HB}{es:G0 HB}{p pos:JE}{f:FA}{g:G0 W->aa->G7 (W×aa)}(hc:LCall X (.builtin id) g)(hg:Gl X x)(hm:X.mg x=td)(hv:bootBuiltins x=gV (.builtin id))(ha:GA X (e::es) f)
  (hn:x≠"__name__") (hdb:(x==("__debug__" : Hs))=false) (hs:starEach (e::es) X.env=(false,eval e X.env)::starEach es X.env) (hpl:(backTo pos (starEach es X.env)).any (·.1)=false):GE X (.Call (.Name x p) (e::es) [] pos) (jh g f):=
 GE.of (nD hc.callr hg hm hv ha hn hdb hs hpl) λY H A Z S w S' er so e Q hq=>lG er so e Q hq
def oh {id:IN}{x:Hs}{e:HB}{es:G0 HB}{p pos:JE}{f:FA}{g:G0 W->aa->G7 (W×aa)}(hc:LCall X (.type id) g)(hg:Gl X x)(hm:X.mg x=td)(hv:bootBuiltins x=gV (.type id))(ha:GA X (e::es) f)
  (hn:x≠"__name__") (hdb:(x==("__debug__" : Hs))=false) (hs:starEach (e::es) X.env=(false,eval e X.env)::starEach es X.env) (hpl:(backTo pos (starEach es X.env)).any (·.1)=false):GE X (.Call (.Name x p) (e::es) [] pos) (jh g f):=
 GE.of (rV hc.callr hg hm hv ha hn hdb hs hpl) λY H A Z S w S' er so e Q hq=>lG er so e Q hq
end
abbrev tyOk (T:IN)(S:aa):W->HA
 | .str _=>T == "str"
 | .tup _=>T == "tuple"
 | .ref i=>(T == "list" && (gG S i).isSome)||(T == "dict" && (kL S i).isSome)
 | _=>false
abbrev CS (T:IN)(g:W->G0 W->aa->G7 (W×aa))(fo:FE)(f:FA):FE:=λZ S=>match fo Z S with
 | some (x,S1)=>if tyOk T S1 x then match f Z S1 with
  | some (ws,S2)=>g x ws S2
  | none=>td
  else td
 | none=>td
abbrev FV (fa fb:FE):FE:=yy g8 fa fb
noncomputable abbrev FO:=Fm->aa->G7 (G7 Hg×aa)
abbrev BN:FO:=λ_ S=>gV (td,S)
abbrev qT (f:FE):FO:=λZ S=>match f Z S with
 | some (.int i,S1)=>gV (gV i,S1)
 | _=>td
abbrev DD (fa:FE)(fl fh:FO):FE:=λZ S=>match fa Z S with
 | some (x,S1)=>match fl Z S1 with
  | some (lo,S2)=>match fh Z S2 with
   | some (hi,S3)=>fE x lo hi S3
   | none=>td
  | none=>td
 | none=>td
section
variable{X:Cx}
inductive rMeth (X:Cx)(g:W->G0 W->aa->G7 (W×aa))(a:V)(vs:G0 V)(H:Hp)(Q:VK):Prop
 | mk (A:G0 Hb) (S:aa) (x:W) (ws:G0 W) (w:W) (S':aa) (so:StoreOk X.w X.K A H S) (rx:Rel X.K A H x a) (rl:RelL X.K A H ws vs) (e:g x ws S=gV (w,S')) (q:∀v H',EndV X.w X.K A H S' w v H'->Q v H'):rMeth X g a vs H Q
def BO {J:G0 (Hb×Je)}{Y:L2.St}{s:G5}{H:Hp}{a:Hb}{xs:G0 V}(I:Inv X J Y H s)(h:SqT X.K H a xs):s.TypeIs (.ref a) "tuple"/\∃o,s.heap.get? a=gV o/\o.dict=td:=by
 rcases h with h|⟨o,its,n,hk,hc,hd,_⟩
 ·obtain⟨z,its,r,p⟩:=h.ok I.hok;exact#[p.typeIs,z.2]
 ·exact#[#[o,I.kIn a o hk,hc],o,I.kIn a o hk,hd]
def tyOk.is {J:G0 (Hb×Je)}{Y:L2.St}{s:G5}{A:G0 Hb}{H:Hp}{S:aa}{T:IN}{x:W}{a:V}{v:G4}(I:Inv X J Y H s)(so:StoreOk X.w X.K A H S)(r:Rel X.K A H x a)(rv:RelV a v)(h:tyOk T S x=true) :
  s.TypeIs v T/\∀b,v=.ref b->∃ob,s.heap.get? b=gV ob/\ob.dict=td:=by
 cases r with
 | str=>exact ug I rv (show FJ X.K T (.str _) H from eq_of_beq h)
 | tup hq r1=>
  obtain⟨h1,h2⟩:=BO I hq;have e:=eq_of_beq (show(T == "tuple")=true from h)
  subst e;obtain rfl:v=Im _:=rv;exact#[h1,λb e=>by cases e; exact h2]
 | ref ea=>
  simp only[tyOk,Jc,G8]at h;rcases h with⟨h1,h2⟩|⟨h1,h2⟩
  ·obtain⟨xs,hx⟩:=IA.mp h2;obtain⟨vs,h3,_⟩:=cC so hx ea;exact ug I rv (show FJ X.K T (.ref _) H from .inl #[eq_of_beq h1,vs,h3])
  ·obtain⟨U,hx⟩:=IA.mp h2;obtain⟨xs,rd,_⟩:=fJ so hx ea;obtain⟨_,_,_,o,es,ep,q1,q2,q3,q4⟩:=cw I rd;have e:=eq_of_beq h1;subst e;obtain rfl:v=Im _:=rv;exact#[#[o,q1,q2.1],λb e=>by cases e; exact#[o,q1,q2.2.1]]
 | _=>cases h
def ol {o e:HB}{es:G0 HB}{name:Hs}{apos cpos:JE}{T id:IN}{g:W->G0 W->aa->G7 (W×aa)}{fo:FE}{f:FA}(pa:PlainAttrs T)(slot:Slot T name id)(hty:typeOf (.builtin id)=pure (.type "method_descriptor"))(hm:lv X id g)
  (ho:GE X o fo) (ha:GA X (e::es) f) (hbase:attributeBase o name X.env (eval o X.env)=eval o X.env)
  (hfew:((backTo cpos (starEach (e::es) X.env)).all (λx=>!x.1)&&(backToKw cpos (keywordEach [] X.env)).all (λx=>x.1.isSome)
   && decide ((e::es).length+([]:G0 M4).length+(if ([]:G0 M4).isEmpty then 0 else 1) < 30))=true)
  (hline:(apos.endLine==cpos.line)=true) (hs:starEach (e::es) X.env=(false,eval e X.env)::starEach es X.env) (hplain:(backTo cpos (starEach es X.env)).any (·.1)=false) :
  GE X (.Call (.Attribute o name apos) (e::es) [] cpos) (CS T g fo f):=by
 intro J s Y H Q I ⟨A,Z,S,w,S',er,so,e,hq⟩;unfold CS at e;split at e
 ·rename_i x S1 h1;split at e
  ·rename_i ht;split at e
   ·rename_i ws S2 h2;show wpAny_Call_method_late hbase hfew hline rfl (be (ho J s Y H (EndV X.w X.K A H S1 x) I #[A,Z,S,_,_,er,so,h1,λ_ _ z=>z]) λv s1 #[a,H1,I1,r1,A1,e1,o1,z1]=>?_)
    obtain⟨t1,t2⟩:=tyOk.is I1 o1 z1 r1 ht;show#[T,id,pa,slot,hty,t1,t2,?_];have hA:=ha cpos J s1 Y H1 (EndA X A1 H1 S2 ws) I1 #[A1,Z,S1,ws,S2,er.mono e1,o1,h2,λ_ _ z=>z]
    rw[hs]at hA ⊢;show Calls.callWith_builtin (by show(false||(backTo cpos (starEach es X.env)).any (·.1))=false; rw[hplain] <;> rfl) (Calls.evalArgs_plain ?_)
    show be hA λus s2 #[vs,H2,I2,r2,A2,e2,o2,z2]=>?_
    show be (hm J s2 Y H2 A2 S2 x a v ws vs us w S' I2 o2 (z1.mono e2) r1 z2 r2 e) λu' s' #[v',H',A',I',r',e3,o3,z3]=>?_
    exact#[v',H',I',r',hq v' H' #[A',(e1.trans e2).trans e3,o3,z3]]
   ·cases e
  ·cases e
 ·cases e
def LIx.ixr {g:W->W->aa->G7 (W×aa)}(h:LIx X g):IxR X (rOp X g):=by
 intro value slice J s Y H a b u v Q I ru rv ⟨A,S,x,y,w,S',so,rx,ry,e,hq⟩ hs;exact be (h value slice J s Y H A S x y a b u v w S' I so rx ru ry rv e hs) λu' s' #[v',H',A',I',r',e1,o1,z1]=>#[v',H',I',r',hq v' H' #[A',e1,o1,z1]]
def DE {a b:HB}{pos:JE}{fa fb:FE}(hu:X.A.units+10 < cLine)(ha:GE X a fa)(hb:GE X b fb)(hs:fY b):GE X (.Subscript a b pos) (FV fa fb):=
 GE.of (Ds (FR hu).ixr ha hb hs) λY H A Z S w S' er so e Q hq=>by
  obtain⟨x,S1,y,S2,h1,h2,h3⟩:=E1 e;exact fK er so h1 h2 λa b H2 A2 e2 o2 r1 r2=>#[A2,S2,x,y,w,S',o2,r1,r2,h3,λv H' z=>hq v H' (z.after e2)]
inductive tO (X:Cx)(f:FO)(Y:L2.St)(H:Hp)(Q:G7 Hg->Hp->Prop):Prop
 | mk (A:G0 Hb) (Z:Fm) (S:aa) (k:G7 Hg) (S':aa) (er:EnvRel X.K A H Z Y) (so:StoreOk X.w X.K A H S) (e:f Z S=gV (k,S')) (q:∀H' A',Ext X.K A H A' H'->StoreOk X.w X.K A' H' S'->Q k H'):tO X f Y H Q
noncomputable abbrev GO (X:Cx)(e:G7 HB)(f:FO):Prop:=PO X e (tO X f)
def yG:GO X td BN:=λJ s Y H Q I #[A,Z,S,k,S',er,so,e,hq]=>by
 cases e;exact xQ J s Y H Q I (hq H A .refl so)
def yH {e:HB}{f:FE}(h:GE X e f):GO X (gV e) (qT f):=λJ s Y H Q I #[A,Z,S,k,S',er,so,e,hq]=>by
 unfold qT at e;split at e
 ·rename_i i S1 h1;cases e;show xR h J s Y H Q I #[A,Z,S,_,_,er,so,h1,λv H1 #[A1,z1,z2,z3]=>?_]
  cases z3;exact#[i,rfl,hq H1 A1 z1 z2]
 ·cases e
inductive rSl (X:Cx)(g:W->G7 Hg->G7 Hg->aa->G7 (W×aa))(a:V)(lo hi:G7 Hg)(H:Hp)(Q:VK):Prop
 | mk (A:G0 Hb) (S:aa) (x w:W) (S':aa) (so:StoreOk X.w X.K A H S) (rx:Rel X.K A H x a) (e:g x lo hi S=gV (w,S')) (q:∀v H',EndV X.w X.K A H S' w v H'->Q v H'):rSl X g a lo hi H Q
def LSl.slr {g:W->G7 Hg->G7 Hg->aa->G7 (W×aa)}(h:LSl X g):Dr X (rSl X g):=by
 intro J s Y H a v vl vu lo hi sl Q I rv hs pl pu ⟨A,S,x,w,S',so,rx,e,hq⟩;obtain⟨T,id,h1,h2,h3⟩:=h J s Y H A S x a v vl vu lo hi sl w S' I so rx rv hs pl pu e;exact#[T,id,h1,h2,be h3 λu' s' #[v',H',A',I',r',e1,o1,z1]=>#[v',H',I',r',hq v' H' #[A',e1,o1,z1]]]
def DF {a:HB}{lo hi:G7 HB}{p2 pos:JE}{fa:FE}{fl fh:FO}(ha:GE X a fa)(hl:GO X lo fl)(hh:GO X hi fh):GE X (.Subscript a (.Slice lo hi td p2) pos) (DD fa fl fh):=
 GE.of (ud GQ.slr ha hl hh) λY H A Z S w S' er so e Q hq=>by
  unfold DD at e;split at e
  ·rename_i x S1 h1;split at e
   ·rename_i l S2 h2;split at e
    ·rename_i h S3 h3;show#[A,Z,S,x,S1,er,so,h1,λv H1 #[A1,z1,z2,z3]=>?_]
     show#[A1,Z,S1,l,S2,er.mono z1,z2,h2,λH2 A2 y1 y2=>?_]
     show#[A2,Z,S2,h,S3,er.mono (z1.trans y1),y2,h3,λH3 A3 x1 x2=>?_]
     exact#[A3,S3,x,w,S',x2,(z3.mono y1).mono x1,e,λv H' q=>hq v H' (q.after ((z1.trans y1).trans x1))]
    ·cases e
   ·cases e
  ·cases e
noncomputable abbrev FF:=G0 W->aa->G7 (W×aa)
inductive spF (wd:Ii)(K:Hl)(n:G9)(g:FF)(vs:G0 V)(H:Hp)(Q:VK)(E:XK):Prop
 | mk (A:G0 Hb) (S:aa) (ws:G0 W) (w:W) (S':aa) (so:StoreOk wd K A H S) (rl:RelL K A H ws vs) (hl:ws.length=n) (e:g ws S=gV (w,S')) (q:∀v H',EndV wd K A H S' w v H'->Q v H'):spF wd K n g vs H Q E
abbrev kR (n:G9)(g:FF)(f:FA):FE:=λZ S=>match f Z S with
 | some (ws,S1)=>if ws.length=n then g ws S1 else td
 | none=>td
def hW {n:G9}{g:FF}{f:FA}{Y:L2.St}{H:Hp}{A:G0 Hb}{Z:Fm}{S:aa}{w:W}{S':aa}{E:XK}(er:EnvRel X.K A H Z Y)(so:StoreOk X.w X.K A H S)(e:kR n g f Z S=gV (w,S'))(Q:VK)(hq:∀v H',EndV X.w X.K A H S' w v H'->Q v H') :
  nB (spF X.w X.K n g) [] E (tA X f) Y H Q:=by
 unfold kR at e;split at e
 ·rename_i ws S1 h1;split at e
  ·rename_i hl;show#[A,Z,S,ws,S1,er,so,h1,λvs H1 #[A1,z1,z2,z3]=>?_]
   change spF X.w X.K n g (vs++[]) H1 Q E;rw[IQ];exact#[A1,S1,ws,w,S',z2,z3,hl,e,λv H' q=>hq v H' (q.after z1)]
  ·cases e
 ·cases e
def BP {k n:G9}{fa:Hb}{fd:JB}{ps:G0 Hs}{g:FF}{x:Hs}{e:HB}{es:G0 HB}{p pos:JE}{f:FA}(F:FnOk X.prog X.w X.K X.mg X.base qz k fa fd ps (spF X.w X.K n g))(hr:Room k X.A)(hg:Gl X x)(hm:X.mg x=gV (.ref fa))(hk:Iy X.K (.ref fa)=true)
  (hb:Binds X.K fd ps []) (ha:GA X (e::es) f) (hdb:(x==("__debug__" : Hs))=false) (he:starEach (e::es) X.env=(false,eval e X.env)::starEach es X.env) (hpl:(backTo pos (starEach es X.env)).any (·.1)=false) :
  GE X (.Call (.Name x p) (e::es) [] pos) (kR n g f):=
 GE.of (xN F hr hg hm hk hb .nil qA ha hdb he hpl) λY H A Z S w S' er so e Q hq=>hW er so e Q hq
def yI {k n:G9}{fa:Hb}{fd:JB}{ps:G0 Hs}{g:FF}{x:Hs}{p pos:JE}(F:FnOk X.prog X.w X.K X.mg X.base qz k fa fd ps (spF X.w X.K n g))(hr:Room k X.A)(hg:Gl X x)(hm:X.mg x=gV (.ref fa))(hk:Iy X.K (.ref fa)=true)
  (hb:Binds X.K fd ps []) (hdb:(x==("__debug__" : Hs))=false):GE X (.Call (.Name x p) [] [] pos) (kR n g hG):=
 GE.of (t9 F hr hg hm hk hb .nil qA hdb) λY H A Z S w S' er so e Q hq=>by
  obtain⟨A1,S1,ws,w1,S1',a1,a2,a3,a4,a5⟩:=hW (f:=hG) (E:=E0) er so e Q hq |> λ#[A,Z,S,ws,S',b1,b2,b3,b4]=>b4 [] H (by cases b3; exact#[A,.refl,b2,.nil])
  exact#[A1,S1,ws,w1,S1',a1,a2,a3,a4,a5]
def yJ:GSs X [] (λZ S=>gV (.nx Z,S)):=GSs.of xE λY H A Z S o S' er so e D hd=>by cases e; exact hd.nx _ _ #[Z,A,rfl,.refl,so,er]
abbrev yK (f g:FS):FS:=λZ S=>match f Z S with
 | some (.nx Z',S1)=>g Z' S1
 | some (.rt w,S1)=>gV (.rt w,S1)
 | some (.bk Z',S1)=>gV (.bk Z',S1)
 | some (.ct Z',S1)=>gV (.ct Z',S1)
 | none=>td
def uZ {st:J8}{sts:G0 J8}{f g:FS}(h:GS X st f)(h2:GSs X sts g):GSs X (st::sts) (yK f g):=GSs.of (tR h h2) λY H A Z S o S' er so e D hd=>by
 unfold yK at e;split at e
 ·rename_i Z1 S1 h1;show#[A,Z,S,_,_,er,so,h1,#[λY' H' #[Z',A',e1,e2,e3,e4]=>?_,λv H' #[w,A',e1,_,_,_]=>(by cases e1),λv H' #[w,A',e1,_,_,_]=>(by cases e1),λv H' #[w,A',e1,_,_,_]=>(by cases e1)]]
  cases e1;exact#[A',_,S1,o,S',e4,e3,e,(EndS.after e2).trans hd]
 ·rename_i w S1 h1;cases e;exact#[A,Z,S,_,_,er,so,h1,#[λY' H' #[w,A',e1,_,_,_]=>(by cases e1),hd.rt,hd.bk,hd.ct]]
 ·rename_i w S1 h1;cases e;exact#[A,Z,S,_,_,er,so,h1,#[λY' H' #[w,A',e1,_,_,_]=>(by cases e1),hd.rt,hd.bk,hd.ct]]
 ·rename_i w S1 h1;cases e;exact#[A,Z,S,_,_,er,so,h1,#[λY' H' #[w,A',e1,_,_,_]=>(by cases e1),hd.rt,hd.bk,hd.ct]]
 ·cases e
abbrev yL (f:FE):FS:=λZ S=>match f Z S with
 | some (_,S1)=>gV (.nx Z,S1)
 | none=>td
def DH {e:HB}{pos:JE}{f:FE}(h:GE X e f)(hs:swapsWith e td pos.line X.env=pure false):GS X (.Expr e pos) (yL f):=GS.of (xG h hs) λY H A Z S o S' er so e D hd=>by
 unfold yL at e;split at e
 ·rename_i w S1 h1;cases e;exact#[A,Z,S,w,_,er,so,h1,λv H1 #[A1,z1,z2,z3]=>hd.nx _ _ #[Z,A1,rfl,z1,z2,er.mono z1]]
 ·cases e
abbrev u4:FS:=λZ S=>gV (.nx Z,S)
def BQ {x:Hs}{j:G9}{pos pos':JE}:GS X (.Expr (.Constant (.str x) j pos) pos') u4:=GS.of AT λY H A Z S o S' er so e D hd=>by cases e; exact hd.nx _ _ #[Z,A,rfl,.refl,so,er]
def yM {pos:JE}:GS X (.Pass pos) u4:=GS.of xF λY H A Z S o S' er so e D hd=>by cases e; exact hd.nx _ _ #[Z,A,rfl,.refl,so,er]
abbrev yN (f:FE):FS:=λZ S=>match f Z S with
 | some (w,S1)=>gV (.rt w,S1)
 | none=>td
def BR {e:HB}{pos:JE}{f:FE}(h:GE X e f):GS X (.Return (gV e) pos) (yN f):=GS.of (AU h) λY H A Z S o S' er so e D hd=>by
 unfold yN at e;split at e
 ·rename_i w S1 h1;cases e;exact#[A,Z,S,w,_,er,so,h1,λv H1 #[A1,z1,z2,z3]=>hd.rt _ _ #[w,A1,rfl,z1,z2,z3]]
 ·cases e
abbrev yO (c:FT)(f g:FS):FS:=λZ S=>match c Z S with
 | some (true,S1)=>f Z S1
 | some (false,S1)=>g Z S1
 | none=>td
def DI {c:HB}{a b:G0 J8}{pos:JE}{fc:FT}{f g:FS}(hc:GT X c fc)(ha:GSs X a f)(hb:GSs X b g):GS X (.If c a b pos) (yO fc f g):=GS.of (Da hc ha hb) λY H A Z S o S' er so e D hd=>by
 unfold yO at e;split at e
 ·rename_i S1 h1;show#[A,Z,S,_,S1,er,so,h1,λb H1 #[z0,A1,z1,z2]=>?_]
  subst z0;rw[HE rfl];exact#[A1,Z,S1,o,S',er.mono z1,z2,e,(EndS.after z1).trans hd]
 ·rename_i S1 h1;show#[A,Z,S,_,S1,er,so,h1,λb H1 #[z0,A1,z1,z2]=>?_]
  subst z0;rw[HX Ht];exact#[A1,Z,S1,o,S',er.mono z1,z2,e,(EndS.after z1).trans hd]
 ·cases e
noncomputable abbrev FG:=W->Fm->aa->G7 (Fm×aa)
inductive tG (X:Cx)(f:FG)(v:V)(Y:L2.St)(H:Hp)(Q:L2.St->Hp->Prop):Prop
 | mk (A:G0 Hb) (Z:Fm) (S:aa) (w:W) (Z':Fm) (S':aa) (er:EnvRel X.K A H Z Y) (so:StoreOk X.w X.K A H S) (r:Rel X.K A H w v) (e:f w Z S=gV (Z',S')) (q:∀Y' H' A',Ext X.K A H A' H'->StoreOk X.w X.K A' H' S'->EnvRel X.K A' H' Z' Y'->Q Y' H'):tG X f v Y H Q
noncomputable abbrev GG (X:Cx)(tg:HB)(f:FG):Prop:=PG X tg (tG X f)
abbrev Ai (i:G9):FG:=λw Z S=>gV (Z.set i (gV w),S)
def qU {i:G9}{x:Hs}{pos:JE}(hN:X.N.Nodup)(hi:X.N[i]?=gV x)(hx:xA X.env.scope x)(hf:X.fn x=true\/X.env.scope.names.lookup x=gV .local):GG X (.Name x pos) (Ai i):=by
 intro J s Y H v u Q I r ⟨A,Z,S,w,Z',S',er,so,rw',e,hq⟩;cases e;exact qt hN hi hx hf J s Y H v u Q I r (hq _ _ A .refl so (er.set rw' i))
abbrev cF:G0 G9->G0 W->Fm->G7 Fm
 | [],[],Z=>gV Z
 | i::is,w::ws,Z=>cF is ws (Z.set i (gV w))
 | _,_,_=>td
abbrev CT (is:G0 G9):FG:=λw Z S=>match w with
 | .tup ws=>(cF is ws Z).map λZ'=>(Z',S)
 | _=>td
def sD:∀ {ts:G0 HB} {is:G0 G9},(∀x∈ts,∃y p,x=.Name y p)->Mf (λ(t:HB) (i:G9)=>∃x p,t=M5 x p/\X.N[i]?=gV x/\xA X.env.scope x/\(X.fn x=true\/X.env.scope.names.lookup x=gV .local)) ts is->X.N.Nodup->
  Db X ts (λvs Y H Q=>∃A Z ws Z' S,EnvRel X.K A H Z Y/\StoreOk X.w X.K A H S/\RelL X.K A H ws vs/\cF is ws Z=gV Z'/\∀Y',EnvRel X.K A H Z' Y'->Q Y' H):=by
 intro ts
 induction ts with
 | nil=>
  intro is _ h hN;cases h;intro J s Y H vs us Q I r ⟨A,Z,ws,Z',S,er,so,rl,e,hq⟩;cases rl with
  | nil=>cases e; exact xH J s Y H [] us Q I r #[rfl,hq _ er]
  | cons _ _=>cases e
 | cons t ts ih=>
  intro is hs h hN;cases h with
  | cons h1 h2=>
   obtain⟨x,p,rfl,hi,hl,hf⟩:=h1;have:=ih (λy hy=>hs y (HN _ hy)) h2 hN
   intro J s Y H vs us Q I r ⟨A,Z,ws,Z',S,er,so,rl,e,hq⟩;cases rl with
   | nil=>cases e
   | cons r1 r2=>
    show tV (qt hN hi hl hf) this rfl J s Y H _ us Q I r #[_,_,rfl,?_];exact#[A,_,_,Z',S,er.set r1 _,so,r2,e,hq]
def BS {ts:G0 HB}{is:G0 G9}{k:G9}{pos:JE}(hc:X.calm=true)(hs:∀x∈ts,∃y p,x=.Name y p)(h:Mf (λ(t:HB) (i:G9)=>∃x p,t=M5 x p/\X.N[i]?=gV x/\xA X.env.scope x/\(X.fn x=true\/X.env.scope.names.lookup x=gV .local)) ts is)(hN:X.N.Nodup)
  (hn:(assignEach ts X.env).length=ts.length) (hst:(assignEach ts X.env).findIdx? (·.1)=td):GG X (.Tuple ts k pos) (CT is):=by
 intro J s Y H v u Q I r ⟨A,Z,S,w,Z',S',er,so,rw',e,hq⟩;unfold CT at e;split at e
 ·rw[G6]at e;obtain⟨Z1,e1,e2⟩:=e;cases e2;cases rw' with
  | tup h1 r1=>
   have hl:∀(is:G0 G9) (ws:G0 W) (Z Z':Fm),cF is ws Z=gV Z'->is.length=ws.length:=by
    intro is
    induction is with
    | nil=>intro ws Z Z' e; cases ws <;> first|rfl|cases e
    | cons i is ih=>intro ws Z Z' e; cases ws <;> first|cases e|(simp; exact ih _ _ _ e)
   exact AY hc (sD hs h hN) hn hst J s Y H _ u Q I r #[_,_,rfl,h1,by rw[<- r1.length,<- hl _ _ _ _ e1,<- LV h],A,Z,_,_,_,er,so,r1,e1,λY' z=>hq _ _ A .refl so z]
 ·cases e
abbrev yP (fo fi:FE):FG:=λw Z S=>match fo Z S with
 | some (o,S1)=>match fi Z S1 with
  | some (i,S2)=>match jt o i w S2 with
   | some S3=>gV (Z,S3)
   | none=>td
  | none=>td
 | none=>td
inductive rSet (X:Cx)(g:W->W->W->aa->G7 aa)(ao ai av:V)(H:Hp)(Q:Hp->Prop):Prop
 | mk (A:G0 Hb) (S:aa) (o i w:W) (S':aa) (so:StoreOk X.w X.K A H S) (r1:Rel X.K A H o ao) (r2:Rel X.K A H i ai) (r3:Rel X.K A H w av) (e:g o i w S=gV S') (q:∀H' A',Ext X.K A H A' H'->StoreOk X.w X.K A' H' S'->Q H'):rSet X g ao ai av H Q
def LSet.pset {g:W->W->W->aa->G7 aa}(h:LSet X g):AX X (rSet X g):=by
 intro J s Y H ao ai av uo ui uv Q I ro ri rv ⟨A,S,o,i,w,S',so,r1,r2,r3,e,hq⟩;exact be (h J s Y H A S o i w ao ai av uo ui uv S' I so r1 ro r2 ri r3 rv e) λ_ s' #[H',A',I',e1,o1]=>#[H',I',hq H' A' e1 o1]
def BU {o i:HB}{pos:JE}{fo fi:FE}(hu:X.A.units+10 < cLine)(ho:GE X o fo)(hi:GE X i fi)(ha:∀v,assign (.Subscript o i pos) X.env v=(do
   let ov <- holding [v] (eval o X.env)
   let iv <- holding [v,ov] (eval i X.env)
   standAt pos
   holding [v,ov,iv] (setItem ov iv v)
   release [v,ov,iv] [])):GG X (.Subscript o i pos) (yP fo fi):=by
 intro J s Y H v u Q I r ⟨A,Z,S,w,Z',S',er,so,rw',e,hq⟩;unfold yP at e;split at e
 ·rename_i o' S1 h1;split at e
  ·rename_i i' S2 h2;split at e
   ·rename_i S3 h3;cases e;show AZ ho hi (Dx hu).pset ha J s Y H v u Q I r ?_;show#[A,Z,S,o',S1,er,so,h1,λa H1 #[A1,e1,o1,r1]=>?_]
    show#[A1,Z,S1,i',S2,er.mono e1,o1,h2,λb H2 #[A2,e2,o2,r2]=>?_]
    exact#[A2,S2,o',i',w,_,o2,r1.mono e2,r2,rw'.mono (e1.trans e2),h3,λH' A' z1 z2=>hq Y H' A' ((e1.trans e2).trans z1) z2 (er.mono ((e1.trans e2).trans z1))]
   ·cases e
  ·cases e
 ·cases e
abbrev jW (f:FE)(g:FG):FS:=λZ S=>match f Z S with
 | some (w,S1)=>match g w Z S1 with
  | some (Z',S2)=>gV (.nx Z',S2)
  | none=>td
 | none=>td
def mO {tg e:HB}{pos:JE}{f:FE}{g:FG}(h:GE X e f)(hg:GG X tg g)(hs:swapsWithSole [tg] e pos.line X.env=pure false)(hw:swappedStores [tg] e X.env=pure td)(h1:(assignEach [tg] X.env).map (·.2)=[assign tg X.env]) :
  GS X (.Assign [tg] e pos) (jW f g):=GS.of (A6 h hg hs hw h1) λY H A Z S o S' er so e D hd=>by
 unfold jW at e;split at e
 ·rename_i w S1 h1;split at e
  ·rename_i Z1 S2 h2;cases e;show#[A,Z,S,w,S1,er,so,h1,λv H1 #[A1,z1,z2,z3]=>?_]
   exact#[A1,Z,S1,w,Z1,_,er.mono z1,z2,z3,h2,λY' H' A' y1 y2 y3=>hd.nx _ _ #[Z1,A',rfl,z1.trans y1,y2,y3]]
  ·cases e
 ·cases e
abbrev yQ (i j:G9)(f:FA):FS:=λZ S=>match f Z S with
 | some ([x,y],S1)=>gV (.nx ((Z.set i (gV x)).set j (gV y)),S1)
 | _=>td
def BV {i j:G9}{x y:Hs}{a b:HB}{f:FA}{px py pt pos:JE}{kt k2:G9}{pt2:JE}(hc:X.calm=true)(hN:X.N.Nodup)(hi:X.N[i]?=gV x)(hj:X.N[j]?=gV y)(hij:i≠j)
  (hx:X.env.scope.names.lookup x=gV .local) (hy:X.env.scope.names.lookup y=gV .local) (ha:GA X [a,b] f)
  (hw:swappedStores [.Tuple [.Name x px,.Name y py] kt pt] (.Tuple [a,b] k2 pt2) X.env=pure (gV [x,y]))
  (hs:swapsWithSole [.Tuple [.Name x px,.Name y py] kt pt] (.Tuple [a,b] k2 pt2) pos.line X.env=pure false) :
  GS X (.Assign [.Tuple [.Name x px,.Name y py] kt pt] (.Tuple [a,b] k2 pt2) pos) (yQ i j f):=GS.of (A7 hc hN hi hj hij hx hy ha hw hs) λY H A Z S o S' er so e D hd=>by
 unfold yQ at e;split at e
 ·rename_i x y S1 h1;cases e;show#[A,Z,S,_,_,er,so,h1,λvs H1 #[A1,z1,z2,z3]=>?_]
  cases z3 with
  | cons r1 t=>
   cases t with
   | cons r2 t=>
    cases t;exact#[_,_,rfl,hd.nx _ _ #[_,A1,rfl,z1,z2,((er.mono z1).set r1 i).set r2 j]]
 ·cases e
abbrev mP (c:FT)(b:FS):G9->FS
 | 0,_,_=>td
 | n+1,Z,S=>match c Z S with
  | some (true,S1)=>match b Z S1 with
   | some (.nx Z',S2)=>mP c b n Z' S2
   | some (.ct Z',S2)=>mP c b n Z' S2
   | some (.bk Z',S2)=>gV (.nx Z',S2)
   | some (.rt w,S2)=>gV (.rt w,S2)
   | none=>td
  | some (false,S1)=>gV (.nx Z,S1)
  | none=>td
def u5 {c:HB}{body:G0 J8}{pos:JE}{fc:FT}{fb:FS}(n:G9)(hp:M3 (model X.prog X.w) X.A X.env X.xe)(hc:GT X c fc)(hb:GSs X body fb):GS X (.While c body [] pos) (mP fc fb n):=GS.of (tW hp hc hb) λY H A Z S o S' er so e D hd=>by
 show#[λm Y1 H1=>∃A1 Z1 S1,Ext X.K A H A1 H1/\EnvRel X.K A1 H1 Z1 Y1/\StoreOk X.w X.K A1 H1 S1/\mP fc fb m Z1 S1=gV (o,S'),#[n,A,Z,S,.refl,er,so,e],?_]
 rintro m Y1 H1 ⟨A1,Z1,S1,e1,er1,so1,w1⟩;cases m with
 | zero=>cases w1
 | succ m=>
  dsimp only[mP]at w1;split at w1
  ·rename_i S2 h1;show#[A1,Z1,S1,_,S2,er1,so1,h1,λb H2 #[z0,A2,z1,z2]=>?_]
   subst z0;rw[HE rfl];show#[λY3 H3=>∃A3 Z3 S3,Ext X.K A H A3 H3/\EnvRel X.K A3 H3 Z3 Y3/\StoreOk X.w X.K A3 H3 S3/\mP fc fb m Z3 S3=gV (o,S'),λY' H' h=>#[m,Jq _,h],?_]
   split at w1
   ·rename_i Z3 S3 h3;show#[A2,Z1,S2,_,S3,er1.mono z1,z2,h3,#[λY' H' #[Z',A',y0,y1,y2,y3]=>?_,λv H' #[w,A',y0,_,_,_]=>(by cases y0),λv H' #[w,A',y0,_,_,_]=>(by cases y0),λv H' #[w,A',y0,_,_,_]=>(by cases y0)]]
    cases y0;exact#[A',_,S3,(e1.trans z1).trans y1,y3,y2,w1]
   ·rename_i Z3 S3 h3;show#[A2,Z1,S2,_,S3,er1.mono z1,z2,h3,#[λv H' #[w,A',y0,_,_,_]=>(by cases y0),λv H' #[w,A',y0,_,_,_]=>(by cases y0),λv H' #[w,A',y0,_,_,_]=>(by cases y0),λY' H' #[Z',A',y0,y1,y2,y3]=>?_]]
    cases y0;exact#[A',_,S3,(e1.trans z1).trans y1,y3,y2,w1]
   ·rename_i Z3 S3 h3;cases w1;show#[A2,Z1,S2,_,_,er1.mono z1,z2,h3,#[λv H' #[w,A',y0,_,_,_]=>(by cases y0),λv H' #[w,A',y0,_,_,_]=>(by cases y0),λY' H' #[Z',A',y0,y1,y2,y3]=>?_,λv H' #[w,A',y0,_,_,_]=>(by cases y0)]]
    cases y0;exact hd.nx _ _ #[_,A',rfl,(e1.trans z1).trans y1,y2,y3]
   ·rename_i w3 S3 h3;cases w1;show#[A2,Z1,S2,_,_,er1.mono z1,z2,h3,#[λv H' #[w,A',y0,_,_,_]=>(by cases y0),λv H' #[w,A',y0,y1,y2,y3]=>?_,λv H' #[w,A',y0,_,_,_]=>(by cases y0),λv H' #[w,A',y0,_,_,_]=>(by cases y0)]]
    cases y0;exact hd.rt _ _ #[_,A',rfl,(e1.trans z1).trans y1,y2,y3]
   ·cases w1
  ·rename_i S2 h1;cases w1;show#[A1,Z1,S1,_,_,er1,so1,h1,λb H2 #[z0,A2,z1,z2]=>?_]
   subst z0;rw[HX Ht];exact hd.nx _ _ #[_,A2,rfl,e1.trans z1,z2,er1.mono z1]
  ·cases w1
end
end Mi
namespace L2
open PySem PySem.W PyProof.Rows
def u6 {X:Cx}{CX CX':tJ}{k k':G9}{f f':Hb}{fd fd':JB}{ps ps':G0 Hs}{sp sp':Sp}{E:XK}{x y:Hs}{p1 p2 p3 p4 pos:JE}{i e:HB}{es:G0 HB}{t:TA}{ti:TE}
  (F:FnOk X.prog X.w X.K X.mg X.base CX k f fd ps sp) (F':FnOk X.prog X.w X.K X.mg X.base CX' k' f' fd' ps' sp') (hr:Room k X.A) (hr':Room k' X.A) (hg:Gl X x) (hg':Gl X y) (hm:X.mg x=gV (.ref f)) (hm':X.mg y=gV (.ref f'))
  (hk:Iy X.K (.ref f)=true) (hk':Iy X.K (.ref f')=true) (hb:Binds X.K fd ps []) (hb':Binds X.K fd' ps' []) (hx:iI CX X E) (hx':iI CX' X E) (hi:PE X i ti) (hpi:fY i) (ha:PA X (e::es) t)
  (hd:(x==("__debug__" : Hs))=false) (hd':(y==("__debug__" : Hs))=false) (he:starEach (e::es) X.env=(false,eval e X.env)::starEach es X.env) (hpl:(backTo pos (starEach es X.env)).any (·.1)=false) :
  PE X (.Call (.Subscript (.List [.Name x p1,.Name y p2] p3) i p4) (e::es) [] pos) (λY H Q=>ti Y H λv H1=>(v=.int 0/\nB sp [] E t Y H1 Q)\/(v=.int 1/\nB sp' [] E t Y H1 Q)):=by
 intro J s Y H Q I h;have arm:eval (.Call (.Subscript (.List [.Name x p1,.Name y p2] p3) i p4) (e::es) [] pos) X.env=(do
  callWith pos (<- eval (.Subscript (.List [.Name x p1,.Name y p2] p3) i p4) X.env) [] (backTo pos (starEach (e::es) X.env)) (backToKw pos (keywordEach [] X.env))):=rfl
 rw[arm];show G2 (OG (Np ?_));have hp:PA X [.Name x p1,.Name y p2] (t8 (tC (.ref f)) (t8 (tC (.ref f')) Bm)):=gT (qr hg hm rfl hd) (gT (qr hg' hm' rfl hd') ph);show be (hp p3 J s Y H (λvs H1=>vs=[.ref f,.ref f']/\H1=H) I #[rfl,rfl]) λus s1 #[vs,H1,I1,r,hv,hH]=>?_
 subst hv hH;obtain rfl:us=[.ref f,.ref f']:=by
  cases r with
  | cons r1 r2=>
   cases r2 with
   | cons r2 r3=>
    cases r3;cases r1;cases r2;rfl
 show#[?_,?_]
 ·exact HU rfl
 have hf:H1 s1.heap.objs.size=td:=I1.hok.fresh (Hj _);have I2:Inv X J Y H1 { s1 with heap:=s1.heap.push { cls:=.type "list",data:=.seq [.ref f,.ref f'].toArray } }:=I1.kept (t':=s1.toks) λb u e=>Ha _ e
 have I3:Inv X (J++[(s1.heap.objs.size,{ cls:=.type "list",data:=.seq [.ref f,.ref f'].toArray })]) Y H1 { s1 with heap:=s1.heap.push { cls:=.type "list",data:=.seq [.ref f,.ref f'].toArray } }:=I2.pins_of λp hp=>by
  rcases HI.mp hp with z|z
  ·exact I2.pin p (HH _ z)
  ·rw[Hk.mp z];exact#[Hv _ rfl,hf,λe=>Iw _ (e ▸ I1.lt),I1.nofs (Hj _),λv e=>by cases e]
 show be (hi _ _ Y H1 _ I3 h) λu s3 #[v,H3,I4,rv,q]=>?_
 have hobj:=(I4.pin (s1.heap.objs.size,_) (HH _ (HH _ (Hk.mpr rfl)))).1;have hl:s3.heap.IsList s1.heap.objs.size [.ref f,.ref f'].toArray:=#[_,hobj,rfl,_,rfl];rcases q with⟨rfl,q⟩|⟨rfl,q⟩
 ·obtain⟨tk,rfl⟩:=rv;show OH hl #v[] #v[] rfl ?_ (hpi _ _)
  exact Lw (h₀:=X.base) I4.ok.mod.kin hk (be (ha pos J s3 Y H3 _ I4.unpinned q) λus s4 #[vs,H4,I5,r,q]=>#[I5.kIn,l7 F hr hb .nil hx I5 r q]) he hpl
 ·obtain⟨tk,rfl⟩:=rv;show OH hl #v[] #v[] rfl ?_ (hpi _ _)
  exact Lw (h₀:=X.base) I4.ok.mod.kin hk' (be (ha pos J s3 Y H3 _ I4.unpinned q) λus s4 #[vs,H4,I5,r,q]=>#[I5.kIn,l7 F' hr' hb' .nil hx' I5 r q]) he hpl
end L2
namespace Mi
open PySem PySem.Spec PyProof.Rows L2
abbrev u7 (n:G9)(g g':FF)(i:FE)(f:FA):FE:=λZ S=>match i Z S with
 | some (.int 0,S1)=>kR n g f Z S1
 | some (.int 1,S1)=>kR n g' f Z S1
 | _=>td
def BW {X:Cx}{k k' n:G9}{fa fa':Hb}{fd fd':JB}{ps ps':G0 Hs}{g g':FF}{x y:Hs}{i e:HB}{es:G0 HB}{p1 p2 p3 p4 pos:JE}{fi:FE}{f:FA}(F:FnOk X.prog X.w X.K X.mg X.base qz k fa fd ps (spF X.w X.K n g))(F':FnOk X.prog X.w X.K X.mg X.base qz k' fa' fd' ps' (spF X.w X.K n g'))(hr:Room k X.A)(hr':Room k' X.A)(hg:Gl X x)(hg':Gl X y)(hm:X.mg x=gV (.ref fa))(hm':X.mg y=gV (.ref fa'))(hk:Iy X.K (.ref fa)=true)(hk':Iy X.K (.ref fa')=true)
  (hb:Binds X.K fd ps []) (hb':Binds X.K fd' ps' []) (hi:GE X i fi) (hpi:fY i) (ha:GA X (e::es) f) (hd:(x==("__debug__" : Hs))=false) (hd':(y==("__debug__" : Hs))=false) (he:starEach (e::es) X.env=(false,eval e X.env)::starEach es X.env) (hpl:(backTo pos (starEach es X.env)).any (·.1)=false) :
  GE X (.Call (.Subscript (.List [.Name x p1,.Name y p2] p3) i p4) (e::es) [] pos) (u7 n g g' fi f):=
 GE.of (u6 F F' hr hr' hg hg' hm hm' hk hk' hb hb' qA qA hi hpi ha hd hd' he hpl) λY H A Z S w S' er so e Q hq=>by
  unfold u7 at e;split at e
  ·rename_i S1 h1;exact#[A,Z,S,_,S1,er,so,h1,λv H1 #[A1,z1,z2,z3]=>.inl #[by cases z3; rfl,hW (er.mono z1) z2 e Q λv H' q=>hq v H' (q.after z1)]]
  ·rename_i S1 h1;exact#[A,Z,S,_,S1,er,so,h1,λv H1 #[A1,z1,z2,z3]=>.inr #[by cases z3; rfl,hW (er.mono z1) z2 e Q λv H' q=>hq v H' (q.after z1)]]
  ·cases e
section
variable{X:Cx}
abbrev FW (i j l:G9)(ta:TA):TS:=λD Y H=>ta Y H λvs H1=>∃v w z,vs=[v,w,z]/\D.nx (((Y.set i (gV v)).set j (gV w)).set l (gV z)) H1
def BX {i j l:G9}{x y z:Hs}{a b c:HB}{ta:TA}{px py pz pt pos:JE}{kt k2 pt2}(hc:X.calm=true)(hN:X.N.Nodup)(hi:X.N[i]?=gV x)(hj:X.N[j]?=gV y)(hl:X.N[l]?=gV z)(hij:i≠j)(hil:i≠l)(hjl:j≠l)
  (hx:X.env.scope.names.lookup x=gV .local) (hy:X.env.scope.names.lookup y=gV .local) (hz:X.env.scope.names.lookup z=gV .local) (ha:PA X [a,b,c] ta)
  (hw:swappedStores [.Tuple [.Name x px,.Name y py,.Name z pz] kt pt] (.Tuple [a,b,c] k2 pt2) X.env=pure (gV [x,y,z]))
  (hs:swapsWithSole [.Tuple [.Name x px,.Name y py,.Name z pz] kt pt] (.Tuple [a,b,c] k2 pt2) pos.line X.env=pure false:=by rfl) :
  PS X (.Assign [.Tuple [.Name x px,.Name y py,.Name z pz] kt pt] (.Tuple [a,b,c] k2 pt2) pos) (FW i j l ta):=by
 intro J s Y H D I h;rw[Oq];show G2 (KI ?_);rw[hs];show G2 (Hd ?_);rw[HX #v[]]
 show G2 (Tuple_ (be (ha _ J s Y H _ I h) λus s1 #[vs,H1,I1,r1,q1]=>?_))
 obtain⟨v,w,t,e1,q1⟩:=q1;subst e1;obtain⟨u1,u2,u3,rfl,rv,rw',rt⟩ : ∃u1 u2 u3,us=[u1,u2,u3]/\RelV v u1/\RelV w u2/\RelV t u3:=by
  cases r1 with
  | cons p q=>
   cases q with
   | cons p' q'=>
    cases q' with
    | cons p2 q2=>
     cases q2;exact#[_,_,_,rfl,p,p',p2]
 show Ip ?_ (by change 3<=sizeLine; decide)
 have I2:Inv X J Y H1 { s1 with heap:=s1.heap.push { cls:=.type "tuple",data:=.seq [u1,u2,u3].toArray } }:=I1.kept (t':=s1.toks) λb o e=>Ha _ e
 rw[hw];show G2 (Hd ?_);change wpAny (model X.prog X.w) X.A (do rule "assign.swapped-stores"; let items <- unpackItems (.ref s1.heap.objs.size) 3 td; assignInOrder [λv=>bindName X.env z v,λv=>bindName X.env y v,λv=>bindName X.env x v] items.reverse; pure N4) _ _ _
 show G2 (Mh (G2 (NF (items:=[u1,u2,u3].toArray) (I.ok.hd hc) (M2 s1.heap _) λh' hx'=>?_)))
 have I3:=I2.kept (h':=h') (t':=s1.toks) λb o e=>hx' b o (HL (Hw e)) e
 change wpAny _ _ (assignInOrder [λv=>bindName X.env z v,λv=>bindName X.env y v,λv=>bindName X.env x v] [u3,u2,u1] >>= λ_=>pure N4) _ _ _
 show G2 (JP (K3 (dR I3 hN hl (.inl hz) rt (λs2 I4=>?_) (.inr hz))))
 show JP (K3 (dR I4 hN hj (.inl hy) rw' (λs3 I5=>?_) (.inr hy)))
 show JP (K3 (dR I5 hN hi (.inl hx) rv (λs4 I6=>LQ (Hd ?_)) (.inr hx)))
 have e6:((Hh Y l (gV t)).set j (gV w)).set i (gV v)=((Hh Y i (gV v)).set j (gV w)).set l (gV t):=by
  rw[LW (gV w) (gV v) hij.symm,LW (gV t) (gV v) hil.symm,LW (gV t) (gV w) hjl.symm]
 rw[e6]at I6;exact#[_,H1,I6,q1]
abbrev yR (i j l:G9)(f:FA):FS:=λZ S=>match f Z S with
 | some ([x,y,z],S1)=>gV (.nx (((Z.set i (gV x)).set j (gV y)).set l (gV z)),S1)
 | _=>td
def BY {i j l:G9}{x y z:Hs}{a b c:HB}{f:FA}{px py pz pt pos:JE}{kt k2:G9}{pt2:JE}(hc:X.calm=true)(hN:X.N.Nodup)(hi:X.N[i]?=gV x)(hj:X.N[j]?=gV y)(hl:X.N[l]?=gV z)(hij:i≠j)(hil:i≠l)(hjl:j≠l)
  (hx:X.env.scope.names.lookup x=gV .local) (hy:X.env.scope.names.lookup y=gV .local) (hz:X.env.scope.names.lookup z=gV .local) (ha:GA X [a,b,c] f)
  (hw:swappedStores [.Tuple [.Name x px,.Name y py,.Name z pz] kt pt] (.Tuple [a,b,c] k2 pt2) X.env=pure (gV [x,y,z]))
  (hs:swapsWithSole [.Tuple [.Name x px,.Name y py,.Name z pz] kt pt] (.Tuple [a,b,c] k2 pt2) pos.line X.env=pure false) :
  GS X (.Assign [.Tuple [.Name x px,.Name y py,.Name z pz] kt pt] (.Tuple [a,b,c] k2 pt2) pos) (yR i j l f):=GS.of (BX hc hN hi hj hl hij hil hjl hx hy hz ha hw hs) λY H A Z S o S' er so e D hd=>by
 unfold yR at e;split at e
 ·rename_i x y z S1 h1;cases e;show#[A,Z,S,_,_,er,so,h1,λvs H1 #[A1,z1,z2,z3]=>?_]
  cases z3 with
  | cons r1 t=>
   cases t with
   | cons r2 t=>
    cases t with
    | cons r3 t=>
     cases t;exact#[_,_,_,rfl,hd.nx _ _ #[_,A1,rfl,z1,z2,(((er.mono z1).set r1 i).set r2 j).set r3 l]]
 ·cases e
abbrev yS (xs:G0 W)(S:aa):G7 (W×aa):=match xs with
 | [.int i]=>if i.natAbs < 1000 then gV (.str (IW (toString i)),S)else td
 | _=>td
def sE:LCall X (.type "str") yS:=by
 intro J s Y H A S xs vs us w S' I so rl rv e;cases rl with
 | nil=>cases e
 | cons r t=>
  cases t with
  | cons _ _=>cases r <;> cases e
  | nil=>
   cases r with
   | int=>
    rename_i i;unfold yS at e;dsimp only at e;split at e
    ·rename_i hi;cases e;show CallR.go (r:=λxs H Q=>xs=[.int i]/\Q (.str (IW (toString i))) H) ?_ I rv #[rfl,.here so .str]
     intro J s Y H xs us Q I r h;obtain⟨rfl,q⟩:=h;obtain⟨u,rfl,t,rfl⟩:=kY r;show P.str_of_int ?_ #[.str _,H,I.tok _,#[_,rfl],q];have hp:i.natAbs < 2 ^ 10:=∅
     by_cases h0:i.natAbs=0
     ·rw[h0]; decide
     ·have:=(Nat.log2_lt h0).mpr hp;omega
    ·cases e
   | _=>cases e
def jX {ts vs:G0 HB}{k k2:G9}{q q2:JE}{env:Na}(h:vs.all (foldedForSure 8)=true):swappedStores [.Tuple ts k q] (.Tuple vs k2 q2) env=pure td:=by
 unfold swappedStores;dsimp only;split
 ·rfl
 ·split
  ·rfl
  ·split
   ·rfl
   ·rfl
end
inductive MI where
 | its (ws:G0 W)
 | live (r:G9)
 | zl (r q:G9)
abbrev DJ (xs ys:G0 W):G0 W:=He (λx y=>.tup [x,y]) xs ys
abbrev MI.at (S:aa)(i:G9):MI->G7 (G7 W)
 | .its ws=>gV ws[i]?
 | .live r=>match gG S r with
  | some xs=>gV xs[i]?
  | none=>td
 | .zl r q=>match gG S r,gG S q with
  | some xs,gV ys=>gV (DJ xs ys)[i]?
  | _,_=>td
abbrev MI.len (S:aa):MI->G7 G9
 | .its ws=>gV ws.length
 | .live r=>(gG S r).map (·.length)
 | .zl r q=>match gG S r,gG S q with
  | some xs,gV ys=>gV (DJ xs ys).length
  | _,_=>td
noncomputable abbrev FI:=Fm->aa->G7 (MI×aa)
structure MIt (wd:Ii)(K:Hl)(mi:MI)(tv:It)(A0:G0 Hb)(H0:Hp):Prop where
 go:∀A H S i w,Ext K A0 H0 A H->StoreOk wd K A H S->mi.at S i=gV (gV w)->tv.go i H/\∀x H',tv.yld i H x H'->Ext K A H A H'/\StoreOk wd K A H' S/\Rel K A H' w x
 stop:∀A H S i,Ext K A0 H0 A H->StoreOk wd K A H S->mi.at S i=gV td->tv.stop i H
inductive tI (X:Cx)(f:FI)(Y:L2.St)(H:Hp)(R:It->Hp->Prop):Prop
 | mk (A:G0 Hb) (Z:Fm) (S:aa) (mi:MI) (S':aa) (er:EnvRel X.K A H Z Y) (so:StoreOk X.w X.K A H S) (e:f Z S=gV (mi,S')) (q:∀tv H' A',Ext X.K A H A' H'->StoreOk X.w X.K A' H' S'->MIt X.w X.K mi tv A' H'->R tv H'):tI X f Y H R
noncomputable abbrev GI (X:Cx)(tg iter:HB)(f:FI):Prop:=PI X tg iter (tI X f)
abbrev yT (f:FE):FI:=λZ S=>match f Z S with
 | some (.tup ws,S1)=>gV (.its ws,S1)
 | some (.ref r,S1)=>match gG S1 r with
  | some _=>gV (.live r,S1)
  | none=>td
 | _=>td
abbrev da (lo:Hg)(n:G9):G0 W:=(Ho n).map λ(k:G9)=>.int (lo+(k:Hg))
abbrev pK (f:FA):FI:=λZ S=>match f Z S with
 | some ([.int j],S1)=>if -(2 ^ 62)<=j/\j < 2 ^ 62 then gV (.its (da 0 j.toNat),S1)else td
 | _=>td
abbrev iRng2 (f:FA):FI:=λZ S=>match f Z S with
 | some ([.int i,.int j],S1)=>if -(2 ^ 62)<=i/\i < 2 ^ 62/\-(2 ^ 62)<=j/\j < 2 ^ 62 then gV (.its (da i (j - i).toNat),S1)else td
 | _=>td
abbrev fM (mi:MI)(g:FG)(b:FS):G9->G9->FS
 | 0,i,Z,S=>match mi.at S i with
  | some td=>gV (.nx Z,S)
  | _=>td
 | n+1,i,Z,S=>match mi.at S i with
  | some (gV w)=>match g w Z S with
   | some (Z1,S1)=>match b Z1 S1 with
    | some (.nx Z2,S2)=>fM mi g b n (i+1) Z2 S2
    | some (.ct Z2,S2)=>fM mi g b n (i+1) Z2 S2
    | some (.bk Z2,S2)=>gV (.nx Z2,S2)
    | some (.rt w,S2)=>gV (.rt w,S2)
    | none=>td
   | none=>td
  | _=>td
abbrev u8 (fi:FI)(g:FG)(b:FS):FS:=λZ S=>match fi Z S with
 | some (mi,S1)=>match mi.len S1 with
  | some n=>fM mi g b n 0 Z S1
  | none=>td
 | none=>td
section
variable{X:Cx}
def yU {A:G0 Hb}{H:Hp}{ws:G0 W}{a:Hb}{vs:G0 V}(h:SqT X.K H a vs)(r:RelL X.K A H ws vs):MIt X.w X.K (.its ws) (CP X.K a) A H:=by
 show#[λA' H' S i w e so hi=>?_,λA' H' S i e so hi=>?_]
 ·simp only[MI.at,Ir]at hi;obtain⟨v,h1,h2⟩:=(r.mono e).get hi;show#[#[vs,v,e.tp _ _ h,h1],λx H2 #[z1,z2]=>?_]
  subst z1;have:=z2 vs (e.tp _ _ h);rw[h1]at this; cases this
  exact#[.refl,so,h2]
 ·simp only[MI.at,Ir]at hi;show#[vs,e.tp _ _ h,?_];rw[<- r.length];exact Jx.mp hi
def yV {A:G0 Hb}{H:Hp}{r:G9}{a:Hb}(ea:A[r]?=gV a):MIt X.w X.K (.live r) (Fn X.K a) A H:=by
 show#[λA' H' S i w e so hi=>?_,λA' H' S i e so hi=>?_]
 ·simp only[MI.at]at hi;split at hi
  ·rename_i xs hx;simp only[Ir]at hi;obtain⟨vs,h1,r1⟩:=cC so hx (e.ad _ _ ea);obtain⟨v,h2,h3⟩:=r1.get hi;show#[#[vs,v,h1,h2],λx H2 #[z1,z2]=>?_]
   subst z1;have:=z2 vs h1;rw[h2]at this; cases this
   exact#[.refl,so,h3]
  ·cases hi
 ·simp only[MI.at]at hi;split at hi
  ·rename_i xs hx;simp only[Ir]at hi;obtain⟨vs,h1,r1⟩:=cC so hx (e.ad _ _ ea);show#[vs,h1,?_];rw[<- r1.length];exact Jx.mp hi
  ·cases hi
def dY {lo:Hg}{n i:G9}:(da lo n)[i]?=if i < n then gV (.int (lo+i))else td:=by
 unfold da;rw[Hc]
 by_cases h:i < n
 ·rw[HE h,Jv h]; rfl
 ·rw[HX h,Jx.mpr (by simp; omega)]; rfl
def qV {A:G0 Hb}{H:Hp}{lo:Hg}{n:G9}:MIt X.w X.K (.its (da lo n)) (Dg lo n) A H:=by
 show#[λA' H' S i w e so hi=>?_,λA' H' S i e so hi=>?_]
 ·simp only[MI.at,Ir]at hi;rw[dY]at hi;split at hi
  ·cases hi;show#[by assumption,λx H2 #[z1,z2]=>?_]
   subst z1 z2;exact#[.refl,so,.int]
  ·cases hi
 ·simp only[MI.at,Ir]at hi;rw[dY]at hi;split at hi
  ·cases hi
  ·change n<=i;omega
def om {tg:HB}{J:G0 (Hb×Je)}{Y:L2.St}{H1:Hp}{s1:G5}{R:It->Hp->Prop}{a:Hb}{xs:G0 V}{v:G4}(I1:Inv X J Y H1 s1)(r1:RelV (.ref a) v)(hq:SqL X.K H1 a xs)(q:R (Fn X.K a) H1) :
  wpAny (model X.prog X.w) X.A (pyIter v) (EV X J Y tg R) X.xe s1:=by
 cases r1;obtain⟨its,rv,p,hz⟩:=I1.list hq;show LR p.isList ?_;show#[s1.heap.objs.size,[s1.heap.objs.size],_,_,H1,rfl,I1.kept (t':=s1.toks) λb o e=>Ha _ e,rP a _,#[_,Hv _ rfl,rfl,rfl],λb hb=>?_,q]
 have e:b=s1.heap.objs.size:=by simpa using hb
 subst e;exact I1.fpOk (Hj _) (I1.hok.fresh (Hj _))
def pL {tg:HB}{J:G0 (Hb×Je)}{Y:L2.St}{H1:Hp}{s1:G5}{R:It->Hp->Prop}{a:Hb}{xs:G0 V}{v:G4}(I1:Inv X J Y H1 s1)(r1:RelV (.ref a) v)(hq:SqT X.K H1 a xs)(q:R (CP X.K a) H1) :
  wpAny (model X.prog X.w) X.A (pyIter v) (EV X J Y tg R) X.xe s1:=by
 cases r1;obtain⟨its,rv,p,hz⟩:=I1.tuple hq;show Nx (show s1.heap.IsTuple a its.toArray from p) ?_
 show#[s1.heap.objs.size,[s1.heap.objs.size],_,_,H1,rfl,I1.kept (t':=s1.toks) λb o e=>Ha _ e,pc a _,#[_,Hv _ rfl,rfl,rfl],λb hb=>?_,q]
 have e:b=s1.heap.objs.size:=by simpa using hb
 subst e;exact I1.fpOk (Hj _) (I1.hok.fresh (Hj _))
def yW {tg a:HB}{f:FA}{p pos:JE}(hg:Gl X "range")(hm:X.mg "range" = td)(ha:GA X [a] f)(hs:starEach [a] X.env=[(false,eval a X.env)]):GI X tg (.Call (.Name "range" p) [a] [] pos) (pK f):=by
 intro J s Y H R I ⟨A,Z,S,mi,S',er,so,e,hq⟩;unfold pK at e;split at e
 ·rename_i j S1 h1;split at e
  ·rename_i hj;cases e;show rQ hg hm ha hs J s Y H R I #[A,Z,S,_,_,er,so,h1,λvs H1 #[A1,z1,z2,z3]=>?_]
   cases z3 with
   | cons r1 t=>
    cases t;cases r1;exact#[j,rfl,hj.1,hj.2,hq _ _ A1 z1 z2 qV]
  ·cases e
 ·cases e
def yX {tg a b:HB}{f:FA}{p pos:JE}(hg:Gl X "range")(hm:X.mg "range" = td)(ha:GA X [a,b] f)(hs:starEach [a,b] X.env=[(false,eval a X.env),(false,eval b X.env)])(hs2:starEach [b] X.env=[(false,eval b X.env)]):GI X tg (.Call (.Name "range" p) [a,b] [] pos) (iRng2 f):=by
 intro J s Y H R I ⟨A,Z,S,mi,S',er,so,e,hq⟩;unfold iRng2 at e;split at e
 ·rename_i i j S1 h1;split at e
  ·rename_i hj;cases e;show rR hg hm ha hs hs2 J s Y H R I #[A,Z,S,_,_,er,so,h1,λvs H1 #[A1,z1,z2,z3]=>?_]
   cases z3 with
   | cons r1 t=>
    cases t with
    | cons r2 t=>
     cases t;cases r1;cases r2;exact#[i,j,rfl,hj,hq _ _ A1 z1 z2 qV]
  ·cases e
 ·cases e
def BZ {tg l:HB}{f:FE}(h:GE X l f):GI X tg l (yT f):=by
 intro J s Y H R I ⟨A,Z,S,mi,S',er,so,e,hq⟩;unfold yT at e;split at e
 ·rename_i ws S1 h1;cases e;show be (h J s Y H (EndV X.w X.K A H _ (.tup ws)) I #[A,Z,S,_,_,er,so,h1,λ_ _ z=>z]) λv s1 #[x,H1,I1,r1,A1,e1,o1,z1]=>?_
  cases z1 with
  | tup hq1 rl=>
   show pL I1 r1 hq1 (hq _ _ A1 e1 o1 (yU hq1 rl))
 ·rename_i r S1 h1;split at e
  ·rename_i ys hy;cases e;show be (h J s Y H (EndV X.w X.K A H _ (.ref r)) I #[A,Z,S,_,_,er,so,h1,λ_ _ z=>z]) λv s1 #[x,H1,I1,r1,A1,e1,o1,z1]=>?_
   cases z1 with
   | ref ea=>
    obtain⟨vs,hl,_⟩:=cC o1 hy ea;exact om I1 r1 hl (hq _ _ A1 e1 o1 (yV ea))
  ·cases e
 ·cases e
def B0 {tg iter:HB}{body:G0 J8}{pos:JE}{fi:FI}{g:FG}{fb:FS}(hp:M3 (model X.prog X.w) X.A X.env X.xe)(hc:X.calm=true)(hi:GI X tg iter fi)(hg:GG X tg g)(hb:GSs X body fb)
  (hs:∀x,foldedSetIterable iter X.env x=pure x):GS X (.For tg iter body [] pos) (u8 fi g fb):=GS.of (Bb hp hc hi hg hb hs) λY H A Z S o S' er so e D hd=>by
 unfold u8 at e;split at e
 ·rename_i mi S1 h1;split at e
  ·rename_i n hn;show#[A,Z,S,mi,S1,er,so,h1,λtv H1 A1 z1 z2 mit=>?_]
   show#[λi m Y2 H2=>∃A2 Z2 S2,Ext X.K A1 H1 A2 H2/\EnvRel X.K A2 H2 Z2 Y2/\StoreOk X.w X.K A2 H2 S2/\fM mi g fb m i Z2 S2=gV (o,S'),#[n,A1,Z,S1,.refl,er.mono z1,z2,e],?_]
   rintro i m Y2 H2 ⟨A2,Z2,S2,e2,er2,so2,w2⟩;cases m with
   | zero=>
    dsimp only[fM]at w2;split at w2
    ·rename_i hs;cases w2;exact .inl #[mit.stop A2 H2 _ i e2 so2 hs,hd.nx _ _ #[_,A2,rfl,z1.trans e2,so2,er2]]
    ·cases w2
   | succ m=>
    dsimp only[fM]at w2;split at w2
    ·rename_i w hw;obtain⟨go,yl⟩:=mit.go A2 H2 S2 i w e2 so2 hw;show .inr #[go,λY3 H3=>∃A3 Z3 S3,Ext X.K A1 H1 A3 H3/\EnvRel X.K A3 H3 Z3 Y3/\StoreOk X.w X.K A3 H3 S3/\fM mi g fb m (i+1) Z3 S3=gV (o,S'),λY' H' h=>#[m,Jq _,h],λx H3 hy=>?_]
     obtain⟨x1,x2,x3⟩:=yl x H3 hy;split at w2
     ·rename_i Z3 S3 h3;show#[A2,Z2,S2,w,Z3,S3,er2.mono x1,x2,x3,h3,λY4 H4 A4 y1 y2 y3=>?_]
      have ex:Ext X.K A1 H1 A4 H4:=(e2.trans x1).trans y1;split at w2
      ·rename_i Z5 S5 h5;show#[A4,Z3,S3,_,S5,y3,y2,h5,#[λY' H' #[Z',A',u0,u1,u2,u3]=>?_,λv H' #[w,A',y0,_,_,_]=>(by cases y0),λv H' #[w,A',y0,_,_,_]=>(by cases y0),λv H' #[w,A',y0,_,_,_]=>(by cases y0)]]
       cases u0;exact#[A',_,S5,ex.trans u1,u3,u2,w2]
      ·rename_i Z5 S5 h5;show#[A4,Z3,S3,_,S5,y3,y2,h5,#[λv H' #[w,A',y0,_,_,_]=>(by cases y0),λv H' #[w,A',y0,_,_,_]=>(by cases y0),λv H' #[w,A',y0,_,_,_]=>(by cases y0),λY' H' #[Z',A',u0,u1,u2,u3]=>?_]]
       cases u0;exact#[A',_,S5,ex.trans u1,u3,u2,w2]
      ·rename_i Z5 S5 h5;cases w2;show#[A4,Z3,S3,_,_,y3,y2,h5,#[λv H' #[w,A',y0,_,_,_]=>(by cases y0),λv H' #[w,A',y0,_,_,_]=>(by cases y0),λY' H' #[Z',A',u0,u1,u2,u3]=>?_,λv H' #[w,A',y0,_,_,_]=>(by cases y0)]]
       cases u0;exact hd.nx _ _ #[_,A',rfl,(z1.trans ex).trans u1,u2,u3]
      ·rename_i w5 S5 h5;cases w2;show#[A4,Z3,S3,_,_,y3,y2,h5,#[λv H' #[w,A',y0,_,_,_]=>(by cases y0),λv H' #[w,A',u0,u1,u2,u3]=>?_,λv H' #[w,A',y0,_,_,_]=>(by cases y0),λv H' #[w,A',y0,_,_,_]=>(by cases y0)]]
       cases u0;exact hd.rt _ _ #[_,A',rfl,(z1.trans ex).trans u1,u2,u3]
      ·cases w2
     ·cases w2
    ·cases w2
  ·cases e
 ·cases e
end
section
variable{prog:HP}{w:Ii}{B:HY}{E:G4->G5->Prop}{s:G5}
def yY {d:Hb}{es:Io JF}{ep:G9}{Q:G4->G5->Prop}(hd:(d==sysModules)=false)(hm:RawD d es ep s.heap)(hfit:(es.size:Hg) < 2 ^ 63)
  (h:Q (.int es.size (s.toks+1)) { s with toks:=s.toks+1+1 }):wpAny (model prog w) B (call (.builtin "len") [.ref d]) Q E s:=by
 have hT:=hm.type;obtain⟨o,ho,hc,hdat⟩:=id hm;show LJ kind_len plain_len entry_len (args_len1 _) ?_;unfold Mn.«len»;show G2 (m:=oneArg "len" _) (Hd ?_);show G2 (m:=callSpecial? (.ref d) (IW "__len__")) (IF (name:=IW "__len__") hT F.slot_dict_len (IR F.slot_dict_len hT F.entry_dict_len ?_ (F.args_dict_len_1 _)));change wpAny _ _ (dictSize d >>= _) _ _ s;unfold dictSize;show G2 (G2 (K8 ho hdat (Hd ?_)));change wpAny _ _ (OZ d >>= _) _ _ s;show G2 (wpAny_pendingCount_other hd ?_);show wpAny_ret_mkInt ?_;rw[Nat.add_zero];change wpAny _ _ _ _ _ { s with toks:=s.toks+1 }
 show G2 (Jb (Hd ?_));show G2 (Lk ?_);change wpAny _ _ (if ((es.size:G9):Hg) < 0 then _ else _) _ _ _
 rw[HX ∅]
 change wpAny _ _ (if ((es.size:G9):Hg)>=2 ^ 63 then _ else _) _ _ _
 rw[HX ∅]
 exact G2 (On (Hd #[_,rfl,h]))
end
section
variable{X:Cx}{J:G0 (Hb×Je)}{Y:L2.St}{H:Hp}{s:G5}{A:G0 Hb}{S:aa}
def pM:LCall X (.builtin "len") pI:=by
 intro J s Y H A S xs vs us w S' I so rl rv e
 by_cases hd:∃i U,xs=[.ref i]/\kL S i=gV U
 ·obtain⟨i,U,rfl,hk⟩:=hd
  (dsimp only[pI]at e; simp only[hk]at e)
  cases e;cases rl with
  | cons r t=>
   cases t;cases rv with
   | cons ru rv2=>
    cases rv2;cases r with
    | ref ea=>
     obtain⟨xs,rd,kr⟩:=fJ so hk ea;have d:=cw I rd;obtain⟨es,ep,raw,he⟩:=d.raw;obtain rfl:_=Im _:=ru;have hl:es.size=xs.length:=by rw[<- HZ,he,G1]
     have hz:=d.1;have hs:sizeLine=16777216:=IE;show yY d.2.1 raw ∅ #[.int U.length,H,A,I.tok _,#[_,by rw[kr.length,hl]],.refl,so,.int]
 ·have:pI xs S=pB xs S:=by
   unfold pI;split
   ·rename_i i;split
    ·rename_i U hk;exact absurd #[i,U,rfl,hk] hd
    ·rfl
   ·rfl
  rw[this]at e;exact sf J s Y H A S xs vs us w S' I so rl rv e
abbrev E2 (S:aa):W->G7 IN
 | .non=>gV "NoneType"|.bl _=>gV "bool"|.int _=>gV "int"|.str _=>gV "str"|.tup _=>gV "tuple"
 | .ref i=>match gG S i with
  | some _=>gV "list"
  | none=>(kL S i).map λ_=>"dict"
abbrev on:G0 IN:=["bool","int","str","tuple","list","dict"]
abbrev sF (S:aa)(x:W)(c:IN):G7 HA:=match E2 S x with
 | some t=>if on.contains c then gV (t==c||(t == "bool" && c == "int"))else td
 | none=>td
def gJ {K:Hl}{t c:IN}(ht:t∈["NoneType","bool","int","str","tuple","list","dict"])(hc:c∈on):PySem.W.kitOne K (.type t) (.type c)=gV (t==c||(t == "bool" && c == "int")):=by
 simp only[on,HF,IB,Kf]at ht hc;rcases ht with rfl|rfl|rfl|rfl|rfl|rfl|rfl <;> rcases hc with rfl|rfl|rfl|rfl|rfl|rfl <;> rfl
def u9:CallR X (.builtin "isinstance") (λvs H Q=>∃A S x v c b,vs=[v,.ty c]/\StoreOk X.w X.K A H S/\Rel X.K A H x v/\sF S x c=gV b/\Q (.bl b) H):=by
 intro J s Y H vs us Q I rv ⟨A,S,x,v,c,b,e1,so,rx,e2,hq⟩;subst e1;cases rv with
 | cons r1 rv2=>cases rv2 with
  | cons r2 rv3=>
   cases rv3;obtain rfl:_=Kx c:=r2;unfold sF at e2;split at e2
   ·rename_i t ht;split at e2
    ·rename_i hc;cases e2;have hc':c∈on:=by simpa using hc
     have fin:∀tk,EP X J Y Q (.bool (t==c||(t == "bool" && c == "int"))) { s with toks:=tk }:=λtk=>#[.bl _,H,I.tok _,rfl,hq]
     cases rx with
     | non=>cases ht; cases(show _=Ix from r1); exact JY PySem.W.kitx_none I.kIn Li (gJ (by simp) hc') (λz=>nomatch z) fin
     | bl=>cases ht; cases(show _=JH _ from r1); exact JY PySem.W.kitx_bool I.kIn Li (gJ (by simp) hc') (λz=>nomatch z) fin
     | int=>cases ht; obtain⟨t',q⟩:=(show ∃t,_=L3 _ t from r1); cases q; exact JY PySem.W.kitx_int I.kIn Li (gJ (by simp) hc') (λz=>nomatch z) fin
     | str=>cases ht; obtain⟨t',q⟩:=(show ∃t,_=L4 _ t from r1); cases q; exact JY PySem.W.kitx_str I.kIn Li (gJ (by simp) hc') (λz=>nomatch z) fin
     | tup h1 r1'=>
      cases ht;obtain⟨its,rv,⟨o,q1,q2,_⟩,hz⟩:=I.tuple h1;cases(show _=Im _ from r1)
      exact JY PySem.W.kitx_tuple I.kIn #[o,q1,q2] (gJ (by simp) hc') (λz=>nomatch z) fin
     | ref ea=>
      cases(show _=Im _ from r1)
      dsimp only[E2]at ht;split at ht
      ·rename_i ws hw;cases ht;obtain⟨vs,h1,_⟩:=cC so hw ea;obtain⟨its,rv,p,hz⟩:=I.list h1;obtain⟨o,q1,q2,_⟩:=p.isList;exact JY PySem.W.kitx_list I.kIn #[o,q1,q2] (gJ (by simp) hc') (λz=>nomatch z) fin
      ·rw[G6]at ht;obtain⟨U,hk,rfl⟩:=ht;obtain⟨xs,rd,kr⟩:=fJ so hk ea;obtain⟨es,ep,⟨o,q1,q2,_⟩,he⟩:=(cw I rd).raw;exact JY PySem.W.kitx_dict I.kIn #[o,q1,q2.1] (gJ (by simp) hc') (λz=>nomatch z) fin
    ·cases e2
   ·cases e2
abbrev vc (c:IN)(f:FE):FE:=λZ S=>match f Z S with
 | some (x,S1)=>(sF S1 x c).map λb=>(.bl b,S1)
 | none=>td
def B1 {cn:Hs}{c:IN}{e:HB}{p p2 pos:JE}{f:FE}(hg:Gl X "isinstance")(hm:X.mg "isinstance" = td)(hg2:Gl X cn)(hm2:X.mg cn=td)(hv2:bootBuiltins cn=gV (.type c))(hn2:cn≠"__name__")(hd2:(cn==("__debug__" : Hs))=false)
  (he:GE X e f) (hs:starEach [e,.Name cn p2] X.env=(false,eval e X.env)::starEach [.Name cn p2] X.env):GE X (.Call (.Name "isinstance" p) [e,.Name cn p2] [] pos) (vc c f):=
 GE.of (nD (u9) hg hm rfl (gT he (gT (xB (v:=.ty c) hg2 hm2 hv2 rfl hn2 hd2) ph) hs) #v[] #v[] hs rfl) λY H A Z S w S' er so e Q hq=>by
  unfold vc at e;split at e
  ·rename_i x1 S1 h1;rw[G6]at e;obtain⟨b,e1,e2⟩:=e;cases e2;exact#[A,Z,S,x1,_,er,so,h1,λv H1 #[A1,z1,z2,z3]=>#[A1,_,x1,v,c,b,rfl,z2,z3,e1,hq _ _ #[A1,z1,z2,.bl]]]
  ·cases e
end
abbrev gK:G0 (T×W)->G0 W->G7 (G0 (T×W))
 | U,[]=>gV U
 | U,k::v::ws=>match js k with
  | some t=>gK (gw U t v) ws
  | none=>td
 | _,[_]=>td
abbrev Aj:FE:=λ_ S=>gV (.ref S.length,S++[.dic []])
abbrev oo (f:FA):FE:=λZ S=>match f Z (S++[.dic []])with
 | some (ws,S1)=>match S1[S.length]? with
  | some (.dic [])=>match gK [] ws with
   | some U=>gV (.ref S.length,S1.set S.length (.dic U))
   | none=>td
  | _=>td
 | none=>td
section
variable (K:Hl) (A:G0 Hb) (H:Hp)
inductive RelP:G0 W->G0 (V×V)->Prop
 | nil:RelP [] []
 | cons {k v:W} {a b:V} {ws:G0 W} {ps:G0 (V×V)}:Rel K A H k a->Rel K A H v b->RelP ws ps->RelP (k::v::ws) ((a,b)::ps)
end
def RelP.mono {K:Hl}{A A':G0 Hb}{H H':Hp}(e:Ext K A H A' H'){ws:G0 W}{ps:G0 (V×V)}(h:RelP K A H ws ps):RelP K A' H' ws ps:=by
 induction h with
 | nil=>exact .nil
 | cons a b c ih=>exact .cons (a.mono e) (b.mono e) ih
section
variable{X:Cx}{J:G0 (Hb×Je)}{Y:L2.St}{H:Hp}{s:G5}{A:G0 Hb}{S:aa}
abbrev FX (X:Cx)(A:G0 Hb)(H:Hp)(S':aa)(ws:G0 W):G0 (V×V)->Hp->Prop:=λps H'=>∃A',Ext X.K A H A' H'/\StoreOk X.w X.K A' H' S'/\RelP X.K A' H' ws ps
abbrev DK (X:Cx)(pos:JE)(keys:G0 (G7 HB))(values:G0 HB)(f:FA):Prop:=
 ∀(J:G0 (Hb×Je)) (s:G5) (Y:L2.St) (H:Hp) (A:G0 Hb) (Z:Fm) (S:aa) (ws:G0 W) (S':aa),Inv X J Y H s->EnvRel X.K A H Z Y->StoreOk X.w X.K A H S->f Z S=gV (ws,S')->
  wpAny (model X.prog X.w) X.A (evalPairs (pairTrees keys values X.env pos)) (λvs s'=>∃ps H',Inv X J Y H' s'/\VV ps vs/\FX X A H S' ws ps H') X.xe s
def yZ {pos:JE}:DK X pos [] [] hG:=λJ s Y H A Z S ws S' I er so e=>by
 cases e;exact pairTrees_nil_walk #[[],H,I,.nil,A,.refl,so,.nil]
def vd {pos:JE}{k v:HB}{ks:G0 (G7 HB)}{vs:G0 HB}{fk fv:FE}{f:FA}(hk:GE X k fk)(hv:GE X v fv)(hr:DK X pos ks vs f):DK X pos (gV k::ks) (v::vs) (dC fk (dC fv f)):=λJ s Y H A Z S ws S' I er so e=>by
 unfold dC at e;split at e
 ·rename_i w1 S1 h1;split at e
  ·rename_i w2 S2 h2;cases e;split at h2
   ·rename_i w3 S3 h3;split at h2
    ·rename_i w4 S4 h4;cases h2;show pairTrees_cons_walk (be (hk J s Y H (EndV X.w X.K A H S1 w1) I #[A,Z,S,_,_,er,so,h1,λ_ _ z=>z]) λu s1 #[x,H1,I1,r1,A1,e1,o1,z1]=>
      be (hv J s1 Y H1 (EndV X.w X.K A1 H1 S3 w3) I1 #[A1,Z,S1,_,_,er.mono e1,o1,h3,λ_ _ z=>z]) λu2 s2 #[x2,H2,I2,r2,A2,e2,o2,z2]=>
      be (hr J s2 Y H2 A2 Z S3 _ _ I2 (er.mono (e1.trans e2)) o2 h4) λvs' s3 #[ps,H3,I3,rel,A3,e3,o3,z3]=>?_)
     exact#[(x,x2)::ps,H3,I3,.cons #[r1,r2] rel,A3,e1.trans (e2.trans e3),o3,.cons (z1.mono (e2.trans e3)) (z2.mono e3) z3]
    ·cases h2
   ·cases h2
  ·cases e
 ·cases e
def lH {r:G9}{d:Hb}{E:G4->G5->Prop}(hu:X.A.units+10 < cLine):∀(vs:G0 (G4×G4)) (ps:G0 (V×V)) (ws:G0 W) (U U':G0 (T×W)) (s:G5) (H:Hp) (S:aa) (Q:PUnit->G5->Prop),
  Inv X J Y H s->StoreOk X.w X.K A H S->nQ S r=gV U->A[r]?=gV d->RelP X.K A H ws ps->VV ps vs->gK U ws=gV U'->U.length+vs.length<=30->
  (∀s' H',Inv X J Y H' s'->Ext X.K A H A H'->StoreOk X.w X.K A H' (S.set r (.dic U'))->Q Nw s')->
  wpAny (model X.prog X.w) X.A (forIn vs Nw λ(x:G4×G4) (_:PUnit)=>(do dictSet d x.1 x.2; pure (Jl Nw):Pq (ForInStep PUnit))) Q E s
 | [],_,_,U,U',s,H,S,Q,I,so,hr,ea,rp,vv,e,hl,hq=>by
  cases vv;cases rp;cases e;rw[MR];show Hd (hq s H I .refl ?_);have hS:=g7 hr;have:S.set r (.dic U)=S:=by
   apply La;intro j;rw[Jr];split
   ·rename_i e; subst e
    split
    ·exact hS.symm
    ·rename_i h; exact absurd (Hm.mp hS).1 h
   ·rfl
  rw[this]; exact so
 | (ku,vu)::vs,_,_,U,U',s,H,S,Q,I,so,hr,ea,rp,vv,e,hl,hq=>by
  cases vv with
  | cons hv vv2=>
   cases rp with
   | @cons wk wv va vb ws2 ps2 rk rv' rp2=>
    dsimp only[gK]at e;split at e
    ·rename_i t ht;rw[Mv];obtain⟨xs,hH,kr⟩:=qL so hr ea;have dd0:=cw I (.inl hH);have dd:=dd0.dict I kr;obtain⟨bk,e1,e2,rkk⟩:=g6 ht rk hv.1;have e2:ku=Im bk:=e2;subst e2;obtain⟨q1,q2,q3⟩:=dN ht;rw[Ih]at hl;have hz:xs.length<=sizeLine:=dd0.1;show G2 (G2 (wpAny_dictSet_heap (hsz:=hz) (show X.A.units+bh < cLine by unfold bh; omega) (iN I rkk q3) dd λh' dd' hs=>Hd ?_))
     have kr':=kr.put q2 q3 rkk rv' hv.2;have hz':(storedH xs t bk vu).length<=sizeLine:=by
      rw[<- kr'.length];have h2:=d7 U t wv;rw[IE];omega
     have dn:DicAt X.w d (storedH xs t bk vu) h':=.of hz' dd0.2.1 dd';obtain⟨so',ex⟩:=so.writeO (g7 hr) rfl ea (u:=dS X.w d (storedH xs t bk vu)) (n:=.dic (gw U t wv)) #[_,ba,kr'.mono (dj (.ext hH))];have I':Inv X J Y (bO H d (dS X.w d (storedH xs t bk vu))) { s with heap:=h',toks:=s.toks+(cN X.prog X.w).draws t }:=mh I (by rw[hH]; exact Li) hs (let ⟨q,_,_,hq,_⟩:=dd'; #[q,hq]) dn.ok
     have hl':(S.set r (.dic (gw U t wv)))[r]?=gV (.dic (gw U t wv)):=by
      rw[Jr,HE rfl,HE (Hm.mp (g7 hr)).1]
     show lH hu vs _ _ (gw U t wv) U' _ _ _ Q I' so' (by unfold nQ; rw[hl']) ea (rp2.mono ex) vv2 e (by have:=d7 U t wv; omega) λs' H' I2 ex2 so2=>?_
     rw[List.set_set]at so2;exact hq s' H' I2 (ex.trans ex2) so2
    ·cases e
def y4 {pos:JE}:GE X (.Dict [] [] pos) Aj:=λJ s Y H Q I #[A,Z,S,w,S',er,so,e,hq]=>by
 cases e;have hn:=I.hok.fresh (Hj s.heap.objs.size);have dn:DicAt X.w s.heap.objs.size [] (s.heap.push { cls:=.type "dict",data:=.dict #[] }):=#[IS _,KF.mpr (Ne.symm (HL I.big)),MS,_,#[],0,Hv _ rfl,#[rfl,rfl,rfl],rfl,rfl];show wpAny_Dict_empty #[.ref s.heap.objs.size,_,I.laid (a:=s.heap.objs.size) (o:=dS X.w s.heap.objs.size []) (t':=s.toks) (λ_ _ q=>Ha _ q) (Hj _) dn.ok,rfl,hq _ _ #[A++[s.heap.objs.size],dU hn,so.pushO hn #[[],ba,.nil],.ref ?_]]
 rw[<- so.len]; simp
def y6 {pos:JE}{keys:G0 (G7 HB)}{values:G0 HB}{f:FA}(hu:X.A.units+10 < cLine)(h:DK X pos keys values f)(hall:keys.all (·.isSome)=true)(hl:keys.length=values.length)(h0:keys≠[])(h15:keys.length<=15):GE X (.Dict keys values pos) (oo f):=by
 intro J s Y H Q I ⟨A,Z,S,w,S',er,so,e,hq⟩;unfold oo at e;split at e
 ·rename_i ws S1 h1;split at e
  ·rename_i hS1;split at e
   ·rename_i U hp;cases e;have hn:=I.hok.fresh (Hj s.heap.objs.size);have dn:DicAt X.w s.heap.objs.size [] (s.heap.push { cls:=.type "dict",data:=.dict #[] }):=#[IS _,KF.mpr (Ne.symm (HL I.big)),MS,_,#[],0,Hv _ rfl,#[rfl,rfl,rfl],rfl,rfl];have I1:=I.laid (a:=s.heap.objs.size) (o:=dS X.w s.heap.objs.size []) (h':=s.heap.push { cls:=.type "dict",data:=.dict #[] }) (t':=s.toks) (λ_ _ q=>Ha _ q) (Hj _) dn.ok
    have ex0:Ext X.K A H (A++[s.heap.objs.size]) (bO H s.heap.objs.size (dS X.w s.heap.objs.size [])):=dU hn;have so0:StoreOk X.w X.K (A++[s.heap.objs.size]) (bO H s.heap.objs.size (dS X.w s.heap.objs.size [])) (S++[.dic []]):=so.pushO hn #[[],ba,.nil];have hlen:=pairTrees_length keys values X.env pos hall hl;have hne:pairTrees keys values X.env pos≠[]:=λhe=>by
     rw[he]at hlen;exact h0 (Kg.mp hlen.symm)
    rw[arm_eval_Dict,zip_pairTrees keys values X.env pos hall hl,dictDisplay_pairs _ hne ∅]
    show G2 (KI (G2 ?_));unfold subDict;show G2 (PD ?_);show G2 (Jb ?_);rw[HE ∅]
    show G2 (Jn (wpAny_evalPairs_len (h J _ Y _ _ Z _ _ _ I1 (er.mono ex0) so0 h1)) (λvs s₁ h₁=>?_) λ_ _ e=>e)
    obtain⟨hvl,ps,H2,I2,vv,A2,ex2,so2,rp⟩:=h₁;show Jb ?_;have ea:A2[S.length]?=gV s.heap.objs.size:=ex2.ad _ _ (by rw[<- so.len]; simp)
    show G2 (lH hu vs ps ws [] U s₁ H2 S1 _ I2 so2 (by unfold nQ; rw[hS1]) ea rp vv hp (by rw[Jk]; omega) λs' H' I3 ex3 so3=>?_)
    exact Hd (Hd (Hd #[.ref s.heap.objs.size,H',I3,rfl,hq _ _ #[A2,ex0.trans (ex2.trans ex3),so3,.ref ea]]))
   ·cases e
  ·cases e
 ·cases e
end
abbrev Gu (wd:Ii)(a:Hb)(o:Je)(xs:G0 (T×Hb×G4)):It:=
 #[λi H=>H a=gV (.frz o (dS wd a xs))/\i < xs.length,λi H x H'=>H'=H/\∃q,xs[i]?=gV q/\x=.ref q.2.1,λi H=>H a=gV (.frz o (dS wd a xs))/\xs.length<=i]
def sG {P:HP}{w:Ii}{K:Hl}{tg:HB}(a it:Hb){o:Je}{es:Io JF}{ep:G9}{xs:G0 (T×Hb×G4)}(hx:o.ExactDict)(hd:o.data=.dict es ep)(he:es.toList=xs.map (uq w)) :
  Turn P w K tg (Gu w a o xs) [it] it (λi h=>h.IsKeyIter it a i es.size ep) where
 mem:=by simp
 obj:=λi h st b hb=>by
  have e:b=it:=by simpa using hb
  subst e;obtain⟨o,e,c,d⟩:=st;exact#[o,e,λv z=>by rw[d]at z; cases z]
 keep:=λi h h' st k=>st.at λo e=>k it (by simp) o e
 item:=by
  intro X hP hw hK hc i J s Y H E I hf st hg;subst hP hw hK;obtain⟨hH,hi⟩:=hg;have ho:s.heap.get? a=gV o:=(show ObjOk X.prog X.w H s.heap a (.frz o (dS X.w a xs))from I.hok a _ hH).1
  have hl:es.size=xs.length:=by rw[<- HZ,he,G1]
  have hi':i < es.size:=∅
  obtain⟨f0,f1,f2,f3,f4,f5⟩:=hf it (by simp)
  have hk:es[i].key=.ref (xs[i]).2.1:=by
   have:es.toList[i]?=gV (uq X.w xs[i]):=by rw[he,Hc,Hi hi]; rfl
   rw[Jf,KD hi']at this;have:=IH this;rw[this]; rfl
  show nV st #[o,ho,hx,hd] hi' λh' st' sb=>?_
  have I1:Inv X J Y H { s with heap:=h' }:=I.turned (t':=s.toks) (λb o hb e=>(sb.2 b hb).trans e) f0 f1 f3 f4 f5
  obtain⟨o',e,c,d⟩:=id st';exact#[_,rfl,qu (s:={ s with heap:=h' }) e c d #v[] #[.ref (xs[i]).2.1,H,I1,hk,#[rfl,xs[i],Hi hi,rfl],st',λb hb=>(hf b hb).1]]
 done:=by
  intro X hP hw hK hc i J s Y H E I hf st hg;subst hP hw hK;obtain⟨hH,hi⟩:=hg;have ho:s.heap.get? a=gV o:=(show ObjOk X.prog X.w H s.heap a (.frz o (dS X.w a xs))from I.hok a _ hH).1
  have hl:es.size=xs.length:=by rw[<- HZ,he,G1]
  obtain⟨f0,f1,f2,f3,f4,f5⟩:=hf it (by simp)
  exact qM (I.ok.hd hc) st #[o,ho,hx,hd] ∅ λh' eb=>#[rfl,I.turned (t':=s.toks) (λb o hb e=>eb b o hb e) f0 f1 f3 f4 f5]
 self:=λ_ _ _ _ _ st h=>MO st h
abbrev fu (f:FE):FI:=λZ S=>match f Z S with
 | some (.tup ws,S1)=>gV (.its ws,S1)
 | some (.ref r,S1)=>match gG S1 r with
  | some _=>gV (.live r,S1)
  | none=>match kL S1 r with
   | some U=>gV (.its (U.map λp=>p.1.w),S1.set r (.frd U))
   | none=>td
 | _=>td
section
variable{X:Cx}{J:G0 (Hb×Je)}{Y:L2.St}{H:Hp}{s:G5}{A:G0 Hb}{S:aa}
def ve {a:Hb}{o:Je}{U:G0 (T×W)}{xs:G0 (T×Hb×G4)}(hH:H a=gV (.frz o (dS X.w a xs)))(kr:KRel X.K A H U xs):MIt X.w X.K (.its (U.map λp=>p.1.w)) (Gu X.w a o xs) A H:=by
 show#[λA' H' S i w e so hi=>?_,λA' H' S i e so hi=>?_]
 ·simp only[MI.at,Ir]at hi;obtain⟨v,h1,h2⟩:=((kr.mono e).keysL).get hi;rw[Hc,G6]at h1;obtain⟨q,q1,q2⟩:=h1;show#[#[e.fz _ _ _ hH,(Hm.mp q1).1],λx H2 #[z1,q',z2,z3]=>?_]
  subst z1 z3;rw[q1]at z2; cases z2
  exact#[.refl,so,by rw[q2]; exact h2]
 ·simp only[MI.at,Ir]at hi;show#[e.fz _ _ _ hH,?_];have:=Jx.mp hi;rw[G1,kr.length]at this;exact this
def y8 {tg l:HB}{f:FE}(h:GE X l f):GI X tg l (fu f):=by
 intro J s Y H R I ⟨A,Z,S,mi,S',er,so,e,hq⟩
 by_cases hd:∃r S1 U,f Z S=gV (.ref r,S1)/\gG S1 r=td/\kL S1 r=gV U
 ·obtain⟨r,S1,U,h1,h2,h3⟩:=hd;simp only[fu,h1,h2,h3]at e;cases e;show be (h J s Y H (EndV X.w X.K A H S1 (.ref r)) I #[A,Z,S,_,_,er,so,h1,λ_ _ z=>z]) λv s1 #[x,H1,I1,r1,A1,e1,o1,z1]=>?_
  cases z1 with
  | @ref _ a ea=>
   obtain rfl:v=Im a:=r1;have fz:∃o xs H2,Inv X J Y H2 s1/\Ext X.K A1 H1 A1 H2/\StoreOk X.w X.K A1 H2 (S1.set r (.frd U))/\H2 a=gV (.frz o (dS X.w a xs))/\KRel X.K A1 H2 U xs:=by
    unfold kL at h3;split at h3
    ·rename_i k hk;cases h3;obtain⟨xs,hH,kr⟩:=o1.obj r _ a hk ea;have d:=cw I1 (.inl hH);obtain⟨_,_,_,o,es,ep,q1,q2,q3,q4⟩:=id d;obtain⟨so',ex⟩:=o1.writeO hk rfl ea (u:=.frz o (dS X.w a xs)) (n:=.frd U) #[o,xs,ba,kr.mono (dj (.ext hH))];exact#[o,xs,_,mh (h':=s1.heap) (t':=s1.toks) (ob:=.frz o (dS X.w a xs)) I1 (by rw[hH]; exact Li) (P6 _ _) #[o,q1] #[q1,d.ok],ex,so',ba,kr.mono ex]
    ·rename_i k hk;cases h3;obtain⟨o,xs,hH,kr⟩:=o1.obj r _ a hk ea;have:S1.set r (.frd U)=S1:=by
      apply La;intro j;rw[Jr];split
      ·rename_i e; subst e
       split
       ·exact hk.symm
       ·rename_i h; exact absurd (Hm.mp hk).1 h
      ·rfl
     rw[this];exact#[o,xs,H1,I1,.refl,o1,hH,kr]
    ·cases h3
   obtain⟨o,xs,H2,I2,ex,so2,hH,kr⟩:=fz;have d:=cw I2 (.inr #[o,hH]);have ho:s1.heap.get? a=gV o:=(show ObjOk X.prog X.w H2 s1.heap a (.frz o (dS X.w a xs))from I2.hok a _ hH).1
   obtain⟨_,hsm,_,o',es,ep,q1,q2,q3,q4⟩:=id d;rw[ho]at q1;cases q1;show nU hsm #[o,ho,q2,q3] ?_;show#[s1.heap.objs.size,[s1.heap.objs.size],_,_,H2,rfl,I2.kept (t':=s1.toks) λb o e=>Ha _ e,sG a _ q2 q3 q4,#[_,Hv _ rfl,rfl,rfl],λb hb=>?_,hq _ _ A1 (e1.trans ex) so2 (ve hH kr)]
   have e:b=s1.heap.objs.size:=by simpa using hb
   subst e;exact I2.fpOk (Hj _) (I2.hok.fresh (Hj _))
 ·have:fu f Z S=yT f Z S:=by
   unfold fu yT;cases hf:f Z S with
   | none=>rfl
   | some p=>
    obtain⟨w,S1⟩:=p;cases w with
    | ref r=>
     cases h2:gG S1 r with
     | some _=>simp only[h2]
     | none=>
      cases h3:kL S1 r with
      | none=>simp only[h2,h3]
      | some U=>exact absurd #[r,S1,U,hf,h2,h3] hd
    | _=>rfl
  rw[this]at e;exact BZ h J s Y H R I #[A,Z,S,mi,S',er,so,e,hq]
end
section
variable{Mqa:Pp}{A:HY}{E:G4->G5->Prop}{s:G5}
def oq {scope:Kh}{g:Hb}{cl:G0 (Hs×Hb)}{qual:Hs}{outer:Na}{Q:Na->G5->Prop}
  (h:Q (newEnv scope s.heap.objs.size g (cellsFrom (s.heap.objs.size+1) scope.names cl) qual td .none (gV outer) builtinsNs) { s with heap:=pushCells (s.heap.push { cls:=.type "dict",data:=.dict #[] }) scope.names }) :
  wpAny Mqa A (newFunctionEnv scope g cl [] qual td .none (gV outer)) Q E s:=by
 simp only[newFunctionEnv,Option.isSome_some,Ki];show G2 (PD ?_);show G2 (wpAny_layCells _ (λname kind cells=>by cases hkc:kind==Kr <;> simp[hkc]) _ _ _ _ ?_)
 rw[show({ s with heap:=s.heap.push { cls:=.type "dict",data:=.dict #[] } }:G5).heap.objs.size=s.heap.objs.size+1 from Lb ..]
 rw[MR];exact G2 (Hd (Hd h))
def vf {names:G0 (Hs×IV)}{h2:Iv}:(pushCells (h2.push { cls:=.type "dict",data:=.dict #[] }) names).Ns h2.objs.size (λ_=>td):=
 Heap.Ns.keeps (h:=h2.push { cls:=.type "dict",data:=.dict #[] }) #[_,#[],0,Hv _ rfl,rfl,by simp[StrKeys],λ_=>rfl] (MA names _)
def eF:∀(names:G0 (Hs×IV)) (m:G9) (acc:G0 (Hs×Hb)) {x:Hs} {c:Hb},(cellsFrom m names acc).lookup x=gV c->
  (acc.lookup x=gV c/\(x,Kr)∉names)\/(m<=c/\(x,Kr)∈names/\∀h:Iv,h.objs.size=m->(pushCells h names).IsCell c td)
 | [],_,_,_,_,hm=>.inl #[hm,λz=>nomatch z]
 | (name,kind)::r,m,acc,x,c,hm=>by
  unfold cellsFrom at hm;split at hm
  ·rename_i hk;have hc:kind=.cell:=eq_of_beq hk;subst hc;rcases eF r _ _ hm with⟨z,zn⟩|⟨z1,z2,z3⟩
   ·rw[IC]at z;split at z
    ·rename_i e;cases z;have:=eq_of_beq e;subst this;show .inr #[Hj _,Ic,λh e=>?_]
     subst e;exact(show(h.push { cls:=.type "cell",data:=.cell td }).IsCell h.objs.size td from#[_,Hv _ rfl,rfl]).keeps (MA r _)
    ·rename_i e;show .inl #[z,λy=>?_]
     rcases HF.mp y with y|y
     ·cases y; simp at e
     ·exact zn y
   ·show .inr #[Nat.le_of_succ_le z1,HN _ z2,λh e=>?_]
    exact z3 _ (by rw[Lb,e])
  ·rename_i hk;rcases eF r _ _ hm with⟨z,zn⟩|⟨z1,z2,z3⟩
   ·show .inl #[z,λy=>?_]
    rcases HF.mp y with y|y
    ·cases y; exact hk rfl
    ·exact zn y
   ·show .inr #[z1,HN _ z2,λh e=>?_]
    unfold pushCells;rw[HX hk];exact z3 h e
def iQ:∀(names:G0 (Hs×IV)) (m:G9) (acc:G0 (Hs×Hb)),(∀x c,acc.lookup x=gV c->c < m)->(∀x y c,acc.lookup x=gV c->acc.lookup y=gV c->x=y)->
  ∀x y c,(cellsFrom m names acc).lookup x=gV c->(cellsFrom m names acc).lookup y=gV c->x=y
 | [],_,_,_,h=>h
 | (name,kind)::r,m,acc,hl,h=>by
  unfold cellsFrom;split
  ·show iQ r (m+1) _ (λx c e=>?_) λx y c e1 e2=>?_
   ·rw[IC]at e;split at e
    ·cases e; exact Jq _
    ·exact Lc (hl x c e)
   ·rw[IC]at e1 e2;split at e1 <;> split at e2
    ·rename_i _ z1 _ z2;rw[eq_of_beq z1,eq_of_beq z2]
    ·cases e1;exact absurd (hl y _ e2) (Iw _)
    ·cases e2;exact absurd (hl x _ e1) (Iw _)
    ·exact h x y c e1 e2
  ·exact iQ r m acc hl h
def iR:∀(names:G0 (Hs×IV)) (m:G9) (acc:G0 (Hs×Hb)) {n:Hs},(n,Kr)∈names\/(∃c,acc.lookup n=gV c)->∃c,(cellsFrom m names acc).lookup n=gV c
 | [],_,_,_,h=>h.elim (λz=>nomatch z) id
 | (name,kind)::r,m,acc,n,h=>by
  unfold cellsFrom;split
  ·show iR r (m+1) _ ?_;rw[IC];split
   ·exact .inr #[_,rfl]
   ·rename_i e;rcases h with z|z
    ·rcases HF.mp z with y|y
     ·cases y; simp at e
     ·exact .inl y
    ·exact .inr z
  ·rename_i hk;show iR r m acc ?_;rcases h with z|z
   ·rcases HF.mp z with y|y
    ·cases y; exact absurd rfl hk
    ·exact .inl y
   ·exact .inr z
end
abbrev bG (mi:MI)(g:FG)(c:FT)(f:FE):G9->G9->Fm->aa->G7 (G0 W×aa)
 | 0,i,_,S=>match mi.at S i with
  | some td=>gV ([],S)
  | _=>td
 | n+1,i,Z,S=>match mi.at S i with
  | some (gV w)=>match g w Z S with
   | some (Z1,S1)=>match c Z1 S1 with
    | some (true,S2)=>match f Z1 S2 with
     | some (y,S3)=>match bG mi g c f n (i+1) Z1 S3 with
      | some (ys,S4)=>gV (y::ys,S4)
      | none=>td
     | none=>td
    | some (false,S2)=>bG mi g c f n (i+1) Z1 S2
    | none=>td
   | none=>td
  | _=>td
abbrev eG (cap:G0 (G7 G9))(Z:Fm):Fm:=cap.map λo=>match o with
 | some j=>(Z[j]?).join
 | none=>td
abbrev jY (fi:FI)(g:FG)(c:FT)(f:FE)(cap:G0 (G7 G9)):FE:=λZ S=>match fi Z S with
 | some (mi,S1)=>match mi.len S1 with
  | some n=>match bG mi g c f n 0 (eG cap Z) S1 with
   | some (ys,S2)=>kO S2 ys
   | none=>td
  | none=>td
 | none=>td
abbrev Ak:FT:=λ_ S=>gV (true,S)
abbrev kM (X:Cx)(scope:Kh)(cl:G0 (Hs×Hb))(C:Hb)(N:G0 Hs)(s0:G5)(H0:Hp)(ex:G0 Hb):Cx:=
 { X with env:=compEnvC scope (cellsFrom (C+1) scope.names cl) C X.env,N:=N,s₀:=s0,H₀:=H0,outer:=X.stack,stack:=X.stack,ex:=ex,fn:=λx=>scope.names.any λy=>y.1==x&&y.2==.cell,pn:=[],xe:=λ_ _=>IJ }
structure CompOk (X:Cx)(scope:Kh)(cl:G0 (Hs×Hb))(N:G0 Hs)(cap:G0 (G7 G9)):Prop where
 clos:closureFor scope X.env=pure cl
 kind:scope.kind=.function
 names:∀y∈scope.names,y.2=.local->scope.names.lookup y.1=gV .local
 sub:∀x c,cl.lookup x=gV c->X.env.cells.lookup x=gV c
 has:∀m x,((relabel scope X.env).names.lookup x=gV .cell\/(relabel scope X.env).names.lookup x=gV .free)->∃c,(cellsFrom m scope.names cl).lookup x=gV c
 len:cap.length=N.length
 cap:∀(i j:G9) (x:Hs),cap[i]?=gV (gV j)->N[i]?=gV x->X.N[j]?=gV x/\(X.env.kindOf x=gV .cell\/X.env.kindOf x=gV .free)/\((relabel scope X.env).names.lookup x=gV .cell\/(relabel scope X.env).names.lookup x=gV .free)/\(x,Kr)∉scope.names
def CompOk.of {X:Cx}{scope:Kh}{cl:G0 (Hs×Hb)}{N:G0 Hs}{cap:G0 (G7 G9)}(ck:CompOk X scope cl N cap){m:G9}{x:Hs}{c:Hb}(z:(cellsFrom m scope.names cl).lookup x=gV c):X.env.cells.lookup x=gV c\/m<=c:=
 (eF _ _ _ z).elim (λq=>.inl (ck.sub x c q.1)) λq=>.inr q.1
def gy {prog:HP}{w:Ii}{A:HY}{R:N5->G5->Prop}{s:G5}{elt target iter:HB}{ifs:G0 HB}{scope:Kh}{pos:JE}{it acc:G4}{env:Na}(I:G9->G5->Prop)
    (turn:∀n s,I n s->wpAny (model prog w) A (pyNext it) (λr s₁=>match r with
      | none=>R (.ok .next) s₁
      | some v=>wpAny (model prog w) A (letOwnedTupleGo target it v) (λ_ s₁=>wpAny (model prog w) A (assign target env v) (λ_ s₂=>
          wpAny (model prog w) A (forIn ifs true λc r=>if r=true then do let ok <- isTrue c env (eval c env); pure (Jl ok)else pure (Jl r)) (λok s₃=>
            if ok=true then wpAny (model prog w) A (eval elt env) (λx s₄=>
              wpAny (model prog w) A (call (.builtin "list.append") [acc,x]) (λ_ s₅=>∃m,m < n/\I m s₅) (λ_ _=>IJ) s₄) (λ_ _=>IJ) s₃
            else ∃m,m < n/\I m s₃) (λ_ _=>IJ) s₂) (λ_ _=>IJ) s₁) (λ_ _=>IJ) s₁) (λ_ _=>IJ) s)
    (n:G9) (h:I n s) :
    codeAny (model prog w) A (.compLoop (.ListComp elt [#[target,iter,ifs,0]] scope pos) 0 it acc env) R s:=by
  show codeAny_loop rfl I (λn s hI=>?_) n h
  change wpAny _ A ((compTurn (.ListComp elt [#[target,iter,ifs,0]] scope pos) 0 it acc env).onRaise (λx=>do noteFrame x env; theTreesLotGoes x)) _ _ s
  show wpAny_noted ?_;rw[compTurn_list];show G2 (KI (G2 (Jn (turn n s hI) (λr s₁ h₁=>?_) λ_ _ h'=>h'.elim)))
  cases r with
  | none=>exact Hd h₁
  | some v=>
    show G2 (Jn h₁ (λ_ s₁ h₁=>?_) λ_ _ h'=>h'.elim)
    show G2 (Jn h₁ (λ_ s₂ h₂=>G2 (Jn h₂ (λok s₃ h₃=>?_) λ_ _ h'=>h'.elim)) λ_ _ h'=>h'.elim)
    cases ok with
    | false=>exact Hd #[rfl,h₃]
    | true=>
      exact G2 (G2 (Jn h₃ (λx s₄ h₄=>G2 (Jn h₄ (λ_ s₅ h₅=>Hd (Hd #[rfl,h₅])) λ_ _ h'=>h'.elim)) λ_ _ h'=>h'.elim))
section
variable{X:Cx}{J:G0 (Hb×Je)}{Y:L2.St}{H:Hp}{s:G5}
def Inv.adopt {D:Hb}{o:HO}(I:Inv X J Y H s)(hn:H D=td)(h1:D∈X.ex\/X.s₀.heap.objs.size<=D)(hL:D≠X.env.locals)(h2:∀x c,X.env.cells.lookup x=gV c->c≠D)(h3:∀p∈X.pn++J,p.1≠D)
  (new:ObjOk X.prog X.w (bO H D o) s.heap D o):Inv X J Y (bO H D o) s:=by
 have nit:∀b u,H b=gV u->b≠D:=λb u e z=>by rw[z,hn]at e; cases e
 have key:Inv X J Y (bO H D o) { s with heap:=s.heap,gens:=s.gens,drawn:=s.drawn,toks:=s.toks }:=by
  show I.step (g':=s.gens) (d':=s.drawn) (t':=s.toks) (h':=s.heap) (ch:=[D]) (λb hb=>?_) (λb o _ _ hc e _=>e) (λb o _ _ hc e _=>#[o.slots,e]) (λb o hc e n=>?_)
   (λb o hc e=>#[o,e]) (λb xs e=>?_) (λb o xs e=>?_) (λb ps e=>#[#[],?_]) (λm hm=>hm) (λb u e=>?_) I.bare
  ·have e:b=D:=by simpa using hb
   subst e;exact#[h1,hL,h2,h3]
  ·rw[aI (λz=>hc (by simp[z]))]; exact n
  ·rw[aI (nit b _ e)]; exact e
  ·rw[aI (nit b _ e)]; exact e
  ·rw[aI (nit b _ e),e]; simp
  ·by_cases hb:b=D
   ·subst hb; rw[ba]at e; cases e; exact new
   ·rw[aI hb]at e;show(I.hok b u e).stay (λc v hc q=>q) (λc q=>?_) λc xs q=>?_
    ·rw[aI (nit c _ q)]; exact q
    ·rw[aI (nit c _ q)]; exact q
 exact key
def B2 {scope:Kh}{cl:G0 (Hs×Hb)}{N:G0 Hs}{cap:G0 (G7 G9)}{C:Hb}{s0:G5}{ex:G0 Hb}(I:Inv X J Y H s)(ck:CompOk X scope cl N cap)(hs:s.heap.objs.size<=s0.heap.objs.size)(hC:s0.heap.objs.size<=C)(hlt:∀x c,X.env.cells.lookup x=gV c->c < C+1)
  (hk:∀b o,s.heap.get? b=gV o->s0.heap.get? b=gV o) (hex:∀b∈ex,(b < C)/\(∀x c,X.env.cells.lookup x=gV c->c≠b)/\(∀o,X.base.get? b≠gV o)/\b∉pb X.stack) :
  (kM X scope cl C N s0 H ex).Ok where
 mod:=I.ok.mod
 kind:=ck.kind
 glob:=I.ok.glob
 blt:=I.ok.blt
 above:=hC
 inj:=iQ scope.names (C+1) cl (λx c h=>hlt x c (ck.sub x c h)) λx y c h1 h2=>I.ok.inj x y c (ck.sub x c h1) (ck.sub y c h2)
 has:=λx h=>ck.has _ x h
 cab:=λx c h hc=>by
  obtain⟨⟨y,k⟩,hy,e⟩:=Lj.mp h;rw[G8]at e;have e1:y=x:=eq_of_beq e.1;have e2:k=.cell:=eq_of_beq e.2;subst e1 e2;rcases eF _ _ _ hc with q|q
  ·exact absurd hy q.2
  ·exact HK hC (HK (J3 _) q.1)
 hd:=I.ok.hd
 frames:=I.ok.frames
 stk:=.inl rfl
 exf:=λb hb=>#[HL (hex b hb).1,λx c h=>(ck.of h).elim (λq=>(hex b hb).2.1 x c q) λq z=>absurd (HJ (Lc (hex b hb).1) q) (z ▸ Iw _)]
 bs:=λb o e=>#[hk b o (I.bk b o e),(I.bs b o e).2]
 bsz:=HK (HK I.ok.bsz I.sz) hs
 noex:=λb o e hb=>(hex b hb).2.2.1 o e
 exfs:=λb hb=>(hex b hb).2.2.2
 funs:=I.stack.of_keeps λb o e _=>#[o,hk b o e,rfl]
 frf:=I.stkFree
structure BlockOk (X:Cx)(scope:Kh)(cl:G0 (Hs×Hb))(N:G0 Hs)(tg elt:HB)(ifs:G0 HB)(g:FG)(c:FT)(f:FE):Prop where
 tgt:∀C s0 H0 ex,GG (kM X scope cl C N s0 H0 ex) tg g
 tst:∀C s0 H0 ex J s Y H Q,Inv (kM X scope cl C N s0 H0 ex) J Y H s->tT (kM X scope cl C N s0 H0 ex) c Y H Q->
  wpAny (model X.prog X.w) X.A (forIn ifs true λc r=>if r=true then do let ok <- isTrue c (compEnvC scope (cellsFrom (C+1) scope.names cl) C X.env) (eval c (compEnvC scope (cellsFrom (C+1) scope.names cl) C X.env)); pure (Jl ok)else pure (Jl r)) (TP (kM X scope cl C N s0 H0 ex) J Y Q) (λ_ _=>IJ) s
 elt:∀C s0 H0 ex,GE (kM X scope cl C N s0 H0 ex) elt f
def mQ {prog:HP}{w:Ii}{B:HY}{s:G5}{E:G4->G5->Prop}{Q:G4->G5->Prop}{D:Hb}{its:G0 G4}{n:G9}{u:G4}(e:s.heap.get? D=gV { cls:=.type "list",data:=.seq its.toArray n })(hz:its.length < sizeLine)
  (h:∀h' n',h'.get? D=gV { cls:=.type "list",data:=.seq (its++[u]).toArray n' }->(∀b o,b≠D->s.heap.get? b=gV o->h'.get? b=gV o)->Q .none { s with heap:=h' }) :
  wpAny (model prog w) B (call (.builtin "list.append") [.ref D,u]) Q E s:=by
 show Lg F.slot_list_append #[_,e,rfl] F.entry_list_append (F.args_list_append_2 _ _) (NN D its.toArray n u (by rw[Hq]; omega)) #[e,?_]
 have q:=Oa e (λa=>a.push u)
 have e2:its.toArray.push u=(its++[u]).toArray:=by simp
 rw[e2]at q;exact h _ _ q (λb o hb ho=>(Iz s.heap (IY λa=>a.push u) (Ne.symm hb)).trans ho)
def lI {scope:Kh}{cl:G0 (Hs×Hb)}{N:G0 Hs}{cap:G0 (G7 G9)}{tg elt iter:HB}{ifs:G0 HB}{g:FG}{c:FT}{f:FE}{pos:JE}{A:G0 Hb}{Z:Fm}{S S':aa}{mi:MI}{n:G9}{ws:G0 W}{E:G4->G5->Prop}
  {it:Hb} {fp:G0 Hb} {tn:G9->Iv->Prop} {tv:It} {RR:G4->Hb->N5->G5->Prop}
  (I:Inv X J Y H s) (hc:X.calm=true) (er:EnvRel X.K A H Z Y) (so:StoreOk X.w X.K A H S) (ck:CompOk X scope cl N cap) (bk:BlockOk X scope cl N tg elt ifs g c f)
  (T:Turn X.prog X.w X.K tg tv fp it tn) (t0:tn 0 s.heap) (hfp:∀b∈fp,iF X J H b) (mit:MIt X.w X.K mi tv A H) (e:bG mi g c f n 0 (eG cap Z) S=gV (ws,S')) (hz:ws.length<=sizeLine)
  (fin:∀D C s' H' A' vs m,s'.heap.Ns C m->H' D=td->D≠C->C≠X.env.locals->C∉X.fs->H' C=td->X.s₀.heap.objs.size<=C->(∀x c,X.env.cells.lookup x=gV c->c≠C)->(∀p∈X.pn++J,p.1≠C)->
   Inv X J Y (bO H' D (.lst vs)) s'->Ext X.K A H A' H'->StoreOk X.w X.K A' H' S'->RelL X.K A' H' ws vs->RR (.ref D) C (.ok .next) s') :
  wpAny (model X.prog X.w) X.A (newList []) (λacc s₃=>wpAny (model X.prog X.w) X.A (newFunctionEnv scope X.env.globals cl [] X.env.qual td .none (gV X.env)) (λcenv s₄=>
   codeAny (model X.prog X.w) X.A (.compStart (.ListComp elt [#[tg,iter,ifs,0]] scope pos) 0 (.ref it) acc { cenv with scope:=relabel scope X.env }) (RR acc cenv.locals) s₄) E s₃) E s:=by
 show Ip (oq ?_);dsimp only;generalize hH2:s.heap.push { cls:=.type "list",dict:=td,data:=.seq ([]:G0 G4).toArray }=h2;obtain⟨h₁,hh₁⟩ : ∃h₁,h₁=pushCells (h2.push { cls:=.type "dict",data:=.dict #[] }) scope.names:=#[_,rfl];rw[<- hh₁];have hns₁:=vf (names:=scope.names) (h2:=h2);rw[<- hh₁]at hns₁;have hCs:h2.objs.size=s.heap.objs.size+1:=by rw[<- hH2,Lb]
 have k2:∀b o,s.heap.get? b=gV o->h2.get? b=gV o:=λb o z=>hH2 ▸ Ha _ z
 have lt2:∀b o,h2.get? b=gV o->b < h2.objs.size:=λb o z=>Hw z
 have k1:∀b o,h2.get? b=gV o->h₁.get? b=gV o:=λb o z=>hh₁ ▸ MA _ _ b o (Ha _ z)
 have hD2:h2.get? s.heap.objs.size=gV { cls:=.type "list",data:=.seq ([]:G0 G4).toArray }:=hH2 ▸ Hv _ rfl;have hDC:s.heap.objs.size≠h2.objs.size:=by rw[hCs]; omega
 have fresh:∀a,s.heap.objs.size<=a->H a=td:=λa ha=>I.hok.fresh ha
 have cellLt:∀x c,X.env.cells.lookup x=gV c->c < s.heap.objs.size:=λx c z=>let ⟨_,q⟩:=I.cell x c z; q.lt
 have fpLt:∀b∈fp,b < s.heap.objs.size:=λb hb=>let ⟨_,q,_⟩:=T.obj 0 s.heap t0 b hb; Hw q
 have stkLt:∀b∈pb X.stack,b < s.heap.objs.size:=λb hb=>let ⟨_,o,q,_⟩:=I.stack.mem hb; Hw q
 have baseLt:∀b o,X.base.get? b=gV o->b < s.heap.objs.size:=λb o z=>Hw (I.bk b o z)
 have fpStk:∀b∈fp,b∉pb X.stack:=λb hb z=>by
  rcases HF.mp (I.stkSub b z)with q|q
  ·exact(hfp b hb).2.1 q
  ·exact(hfp b hb).2.2.1 q
 have fpBase:∀b∈fp,∀o,X.base.get? b≠gV o:=λb hb o z=>by
  rcases(hfp b hb).2.2.2.1 with q|q
  ·exact I.ok.noex b o z q
  ·exact absurd (HJ (Hw (I.ok.bs b o z).1) q) (Iw _)
 have ltD:∀ {b:Hb},b < s.heap.objs.size->b < h2.objs.size:=λhb=>by rw[hCs]; exact Lc hb
 have ltC:∀ {b:Hb},b < s.heap.objs.size->b≠h2.objs.size:=λhb=>HL (ltD hb)
 have ownNe:∀ {b c:Hb},b<=s.heap.objs.size->h2.objs.size+1<=c->c≠b:=λhb hc=>J0 (LC hb (HJ (by rw[hCs]; omega:s.heap.objs.size < h2.objs.size+1) hc))
 let s3:G5:={ s with heap:=h2 }
 have ok':(kM X scope cl h2.objs.size N s3 H (fp++[s.heap.objs.size])).Ok:=by
  show B2 I ck (show s.heap.objs.size<=h2.objs.size by rw[hCs]; omega) (Hj _) (λx c z=>Lc (ltD (cellLt x c z))) k2 λb hb=>?_
  rcases HI.mp hb with hb|hb
  ·exact#[ltD (fpLt b hb),(hfp b hb).2.2.2.2.1,fpBase b hb,fpStk b hb]
  ·have eb:b=s.heap.objs.size:=by simpa using hb
   subst eb;exact#[(by rw[hCs]; exact Jq _),λx c z=>HL (cellLt x c z),λo z=>Iw _ (baseLt _ o z),λz=>Iw _ (stkLt _ z)]
 obtain⟨m0,hn0,hl0⟩:=I.loc;have I0:Inv (kM X scope cl h2.objs.size N s3 H (fp++[s.heap.objs.size])) [] (cap.map λo=>match o with|some j=>(Y[j]?).join|none=>td) H { s3 with heap:=h₁ }:=by
  show#[ok',rfl,I.bare,Un.kept k1,#[_,hns₁,λi x v e1 e2 e3=>?_],λx cc z=>?_,fresh _ (show s.heap.objs.size<=h2.objs.size by rw[hCs]; exact J3 _),λx cc z=>(ck.of z).elim (I.freeC x cc) λq=>fresh _ (show s.heap.objs.size<=cc by omega),λp hp=>absurd hp (by simp[kM]),(I.hok.kept k2).kept k1,by rw[G1]; exact ck.len]
  ·rw[Hc]at e2;cases q:cap[i]? with
   | none=>rw[q]at e2; cases e2
   | some oj=>
    rw[q]at e2;cases oj with
    | none=>cases e2
    | some j=>
     obtain⟨z1,z2,z3,z4⟩:=ck.cap i j x q e1;have e2':(Y[j]?).join=gV v:=by simpa using e2
     have e2'':Y[j]?=gV (gV v):=by
      cases r:Y[j]? with
      | none=>rw[r]at e2'; cases e2'
      | some y=>rw[r]at e2'; exact congrArg gV e2'
     obtain⟨u,ru,lk⟩:=hl0 j x v z1 e2'' (by
      rcases z2 with z|z
      ·exact .inr (.inl z)
      ·exact .inr (.inr z))
     show#[u,ru,?_];rcases lk with⟨zk,_⟩|⟨_,cc,zc,zi⟩
     ·rcases z2 with z|z <;> (rw[zk]at z; cases z)
     ·obtain⟨c2,hc2⟩:=ck.has (h2.objs.size+1) x z3;have:=(eF _ _ _ hc2).elim (λq=>ck.sub x c2 q.1) λq=>absurd q.2.1 z4
      rw[zc]at this; cases this
      show .inr #[z3,cc,hc2,?_];obtain⟨o,ho,hd⟩:=zi;exact#[o,k1 _ _ (k2 _ _ ho),hd]
  ·rcases eF _ _ _ z with q|q
   ·obtain⟨v,o,ho,hd⟩:=I.cell x cc (ck.sub x cc q.1);exact#[v,o,k1 _ _ (k2 _ _ ho),hd]
   ·exact#[td,hh₁ ▸ q.2.2 _ (Lb ..)]
 have er0:EnvRel X.K A H (eG cap Z) (cap.map λo=>match o with|some j=>(Y[j]?).join|none=>td):=by
  show#[by simp[eG],λi w q=>?_]
  unfold eG at q;rw[Hc]at q ⊢;cases r:cap[i]? with
  | none=>rw[r]at q; cases q
  | some oj=>
   rw[r]at q;cases oj with
   | none=>cases q
   | some j=>
    have q':(Z[j]?).join=gV w:=by simpa using q
    have q'':Z[j]?=gV (gV w):=by
     cases z:Z[j]? with
     | none=>rw[z]at q'; cases q'
     | some y=>rw[z]at q'; exact congrArg gV q'
    obtain⟨v,z1,z2⟩:=er.2 j w q'';exact#[v,by simp[z1],z2]
 have t1:tn 0 h₁:=T.keep 0 s.heap h₁ t0 λb hb o z=>k1 b o (k2 b o z)
 have fpOk':∀ {H':Hp} {pp:G0 (Hb×Je)},(∀b∈fp,H' b=td)->(∀p∈pp,p.1=s.heap.objs.size)->∀b∈fp,iF (kM X scope cl h2.objs.size N s3 H (fp++[s.heap.objs.size])) pp H' b:=λhn hp b hb=>
  #[hn b hb,ltC (fpLt b hb),fpStk b hb,.inl (JA _ hb),λx cc z=>(ck.of z).elim (λq=>(hfp b hb).2.2.2.2.1 x cc q) (ownNe (K1 (fpLt b hb))),λp hpp=>by
   rw[hp p (by simpa [kM]using hpp)]
   exact(HL (fpLt b hb)).symm]
 have DinEx:s.heap.objs.size∈fp++[s.heap.objs.size]:=HH _ (by simp)
 have cellD:∀x c,(cellsFrom (h2.objs.size+1) scope.names cl).lookup x=gV c->c≠s.heap.objs.size:=λx cc z=>(ck.of z).elim (λq=>HL (cellLt x cc q)) (ownNe (Hj _))
 have fpD:∀b∈fp,b≠s.heap.objs.size:=λb hb=>HL (fpLt b hb)
 have theEnd:∀s' Y' H' A' vs its nn,Inv (kM X scope cl h2.objs.size N s3 H (fp++[s.heap.objs.size])) [] Y' H' s'->s'.heap.get? s.heap.objs.size=gV { cls:=.type "list",data:=.seq its nn }->∀(hits:∃l:G0 G4,its=l.toArray/\Vals vs l),H' s.heap.objs.size=td->Ext X.K A H A' H'->StoreOk X.w X.K A' H' S'->RelL X.K A' H' ws vs->
   RR (.ref s.heap.objs.size) h2.objs.size (.ok .next) s':=by
  intro s' Y' H' A' vs its nn I' hD hits hDn ex so' rl;obtain⟨l,rfl,rv⟩:=hits;obtain⟨m,hn,_⟩:=id I'.loc;have un:Un (pb X.stack) (fp++[s.heap.objs.size]) H H' s.heap s'.heap:=(Un.kept k2).trans I'.base;have hch:∀b∈fp++[s.heap.objs.size],(b∈X.ex\/X.s₀.heap.objs.size<=b)/\b≠X.env.locals/\(∀x c,X.env.cells.lookup x=gV c->c≠b)/\∀p∈X.pn++J,p.1≠b:=λb hb=>by
   rcases HI.mp hb with hb|hb
   ·exact#[(hfp b hb).2.2.2.1,(hfp b hb).2.1,(hfp b hb).2.2.2.2.1,(hfp b hb).2.2.2.2.2]
   ·have eb:b=s.heap.objs.size:=by simpa using hb
    subst eb;exact#[.inr I.sz,(HL I.lt).symm,λx cc z=>HL (cellLt x cc z),λp hp=>HL (Hw (I.pin p hp).1)]
  have I2:Inv X J Y H' s':=I.call' (show s'.os=s.os from I'.os) un I'.hok I'.bare hch
  have I3:Inv X J Y (bO H' s.heap.objs.size (.lst vs)) s':=Inv.adopt I2 hDn (hch _ DinEx).1 (hch _ DinEx).2.1 (hch _ DinEx).2.2.1 (hch _ DinEx).2.2.2 #[by rw[<- rl.length]; exact hz,l,nn,rv,hD]
  have hCle:s.heap.objs.size<=h2.objs.size:=by rw[hCs]; exact J3 _
  exact fin _ _ s' H' A' vs m hn hDn hDC (J0 (HJ I.lt hCle)) (I.nofs hCle) I'.free (HK I.sz hCle) (λx cc z=>HL (HJ (cellLt x cc z) hCle))
   (λp hp=>HL (HJ (Hw (I.pin p hp).1) hCle)) I3 ex so' rl
 have loop:∀s4:G5,s4={ s3 with heap:=h₁ }->
   codeAny (model X.prog X.w) X.A (.compLoop (.ListComp elt [#[tg,iter,ifs,0]] scope pos) 0 (.ref it) (.ref s.heap.objs.size) (compEnvC scope (cellsFrom (h2.objs.size+1) scope.names cl) h2.objs.size X.env)) (RR (.ref s.heap.objs.size) h2.objs.size) s4:=by
  rintro s4 rfl;show gy (λk s5=>∃i Y5 H5 A5 Z5 S5 done its nn vs ys,Inv (kM X scope cl h2.objs.size N s3 H (fp++[s.heap.objs.size])) [] Y5 H5 s5/\tn i s5.heap/\(∀b∈fp,H5 b=td)/\s5.heap.get? s.heap.objs.size=gV { cls:=.type "list",data:=.seq (its:G0 G4).toArray nn }/\H5 s.heap.objs.size=td/\Vals vs its/\
   Ext X.K A H A5 H5/\EnvRel X.K A5 H5 Z5 Y5/\StoreOk X.w X.K A5 H5 S5/\RelL X.K A5 H5 done vs/\ws=done++ys/\bG mi g c f k i Z5 S5=gV (ys,S')) ?_ n
   #[0,_,H,A,_,S,[],[],0,[],ws,I0,t1,λb hb=>(hfp b hb).1,k1 _ _ hD2,fresh _ (Hj _),.nil,.refl,er0,so,.nil,rfl,e]
  rintro k s5 ⟨i,Y5,H5,A5,Z5,S5,done,its,nn,vs,ys,I5,t5,f5,d5,n5,v5,e5,er5,so5,rl5,hw5,w5⟩;have pinD:Inv (kM X scope cl h2.objs.size N s3 H (fp++[s.heap.objs.size])) [(s.heap.objs.size,{ cls:=.type "list",data:=.seq its.toArray nn })] Y5 H5 s5:=I5.pins_of λp hp=>by
   have hp':p=(s.heap.objs.size,{ cls:=.type "list",data:=.seq its.toArray nn }):=by simpa using hp
   subst hp';exact#[d5,n5,hDC,λz=>Iw _ (stkLt _ z),λv z=>by cases z]
  have oneD:∀p∈[(s.heap.objs.size,({ cls:=.type "list",data:=.seq its.toArray nn }:Je))],p.1=s.heap.objs.size:=λp hp=>by
   have hp':p=(s.heap.objs.size,{ cls:=.type "list",data:=.seq its.toArray nn }):=by simpa using hp
   rw[hp']
  cases k with
  | zero=>
   dsimp only[bG]at w5;split at w5
   ·rename_i hst;cases w5;rw[IQ]at hw5;subst hw5;show be (T.done (kM X scope cl h2.objs.size N s3 H (fp++[s.heap.objs.size])) rfl rfl rfl hc i _ s5 Y5 H5 _ pinD (fpOk' f5 oneD) t5 (mit.stop A5 H5 _ i e5 so5 hst)) λr s6 #[hr,I6]=>?_
    subst hr;have p6:=I6.pin _ (HH _ (Hk.mpr rfl));exact theEnd s6 Y5 H5 A5 vs _ nn (I6.pins_of λp hp=>absurd hp (by simp)) p6.1 #[its,rfl,v5] n5 e5 so5 rl5
   ·cases w5
  | succ k=>
   dsimp only[bG]at w5;split at w5
   ·rename_i w hw;obtain⟨go,yl⟩:=mit.go A5 H5 S5 i w e5 so5 hw;show be (T.item (kM X scope cl h2.objs.size N s3 H (fp++[s.heap.objs.size])) rfl rfl rfl hc i _ s5 Y5 H5 _ pinD (fpOk' f5 oneD) t5 go) λr s6 #[u,hr,h6]=>?_
    subst hr;show be h6 λ_ s7 #[x,H7,I7,r7,y7,t7,f7]=>?_
    obtain⟨x1,x2,x3⟩:=yl x H7 y7;have I7':=I7.pinned (fpOk' f7 oneD) (T.obj _ _ t7);split at w5
    ·rename_i Z8 S8 h8;show be (bk.tgt _ _ _ _ _ s7 Y5 H7 x u (λY' H'=>∃A',Ext X.K A5 H5 A' H'/\StoreOk X.w X.K A' H' S8/\EnvRel X.K A' H' Z8 Y') I7' r7 #[A5,Z5,S5,w,Z8,S8,er5.mono x1,x2,x3,h8,λY' H' A' q1 q2 q3=>#[A',x1.trans q1,q2,q3]]) λ_ s8 #[Y8,H8,I8,A8,e58,so8,er8]=>?_
     have e8:Ext X.K A H A8 H8:=e5.trans e58;have pD:∀ {Y':L2.St} {H':Hp} {s':G5},Inv (kM X scope cl h2.objs.size N s3 H (fp++[s.heap.objs.size])) ([(s.heap.objs.size,{ cls:=.type "list",data:=.seq its.toArray nn })]++iG fp s7.heap) Y' H' s'->s'.heap.get? s.heap.objs.size=gV { cls:=.type "list",data:=.seq its.toArray nn }/\H' s.heap.objs.size=td:=λI'=>
      let q:=I'.pin _ (HH _ (JA _ (Hk.mpr rfl)))
      #[q.1,q.2.1]
     have pF:∀ {Y':L2.St} {H':Hp} {s':G5},Inv (kM X scope cl h2.objs.size N s3 H (fp++[s.heap.objs.size])) ([(s.heap.objs.size,{ cls:=.type "list",data:=.seq its.toArray nn })]++iG fp s7.heap) Y' H' s'->(∀b∈fp,H' b=td)/\∀b∈fp,∀o,s7.heap.get? b=gV o->s'.heap.get? b=gV o:=λI'=>
      #[λb hb=>by
       obtain⟨o,eo,_⟩:=T.obj _ _ t7 b hb;exact(I'.pin (b,o) (HH _ (HH _ (eS hb eo)))).2.1,
       λb hb o eo=>(I'.pin (b,o) (HH _ (HH _ (eS hb eo)))).1]
     split at w5
     ·rename_i S9 h9;show be (bk.tst _ _ _ _ _ s8 Y8 H8 (λb H'=>b=true/\∃A',Ext X.K A8 H8 A' H'/\StoreOk X.w X.K A' H' S9) I8 #[A8,Z8,S8,true,S9,er8,so8,h9,λb H' #[z0,A',z1,z2]=>#[z0,A',z1,z2]]) λb s9 #[H9,I9,z0,A9,e9,so9]=>?_
      subst z0;rw[HE rfl];split at w5
      ·rename_i y S10 h10;split at w5
       ·rename_i ys' S4 h11;cases w5;show be (bk.elt _ _ _ _ _ s9 Y8 H9 (EndV X.w X.K A9 H9 S10 y) I9 #[A9,Z8,S9,y,S10,er8.mono e9,so9,h10,λ_ _ z=>z]) λu10 s10 #[v10,H10,I10,r10,A10,e10,so10,rl10]=>?_
        obtain⟨d10,n10⟩:=pD I10;obtain⟨f10,k10⟩:=pF I10;have hlen:its.length < sizeLine:=by
         have l1:=v5.length;have l2:=rl5.length;rw[hw5,G3,Ih]at hz;omega
        show mQ d10 hlen λh' n' hd' hk'=>?_
        have Ib:Inv (kM X scope cl h2.objs.size N s3 H (fp++[s.heap.objs.size])) [] Y8 H10 { s10 with heap:=h' }:=by
         have Ia:Inv (kM X scope cl h2.objs.size N s3 H (fp++[s.heap.objs.size])) [] Y8 H10 s10:=I10.pins_of λp hp=>absurd hp (by simp)
         exact Ia.turned (t':=s10.toks) (it:=s.heap.objs.size) hk' n10 hDC (.inl DinEx) cellD (λp hp=>absurd hp (by simp[kM]))
        show#[k,Jq k,i+1,Y8,H10,A10,Z8,S10,done++[y],its++[u10],n',vs++[v10],ys',Ib,?_,f10,hd',n10,v5.append #v[r10],(e8.trans e9).trans e10,(er8.mono e9).mono e10,so10,?_,?_,h11]
        ·exact T.keep (i+1) s7.heap h' t7 λb hb o eo=>hk' b o (fpD b hb) (k10 b hb o eo)
        ·exact(rl5.mono ((e58.trans e9).trans e10)).append #v[rl10]
        ·rw[hw5,K6]; rfl
       ·cases w5
      ·cases w5
     ·rename_i S9 h9;show be (bk.tst _ _ _ _ _ s8 Y8 H8 (λb H'=>b=false/\∃A',Ext X.K A8 H8 A' H'/\StoreOk X.w X.K A' H' S9) I8 #[A8,Z8,S8,false,S9,er8,so8,h9,λb H' #[z0,A',z1,z2]=>#[z0,A',z1,z2]]) λb s9 #[H9,I9,z0,A9,e9,so9]=>?_
      subst z0;rw[HX Ht];obtain⟨d9,n9⟩:=pD I9;obtain⟨f9,k9⟩:=pF I9;show#[k,Jq k,i+1,Y8,H9,A9,Z8,S9,done,its,nn,vs,ys,I9.pins_of λp hp=>absurd hp (by simp),T.keep (i+1) s7.heap _ t7 k9,f9,d9,n9,v5,e8.trans e9,er8.mono e9,so9,rl5.mono (e58.trans e9),hw5,w5]
     ·cases w5
    ·cases w5
   ·cases w5
 exact codeAny_compStart_list (loop _ rfl) (T.self X.A 0 _ _ _ t1 (loop _ rfl))
def ou {fi:FI}{g:FG}{c:FT}{f:FE}{cap:G0 (G7 G9)}{Z:Fm}{S:aa}{w:W}{S':aa}(e:jY fi g c f cap Z S=gV (w,S')) :
  ∃mi S1 n ys S2,fi Z S=gV (mi,S1)/\mi.len S1=gV n/\bG mi g c f n 0 (eG cap Z) S1=gV (ys,S2)/\ys.length<=sizeLine/\w=.ref S2.length/\S'=S2++[.lst ys]:=by
 unfold jY at e;split at e
 ·rename_i mi S1 h1;split at e
  ·rename_i n h2;split at e
   ·rename_i ys S2 h3;obtain⟨h4,h5,h6⟩:=jx e;exact#[mi,S1,n,ys,S2,h1,h2,h3,h4,h5,h6]
   ·cases e
  ·cases e
 ·cases e
def y9 {scope:Kh}{N:G0 Hs}{cap:G0 (G7 G9)}{tg elt iter:HB}{ifs:G0 HB}{fi:FI}{g:FG}{c:FT}{f:FE}{pos:JE}(hc:X.calm=true)(hi:GI X tg iter fi)(hck:X.Ok->∃cl,CompOk X scope cl N cap/\BlockOk X scope cl N tg elt ifs g c f)
  (hs:∀x,foldedSetIterable iter X.env x=pure x):GE X (.ListComp elt [#[tg,iter,ifs,0]] scope pos) (jY fi g c f cap):=by
 intro J s Y H Q I ⟨A,Z,S,w,S',er,so,e,hq⟩;obtain⟨mi,S1,n,ys,S2,h1,h2,h3,h4,rfl,rfl⟩:=ou e;obtain⟨cl,ck,bk⟩:=hck I.ok;rw[eval_ListComp];show L1 (use:=td) rfl hs ck.clos ck.kind ck.names (be (hi J s Y H (λtv H'=>∃A',Ext X.K A H A' H'/\StoreOk X.w X.K A' H' S1/\MIt X.w X.K mi tv A' H') I #[A,Z,S,mi,S1,er,so,h1,λtv H' A' z1 z2 z3=>#[A',z1,z2,z3]]) λv s1 q1=>be q1 λitv s2 q2=>?_)
 obtain⟨it,fp,tn,tv,H2,rfl,I2,T,t0,hfp,A2,e2,so2,mit⟩:=q2;show lI (RR:=λacc C=>compPost (model X.prog X.w) X.A X.xe td (EP X J Y Q) acc C) I2 hc (er.mono e2) so2 ck bk T t0 hfp mit h3 h4 ?_
 intro D C s' H' A' vs m hn hDn hDC hCL hCf hCn hCs hCc hCp I3 ex so3 rl;show#[m,hn,λh' hs'=>?_]
 have I4:Inv X J Y (bO H' D (.lst vs)) { s' with heap:=h' }:=I3.turned (t':=s'.toks) (it:=C) (λb o hb eo=>hs'.extBut b o hb eo) (by rw[aI (Ne.symm hDC)]; exact hCn) hCL (.inr hCs) hCc hCp
 exact#[.ref D,_,I4,rfl,hq _ _ (EndV.after (e2.trans ex) (.lst so3 rl hDn))]
def pN {scope:Kh}{N:G0 Hs}{cap:G0 (G7 G9)}{tg elt iter:HB}{ifs:G0 HB}{fi:FI}{g:FG}{c:FT}{f:FE}{pos py spos:JE}{y:Hs}{i:G9}(hc:X.calm=true)(hi:GI X tg iter fi)(hck:X.Ok->∃cl,CompOk X scope cl N cap/\BlockOk X scope cl N tg elt ifs g c f)
  (hs:∀x,foldedSetIterable iter X.env x=pure x) (hsw:swapsWith (.ListComp elt [#[tg,iter,ifs,0]] scope pos) (gV (.Name y py)) spos.line X.env=pure true) (hN:X.N.Nodup) (hy:X.N[i]?=gV y) (hl:X.env.scope.names.lookup y=gV .local) :
  GS X (.Assign [.Name y py] (.ListComp elt [#[tg,iter,ifs,0]] scope pos) spos) (jW (jY fi g c f cap) (Ai i)):=by
 intro J s Y H Dd I ⟨A,Z,S,o,S',er,so,e,hd⟩;unfold jW at e;split at e
 ·rename_i w S0 h0;simp only[Ai]at e;cases e;obtain⟨mi,S1,n,ys,S2,h1,h2,h3,h4,rfl,rfl⟩:=ou h0;obtain⟨cl,ck,bk⟩:=hck I.ok;rw[exec_Assign_Name_used _ _ _ _ hsw];show G2 (KI (G2 ?_));change wpAny _ X.A (do let _ <- comprehension (.ListComp elt [⟨tg,iter,ifs,0⟩] scope pos) scope X.env _ (newList []) false (eval iter X.env) (gV (assign (.Name y py) X.env))) _ _ s
  show G2 (Jn (L1 (use:=gV (assign (.Name y py) X.env)) (Q:=λ_ s'=>SP X J Dd .next s') rfl hs ck.clos ck.kind ck.names
   (be (hi J s Y H (λtv H'=>∃A',Ext X.K A H A' H'/\StoreOk X.w X.K A' H' S1/\MIt X.w X.K mi tv A' H') I #[A,Z,S,mi,S1,er,so,h1,λtv H' A' z1 z2 z3=>#[A',z1,z2,z3]]) λv s1 q1=>be q1 λitv s2 q2=>?_)) (λ_ s' hq=>Hd (Hd hq)) λ_ _ e=>e)
  obtain⟨it,fp,tn,tv,H2,rfl,I2,T,t0,hfp,A2,e2,so2,mit⟩:=q2;show lI (RR:=λacc C=>compPost (model X.prog X.w) X.A X.xe (gV (assign (.Name y py) X.env)) (λ_ s'=>SP X J Dd .next s') acc C) I2 hc (er.mono e2) so2 ck bk T t0 hfp mit h3 h4 ?_
  intro D C s' H' A' vs m hn hDn hDC hCL hCf hCn hCs hCc hCp I3 ex so3 rl;obtain⟨oC,esC,epC,hoC,hdC,hrC⟩:=id hn;have I3':Inv X (J++[(C,oC)]) Y (bO H' D (.lst vs)) s':=I3.pins_of λp hp=>by
   rcases HI.mp hp with hp|hp
   ·exact I3.pin p (HH _ hp)
   ·have hp':p=(C,oC):=by simpa using hp
    subst hp';exact#[hoC,by rw[aI (Ne.symm hDC)]; exact hCn,hCL,hCf,λv z=>by rw[hdC]at z; cases z]
  change wpAny _ X.A (assign (.Name y py) X.env (.ref D)) _ _ _;show NE (dR I3' hN hy (.inl hl) (v:=.ref D) rfl (λs4 I4=>?_) (.inr hl))
  have pC:=I4.pin (C,oC) (HH _ (HH _ (Hk.mpr rfl)));show#[m,#[oC,esC,epC,pC.1,hdC,hrC],λh' hs'=>?_]
  have I5:Inv X J (Y.set i (gV (.ref D))) (bO H' D (.lst vs)) s4:=I4.pins_of λp hp=>I4.pin p (HH _ (JA _ hp))
  have I6:Inv X J (Y.set i (gV (.ref D))) (bO H' D (.lst vs)) { s4 with heap:=h' }:=I5.turned (t':=s4.toks) (it:=C) (λb o hb eo=>hs'.extBut b o hb eo) (by rw[aI (Ne.symm hDC)]; exact hCn) hCL (.inr hCs) hCc hCp
  obtain⟨Af,f1,f2,f3⟩:=EndV.after (e2.trans ex) (EndV.lst so3 rl hDn);exact#[_,_,I6,hd.nx _ _ #[_,Af,rfl,f1,f2,(er.mono f1).set f3 i]]
 ·cases e
end
open PySem.Builtin.SmallTypes (nextOf)
section
variable{prog:HP}{w:Ii}
structure Zit (prog:HP)(w:Ii)(it:Hb)(T:G9->Iv->Prop)(C:Iv->Prop)(i:G9)(Uq:G7 (G4->Prop)):Prop where
 keep:∀j h h',T j h->(∀o,h.get? it=gV o->h'.get? it=gV o)->T j h'
 next:∀V,Uq=gV V->∀(B:HY) (s:G5) (Q:G4->G5->Prop) (E:G4->G5->Prop),T i s.heap->C s.heap->(∀u h' tk,V u->T (i+1) h'->JZ it s.heap h'->Q u { s with heap:=h',toks:=tk })->wpAny (model prog w) B (nextOf (.ref it)) Q E s
 stop:Uq=td->∀(B:HY) (s:G5) (Q:G4->G5->Prop) (E:G4->G5->Prop),B.handled=td->T i s.heap->C s.heap->(∀h' e,MM it s.heap h'->(∃o,h'.get? e=gV o/\o.cls=.type "StopIteration")->E (.ref e) { s with heap:=h' })->wpAny (model prog w) B (nextOf (.ref it)) Q E s
variable{B:HY}{E:G4->G5->Prop}{s:G5}{z p q i1 i2:Hb}{T1 T2:G9->Iv->Prop}{C1 C2:Iv->Prop}{i:G9}{a b:G4}
abbrev Zc (z q i1 i2:Hb)(C:Iv->Prop):Prop:=∀h h',C h->(∀c o,c≠z->c≠q->c≠i1->c≠i2->h.get? c=gV o->h'.get? c=gV o)->C h'
end
end Mi
namespace Mi
open PySem PySem.Spec PyProof.Rows L2
open PySem.Builtin.SmallTypes (nextOf)
abbrev pO (prog:HP)(w:Ii)(v:G4)(o:Je)(C:Iv->Prop):Prop:=∀(B:HY) (s:G5) (Q:G4->G5->Prop) (E:G4->G5->Prop),C s.heap->Q (.ref s.heap.objs.size) { s with heap:=s.heap.push o }->wpAny (model prog w) B (pyIter v) Q E s
end Mi
namespace Mi
open PySem PySem.Spec PyProof.Rows L2
open PySem.Builtin.SmallTypes (nextOf)
section
variable{prog:HP}{w:Ii}{A:HY}{E:G4->G5->Prop}{s:G5}
def DL {it t:Hb}{i:G9}{items:Io G4}{x:G4}{Q:G4->G5->Prop}(hit:s.heap.IsTupleIter it t i)(ht:s.heap.IsTuple t items)(hx:items[i]?=gV x)
  (hQ:∀h',h'.IsTupleIter it t (i+1)->JZ it s.heap h'->Q x { s with heap:=h' }):wpAny (model prog w) A (nextOf (.ref it)) Q E s:=by
 obtain⟨o,ho,hc,hd⟩:=id hit;obtain⟨ot,hot,_,nt,hdt⟩:=ht;unfold LK;show G2 (IF (name:=IW "__next__") hit.typeIs F.slot_tuple_iterator_next (IR F.slot_tuple_iterator_next hit.typeIs F.entry_tuple_iterator_next ?_ (F.args_tuple_iterator_next_1 _)));change wpAny _ _ (field (.ref it) 0 >>= _) _ _ s;show G2 (JC ho hd (x:=.ref t) rfl ?_);change wpAny _ _ (if (Im t==Ix)=true then _ else _) _ _ s
 rw[HX (show ¬ ((Im t==Ix)=true)from Ht)]
 change wpAny _ _ (field (.ref it) 1 >>= _) _ _ s;show G2 (JC ho hd (x:=.int i 0) rfl (G2 (Kz hot hdt ?_)));simp only[Hr,hx];show G2 (Lz ho hd (by simp) (Hd #[x,rfl,Hd (hQ _ #[_,JT _ ho (MG (KS hd _)),(NU ..).trans hc,?_] (KG ..))]))
 rw[KS hd]; simp[rawInt]
def DM {it t:Hb}{i:G9}{items:Io G4}{Q:G4->G5->Prop}(hh:A.handled=td)(hit:s.heap.IsTupleIter it t i)(ht:s.heap.IsTuple t items)(hx:items[i]?=td)
  (hE:∀h' e,MM it s.heap h'->(∃o,h'.get? e=gV o/\o.cls=.type "StopIteration")->E (.ref e) { s with heap:=h' }):wpAny (model prog w) A (nextOf (.ref it)) Q E s:=by
 obtain⟨o,ho,hc,hd⟩:=id hit;obtain⟨ot,hot,_,nt,hdt⟩:=ht;unfold LK;show G2 (IF (name:=IW "__next__") hit.typeIs F.slot_tuple_iterator_next (IR F.slot_tuple_iterator_next hit.typeIs F.entry_tuple_iterator_next ?_ (F.args_tuple_iterator_next_1 _)));change wpAny _ _ (field (.ref it) 0 >>= _) _ _ s;show G2 (JC ho hd (x:=.ref t) rfl ?_);change wpAny _ _ (if (Im t==Ix)=true then _ else _) _ _ s
 rw[HX (show ¬ ((Im t==Ix)=true)from Ht)]
 change wpAny _ _ (field (.ref it) 1 >>= _) _ _ s;show G2 (JC ho hd (x:=.int i 0) rfl (G2 (Kz hot hdt ?_)));simp only[Hr,hx];show G2 (Mh (G2 (Lz ho hd (by simp) ?_)))
 change wpAny _ _ (newExc (.type "StopIteration") [] >>= _) _ _ _;show G2 ?_;simp only[newExc,newTuple];show G2 (Ip ?_ (by size_fits))
 show G2 (m:=firstArgMember _ _) (MN (a:=Ix) (by first|rfl|(simp only[firstArgMember]; rfl)) (Ip ?_ (by size_fits)))
 simp only[raiseNew];show G2 (O9 ?_)
 first|rw[show A.in1.handled=td from hh]|rw[hh]
 exact G2 (Hd (PC (hE _ _ (((KG ..).extBut.push _).push _) #[_,Hv _ rfl,rfl])))
end
inductive Zs where|tup (a:Hb)|lst (a:Hb)|txt (x:Hs)
abbrev Zs.T (it:Hb):Zs->G9->Iv->Prop
 | .tup a,i,h=>h.IsTupleIter it a i
 | .lst a,i,h=>h.IsListIter it a i
 | .txt x,i,h=>∃t,h.IsStrIter it "str_ascii_iterator" x t i\/h.IsStrIter it "str_iterator" x t i
abbrev Zs.at (K:Hl)(H:Hp)(i:G9)(v:V):Zs->Prop
 | .tup a=>∃xs,SqT K H a xs/\xs[i]?=gV v
 | .lst a=>∃xs,SqL K H a xs/\xs[i]?=gV v
 | .txt x=>∃c,x.cps[i]?=gV c/\v=.str #[[c].toArray]
abbrev Zs.out (K:Hl)(H:Hp)(i:G9):Zs->Prop
 | .tup a=>∃xs,SqT K H a xs/\xs.length<=i
 | .lst a=>∃xs,SqL K H a xs/\xs.length<=i
 | .txt x=>x.cps.size<=i
def Zs.keep {S:Zs}{it:Hb}{j:G9}{h h':Iv}(t:S.T it j h)(k:∀o,h.get? it=gV o->h'.get? it=gV o):S.T it j h':=by
 cases S with
 | tup a=>exact t.at k
 | lst a=>exact t.at k
 | txt x=>
  obtain⟨tk,t⟩:=t;exact#[tk,t.imp (λ#[o,e,r]=>#[o,k _ e,r]) λ#[o,e,r]=>#[o,k _ e,r]]
section
variable{X:Cx}{J:G0 (Hb×Je)}{Y:L2.St}{H:Hp}{s:G5}
def vg (I:Inv X J Y H s){a b:Hb}{o:Je}(h:X.K.lookup a=gV o)(f:iF X J H b):a≠b:=λz=>by
 subst z;have hb:=I.ok.mod.kin a o h;rcases f.2.2.2.1 with q|q
 ·exact I.ok.noex a o hb q
 ·exact absurd (HJ (Hw (I.ok.bs a o hb).1) q) (Iw _)
end
end Mi
namespace Mi
open PySem PySem.Spec PyProof.Rows L2
open PySem.Builtin.SmallTypes (nextOf)
section
variable{X:Cx}{J:G0 (Hb×Je)}{Y:L2.St}{H:Hp}{s:G5}{h':Iv}
def vh {a b:Hb}{u:HO}(h:Rd H a u)(f:H b=td):a≠b:=λz=>by
 subst z;rcases h with h|⟨o,h⟩ <;> (rw[f]at h; cases h)
def Inv.turnedL {t':G9}{ch:G0 Hb}(I:Inv X J Y H s)(k:∀b o,b∉ch->s.heap.get? b=gV o->h'.get? b=gV o)(hf:∀b∈ch,iF X J H b):Inv X J Y H { s with heap:=h',toks:=t' }:=by
 have nit:∀b u,H b=gV u->b∉ch:=λb u e z=>by have:=(hf b z).1; rw[e]at this; cases this
 show I.step (g':=s.gens) (d':=s.drawn) (ch:=ch) (λb hb=>?_) (λb o _ _ hc e _=>k b o hc e) (λb o _ _ hc e _=>#[o.slots,k b o hc e]) (λ_ _ _ _ n=>n) (λb o hc e=>#[o,k b o hc e]) (λ_ _ e=>e) (λ_ _ _ e=>e) (λb ps e=>#[#[],by rw[e]; simp]) (λm hm=>?_) (λb u e=>?_) I.bare
 ·obtain⟨_,f1,_,f3,f4,f5⟩:=hf b hb;exact#[f3,f1,f4,f5]
 ·obtain⟨o,es,ep,ho,r⟩:=hm;exact#[o,es,ep,k _ o (λz=>(hf _ z).2.1 rfl) ho,r]
 ·show(I.hok b u e).stay (λc v hc q=>k c v ?_ q) (λ_ q=>q) λ_ _ q=>q
  rcases hc with z|z
  ·rw[z]; exact nit b u e
  ·exact nit c _ z
def Zs.zit {S:Zs}{it z q i1 i2:Hb}{i:G9}{Uq:G7 V}(I:Inv X J Y H s)(hf:∀b∈[z,q,i1,i2],iF X J H b)(g:match Uq with|some v=>S.at X.K H i v|none=>S.out X.K H i) :
  ∃C,Zit X.prog X.w it (S.T it) C i (Uq.map λv u=>RelV v u)/\C s.heap/\Zc z q i1 i2 C:=by
 have zc:∀(a:Hb) (P:Iv->Prop),(∀h h',P h->(∀o,h.get? a=gV o->h'.get? a=gV o)->P h')->(∀b∈[z,q,i1,i2],a≠b)->Zc z q i1 i2 P:=λa P hP hn h h' p k=>
  hP h h' p λo e=>k a o (hn z (by simp)) (hn q (by simp)) (hn i1 (by simp)) (hn i2 (by simp)) e
 have sep:∀ {a:Hb} {u:HO} {o:Je} {b:Hb},(Rd H a u\/X.K.lookup a=gV o)->b∈[z,q,i1,i2]->a≠b:=λh hb=>h.elim (λr=>vh r (hf _ hb).1) λr=>vg I r (hf _ hb)
 cases S with
 | tup a=>
  obtain⟨xs,hq,hx⟩ : ∃xs,SqT X.K H a xs/\(match Uq with|some v=>xs[i]?=gV v|none=>xs.length<=i):=by
   cases Uq <;> exact g
  obtain⟨its,rv,p,_⟩:=I.tuple hq;have hne:∀b∈[z,q,i1,i2],a≠b:=λb hb=>by
   rcases hq with r|⟨o,_,_,r,_⟩
   ·exact vh r (hf b hb).1
   ·exact vg I r (hf b hb)
  show#[λh=>h.IsTuple a its.toArray,#[λj h h' t k=>Zs.keep (S:=.tup a) t k,λV hV B s2 Q E t c hQ=>?_,λhU B s2 Q E hh t c hE=>?_],p,zc a _ (λh h' #[o,e,r] k=>#[o,k _ e,r]) hne]
  ·cases Uq with
   | none=>cases hV
   | some v=>
    cases hV;obtain⟨u,hu,ru⟩:=rv.get hx;exact DL t c (x:=u) (by simpa using hu) λh' t' sb=>hQ u h' s2.toks ru t' sb
  ·cases Uq with
   | some v=>cases hU
   | none=>
    have:=L2.Vals.length rv;have hx':xs.length<=i:=hx;exact DM hh t c (by simp; omega) hE
 | lst a=>
  obtain⟨xs,hq,hx⟩ : ∃xs,SqL X.K H a xs/\(match Uq with|some v=>xs[i]?=gV v|none=>xs.length<=i):=by
   cases Uq <;> exact g
  obtain⟨its,rv,p,_⟩:=I.list hq;have hne:∀b∈[z,q,i1,i2],a≠b:=λb hb=>by
   rcases hq with r|⟨o,_,_,r,_⟩
   ·exact vh r (hf b hb).1
   ·exact vg I r (hf b hb)
  show#[λh=>h.IsList a its.toArray,#[λj h h' t k=>Zs.keep (S:=.lst a) t k,λV hV B s2 Q E t c hQ=>?_,λhU B s2 Q E hh t c hE=>?_],p.isList,zc a _ (λh h' #[o,e,r] k=>#[o,k _ e,r]) hne]
  ·cases Uq with
   | none=>cases hV
   | some v=>
    cases hV;obtain⟨u,hu,ru⟩:=rv.get hx;exact wpAny_nextOf_list_item t c (x:=u) (by simpa using hu) λh' t' sb=>hQ u h' s2.toks ru t' sb
  ·cases Uq with
   | some v=>cases hU
   | none=>
    have:=L2.Vals.length rv;have hx':xs.length<=i:=hx;exact wpAny_nextOf_list_end hh t c (by simp; omega) hE
 | txt x=>
  show#[λ_=>OC,#[λj h h' t k=>Zs.keep (S:=.txt x) t k,λV hV B s2 Q E t _ hQ=>?_,λhU B s2 Q E hh t _ hE=>?_],trivial,λ_ _ _ _=>trivial]
  ·cases Uq with
   | none=>cases hV
   | some v=>
    cases hV;obtain⟨c,hc,rfl⟩ : ∃c,x.cps[i]?=gV c/\v=.str #[[c].toArray]:=g;obtain⟨tk,t|t⟩:=t
    ·exact wpAny_nextOf_ascii_item t hc λh' t' sb=>hQ _ h' _ #[_,rfl] #[tk,.inl t'] sb
    ·exact wpAny_nextOf_wide_item t hc λh' t' sb=>hQ _ h' _ #[_,rfl] #[tk,.inr t'] sb
  ·cases Uq with
   | some v=>cases hU
   | none=>
    have hx:x.cps[i]?=td:=by simpa using(show x.cps.size<=i from g)
    obtain⟨tk,t|t⟩:=t
    ·exact wpAny_nextOf_ascii_end hh t hx hE
    ·exact wpAny_nextOf_wide_end hh t hx hE
end
abbrev Zs.is (K:Hl)(H:Hp)(i:G9)(v:V):Zs->Prop
 | .tup a=>∀xs,SqT K H a xs->xs[i]?=gV v
 | .lst a=>∀xs,SqL K H a xs->xs[i]?=gV v
 | .txt x=>∃c,x.cps[i]?=gV c/\v=.str #[[c].toArray]
def Zs.at_is {S:Zs}{X:Cx}{J:G0 (Hb×Je)}{Y:L2.St}{H:Hp}{s:G5}{i:G9}{v:V}(I:Inv X J Y H s)(h:S.at X.K H i v):S.is X.K H i v:=by
 cases S with
 | tup a=>obtain⟨xs,hq,hx⟩:=h; exact λys hy=>by rw[I.tuple_inj hy hq]; exact hx
 | lst a=>obtain⟨xs,hq,hx⟩:=h; exact λys hy=>by rw[I.list_inj hy hq]; exact hx
 | txt x=>exact h
end Mi
namespace Mi
open PySem PySem.Spec PyProof.Rows L2
abbrev E3:W->G7 (G0 W)
 | .tup xs=>gV xs
 | .str x=>gV (x.cps.toList.map λc=>.str #[[c].toArray])
 | _=>td
section
variable{X:Cx}{J:G0 (Hb×Je)}{Y:L2.St}{H:Hp}{s:G5}{A:G0 Hb}
abbrev ZRel (K:Hl)(A:G0 Hb)(H:Hp)(xs:G0 W):Zs->Prop
 | .tup a=>∃vs,SqT K H a vs/\RelL K A H xs vs
 | .lst a=>IJ
 | .txt x=>xs=x.cps.toList.map λc=>.str #[[c].toArray]
def ZRel.mono {K:Hl}{A A':G0 Hb}{H H':Hp}{xs:G0 W}{S:Zs}(e:Ext K A H A' H')(h:ZRel K A H xs S):ZRel K A' H' xs S:=by
 cases S with
 | tup a=>obtain⟨vs,h1,h2⟩:=h; exact#[vs,e.tp _ _ h1,h2.mono e]
 | lst a=>exact h
 | txt x=>exact h
def ZRel.at {K:Hl}{xs:G0 W}{S:Zs}{i:G9}{w:W}(h:ZRel K A H xs S)(hi:xs[i]?=gV w):∃v,S.at K H i v/\Rel K A H w v:=by
 cases S with
 | tup a=>obtain⟨vs,h1,h2⟩:=h; obtain⟨v,h3,h4⟩:=h2.get hi; exact#[v,#[vs,h1,h3],h4]
 | lst a=>exact h.elim
 | txt x=>
  have h:xs=x.cps.toList.map λc=>.str #[[c].toArray]:=h
  subst h;rw[Hc,G6]at hi;obtain⟨c,hc,rfl⟩:=hi;exact#[.str #[[c].toArray],#[c,by rw[<- Jf]; exact hc,rfl],.str]
def ZRel.is {K:Hl}{xs:G0 W}{S:Zs}{i:G9}{w:W}{v:V}(h:ZRel K A H xs S)(hi:xs[i]?=gV w)(z:S.is K H i v):Rel K A H w v:=by
 obtain⟨v',h1,h2⟩:=h.at hi;cases S with
 | tup a=>
  obtain⟨vs,q,e⟩:=h1;have:=z vs q;rw[e]at this; cases this
  exact h2
 | lst a=>exact h.elim
 | txt x=>
  obtain⟨c,e,rfl⟩:=h1;obtain⟨c',e',rfl⟩:=z;rw[e]at e'; cases e'
  exact h2
def ZRel.out {K:Hl}{xs:G0 W}{S:Zs}{i:G9}(h:ZRel K A H xs S)(hi:xs.length<=i):S.out K H i:=by
 cases S with
 | tup a=>obtain⟨vs,h1,h2⟩:=h; exact#[vs,h1,by rw[<- h2.length]; exact hi]
 | lst a=>exact h.elim
 | txt x=>
  have h:xs=x.cps.toList.map λc=>.str #[[c].toArray]:=h
  subst h;change x.cps.size<=i
  simpa using hi
def zb {x:W}{v:V}{u:G4}{xs:G0 W}(I:Inv X J Y H s)(r:Rel X.K A H x v)(ru:RelV v u)(e:E3 x=gV xs) :
  ∃(S:Zs) (o:Je) (C:Iv->Prop),ZRel X.K A H xs S/\pO X.prog X.w u o C/\C s.heap/\(∀h o,C h->C (h.push o))/\o.isFreed=false/\∀it h,h.get? it=gV o->S.T it 0 h:=by
 cases r with
 | @tup ws a vs hq rl=>
  cases e;obtain⟨its,rv,p,_⟩:=I.tuple hq;obtain rfl:u=Im a:=ru;exact#[.tup a,{ cls:=.type "tuple_iterator",data:=.fields [.ref a,.int 0 0].toArray },λh=>h.IsTuple a its.toArray,#[vs,hq,rl],λB s Q E c hQ=>Nx c hQ,p,λh o #[ot,e,r]=>#[ot,Ha _ e,r],rfl,λit h e=>#[_,e,rfl,rfl]]
 | @str x=>
  cases e;obtain⟨t,rfl⟩:=ru;cases ha:x.cps.all (· < 128)with
  | false=>exact#[.txt x,{ cls:=.type "str_iterator",data:=.fields [.str x t,.int 0 0].toArray },λ_=>OC,rfl,λB s Q E _ hQ=>wpAny_pyIter_wide ha hQ,trivial,λ_ _ _=>trivial,rfl,λit h e=>#[t,.inr #[_,e,rfl,rfl]]]
  | true=>exact#[.txt x,{ cls:=.type "str_ascii_iterator",data:=.fields [.str x t,.int 0 0].toArray },λ_=>OC,rfl,λB s Q E _ hQ=>wpAny_pyIter_ascii ha hQ,trivial,λ_ _ _=>trivial,rfl,λit h e=>#[t,.inl #[_,e,rfl,rfl]]]
 | _=>cases e
end
open PySem.Builtin.SmallTypes (nextOf)
section
variable{prog:HP}{w:Ii}{B:HY}{E:G4->G5->Prop}{s:G5}{e it:Hb}{T:G9->Iv->Prop}{C:Iv->Prop}{i:G9}{old:G4}
structure EnAt (h0 h:Iv)(e it:Hb)(fs:Io G4)(T:Iv->Prop):Prop where
 here:h.get? e=gV { cls:=.type "enumerate",dict:=td,data:=.fields fs,slots:=#[] }
 turn:T h
 kept:∀b o,b≠e->b≠it->h0.get? b=gV o->h.get? b=gV o
def EnAt.put {h0:Iv}{fs:Io G4}{T:Iv->Prop}{k:G9}{v:G4}{Q:Unit->G5->Prop}(x:EnAt h0 s.heap e it fs T)(hne:e≠it)(kT:∀h h',T h->(∀o,h.get? it=gV o->h'.get? it=gV o)->T h')(hk:k < fs.size)
  (q:∀h',EnAt h0 h' e it (fs.setIfInBounds k v) T->JZ e s.heap h'->Q () { s with heap:=h' }):wpAny (model prog w) B (setField (.ref e) k v) Q E s:=
 wpAny_setField_rec x.here hk λh' y sb=>q h' #[y,kT _ _ x.turn λo z=>sb.extBut _ _ (Ne.symm hne) z,λb o h1 h2 z=>sb.extBut b o h1 (x.kept b o h1 h2 z)] sb
def lJ {Uq:G7 (G4->Prop)}{Q:G4->G5->Prop}(Zz:Zit prog w it T C i Uq)(hh:B.handled=td)(he:PZ s.heap e it (i:Hg) old)(t:T i s.heap)(c:C s.heap)(hne:e≠it)
  (hI:∀V,Uq=gV V->∀u h' tk tk0,V u->IsEnumOut h' e it ((i:Hg)+1) u s.heap.objs.size->T (i+1) h'->h'.get? s.heap.objs.size=gV { cls:=.type "tuple",data:=.seq [.int i tk0,u].toArray }->
   (∀b o,b≠e->b≠it->s.heap.get? b=gV o->h'.get? b=gV o)->Q (.ref s.heap.objs.size) { s with heap:=h',toks:=tk })
  (hE:Uq=td->∀h' x,MM it s.heap h'->(∃o,h'.get? x=gV o/\o.cls=.type "StopIteration")->E (.ref x) { s with heap:=h' }) :
  wpAny (model prog w) B (Mn.«enumerate.__next__» #[[.ref e],[]]) (λfin s'=>∃v,fin=.done (.ret v)/\Q v s') E s:=by
 obtain⟨hp,g,d,tk,os⟩:=s;change wpAny _ _ (field (.ref e) 2 >>= _) _ _ _;show G2 (JC he rfl (x:=.ref it) rfl (G2 ?_));cases Uq with
 | none=>exact Zz.stop rfl _ _ _ _ hh t c λh' x a b=>hE rfl h' x a b
 | some V=>
  show Zz.next V rfl _ _ _ _ t c λu ha tka hu ta sba=>?_
  have kT:=Zz.keep (i+1);have xa:EnAt hp ha e it [.none,.bool false,.ref it,rawInt i,.none,old].toArray (T (i+1)):=#[(sba.2 e hne).trans he,ta,λb o _ h2 z=>sba.extBut b o h2 z]
  have za:ha.objs.size=hp.objs.size:=sba.1;clear sba ta;change wpAny _ _ (field (.ref e) 3 >>= _) _ _ #[ha,g,d,tka,os];show G2 (JC xa.here rfl (x:=rawInt i) rfl ?_);change wpAny _ _ (field (.ref e) 4 >>= _) _ _ #[ha,g,d,tka,os];show G2 (JC xa.here rfl (x:=.none) rfl ?_);change wpAny _ _ (mkInt i >>= _) _ _ #[ha,g,d,tka,os];show G2 (On (G2 (xa.put (s:=#[ha,g,d,tka+1,os]) hne kT (by simp) λhb xb sb1=>G2 (xb.put (s:=#[hb,g,d,tka+1,os]) hne kT (by simp) λhc xc sb2=>G2 (OT ?_)))))
  have zc:hc.objs.size=hp.objs.size:=by rw[sb2.1,<- za]; exact sb1.1
  have hel:hp.objs.size≠e:=J0 (Hw he);have new:=Hv hc (o:={ cls:=.type "tuple",data:=.seq [.int i tka,u].toArray }) rfl;have xd:EnAt hp (hc.push { cls:=.type "tuple",data:=.seq [.int i tka,u].toArray }) e it [.none,.bool false,.ref it,rawInt ((i:Hg)+1),.none,old].toArray (T (i+1)):=#[Ha _ xc.here,kT _ _ xc.turn λo z=>Ha _ z,λb o h1 h2 z=>Ha _ (xc.kept b o h1 h2 z)]
  rw[zc]at new;change wpAny _ _ (KM (.ref e) >>= _) _ _ #[hc.push _,g,d,tka+1,os];rw[zc];generalize hc.push { cls:=.type "tuple",data:=.seq [.int i tka,u].toArray }=hd at new xd ⊢;clear zc sb2 xc sb1 xb hb xa za;show G2 ?_;unfold KM;show G2 (JC xd.here rfl (x:=.none) rfl (Hd ?_));simp only[Ki];show G2 (Mh (G2 (JC xd.here rfl (x:=old) rfl (G2 (xd.put (s:=#[hd,g,d,tka+1,os]) hne kT (by simp) λh1 x1 s1=>G2 ?_)))))
  unfold M8;show G2 (x1.put (s:=#[h1,g,d,tka+1,os]) hne kT (by simp) λh2 x2 s2=>x2.put (s:=#[h2,g,d,tka+1,os]) hne kT (by simp) λh3 x3 s3=>G2 (Lk (Hd #[_,rfl,hI V rfl u h3 (tka+1) tka hu x3.here x3.turn ?_ x3.kept])))
  exact s3.extBut _ _ hel (s2.extBut _ _ hel (s1.extBut _ _ hel new))
variable{v:G4}{o:Je}
def ow (h1:pO prog w v o C) :
  MeetsIn prog w (Mn.«enumerate.__new__» #[[.type "enumerate",v],[]]) (λ_ R s=>C s.heap/\R (.ok (.ret (.ref (s.heap.push o).objs.size))) { s with heap:=(s.heap.push o).push { cls:=.type "enumerate",data:=.fields [.none,.bool false,.ref s.heap.objs.size,rawInt 0,.none,.none].toArray } }):=
 .of_wp λA R s h=>by
  obtain⟨hp,g,d,tk,os⟩:=s;obtain⟨c,h⟩:=h;have hsub:=sub_enumerate;have d1:∀(B:HY) (Q:G4->G5->Prop) (E:G4->G5->Prop),Q (.ref hp.objs.size) #[hp.push o,g,d,tk,os]->wpAny (model prog w) B (pyIter v) Q E #[hp,g,d,tk,os]:=λB Q E q=>h1 B #[hp,g,d,tk,os] Q E c q
  wp_walk
  show wpAny_stack_any λst=>Hd ?_
  split
  ·rename_i c _ _ _ _ _;cases(c==Kx "enumerate")
   ·wp_walk using d1 _ _ _
    exact#[_,rfl,h]
   ·wp_walk using d1 _ _ _
    exact#[_,rfl,h]
  ·wp_walk using d1 _ _ _
   exact#[_,rfl,h]
def sH {Q:G4->G5->Prop}(h1:pO prog w v o C)(c:C s.heap)(n1:o.isFreed=false)
  (h:∀h',PZ h' (s.heap.objs.size+1) s.heap.objs.size 0 .none->h'.get? s.heap.objs.size=gV o->(∀b o,s.heap.get? b=gV o->h'.get? b=gV o)->Q (.ref (s.heap.objs.size+1)) { s with heap:=h' }) :
  wpAny (model prog w) B (call (.type "enumerate") [v]) Q E s:=by
 show callType_newIn F.called_enumerate #v[] (F.typeCall_enumerate_1 _) (F.newCall_enumerate_1 _) (λobj=>F.args_object_init_2 obj _) F.entry_enumerate_new (ow h1) #[c,?_]
 have hz:(s.heap.push o).objs.size=s.heap.objs.size+1:=Lb ..;change _/\_;rw[hz];have he:PZ ((s.heap.push o).push { cls:=.type "enumerate",data:=.fields [.none,.bool false,.ref s.heap.objs.size,rawInt 0,.none,.none].toArray }) (s.heap.objs.size+1) s.heap.objs.size 0 .none:=by
  have:=Hv (s.heap.push o) (o:={ cls:=.type "enumerate",data:=.fields [.none,.bool false,.ref s.heap.objs.size,rawInt 0,.none,.none].toArray }) rfl;rw[hz]at this; exact this
 exact#[#[_,he,rfl],h _ he (Ha _ (Hv _ n1)) λb o x=>Ha _ (Ha _ x)]
end
abbrev Gv (K:Hl)(S1:Zs):It:=
 #[λi H=>∃x,S1.at K H i x,λi H v H'=>∃p x,S1.is K H i x/\v=.ref p/\H p=td/\H'=bO H p (.tup [.int i,x]),λi H=>S1.out K H i]
def sI {P:HP}{w:Ii}{K:Hl}{els:G0 HB}{k0:G9}{tp:JE}{S1:Zs}{z i1:Hb}(D:z≠i1) :
  Turn P w K (.Tuple els k0 tp) (Gv K S1) [z,i1] z (λi h=>(∃old,PZ h z i1 i old)/\S1.T i1 i h) where
 mem:=by simp
 obj:=λi h #[#[old,a],d] b' hb=>by
  have it:∀ {S:Zs} {it:Hb},S.T it i h->∃o,h.get? it=gV o/\∀v,o.data≠.cell v:=λ{S it} t=>by
   cases S with
   | tup a=>obtain⟨o,e,_,d⟩:=t; exact#[o,e,λv z=>by rw[d]at z; cases z]
   | lst a=>obtain⟨o,e,_,d⟩:=t; exact#[o,e,λv z=>by rw[d]at z; cases z]
   | txt x=>obtain⟨tk,⟨o,e,_,d⟩|⟨o,e,_,d⟩⟩:=t <;> exact#[o,e,λv z=>by rw[d]at z; cases z]
  simp only[HF,IB,Kf]at hb;rcases hb with rfl|rfl
  ·exact#[_,a,λv z=>by cases z]
  ·exact it d
 keep:=λi h h' #[#[old,a],d] k=>#[#[old,k z (by simp) _ a],Zs.keep d (k i1 (by simp))]
 item:=by
  intro X hP hw hK hc i J s Y H E I hf st hg;subst hP hw hK;obtain⟨x,g1⟩:=hg;obtain⟨⟨old,a⟩,d⟩:=st;have hf4:∀b∈[z,z,i1,i1],iF X J H b:=λb hb=>hf b (by simp only[HF,IB,Kf]at hb ⊢; rcases hb with h|h|h|h <;> simp[h])
  obtain⟨C1,Zq,c1,k1⟩:=Zs.zit (it:=i1) (Uq:=gV x) I hf4 g1;have hT:s.TypeIs (.ref z) "enumerate":=#[_,a,rfl];unfold pyNext;show G2 (LZ (IF (name:=IW "__next__") hT F.slot_enumerate_next (IR F.slot_enumerate_next hT F.entry_enumerate_next ?_ (F.args_enumerate_next_1 _))));show lJ Zq (I.ok.hd hc) a d c1 D (λV e1 u g tk tk0 r1 zg t1 ng kp=>?_) (λz=>by cases z)
  cases e1;show Hd #[_,rfl,?_];show wpAny_letOwnedTupleGo_enum (s:={ s with heap:=g,toks:=tk }) zg λg' zg' sb=>?_
  have N0:H s.heap.objs.size=td:=I.hok.fresh (Hj _);have lt:∀ {b:Hb},b∈[z,i1]->s.heap.objs.size≠b:=λ{b} hb=>by
   have:∃o,s.heap.get? b=gV o:=by
    have it:∀ {S:Zs} {it:Hb},S.T it i s.heap->∃o,s.heap.get? it=gV o:=λ{S it} t=>by
     cases S with
     | tup a=>obtain⟨o,e,_⟩:=t; exact#[o,e]
     | lst a=>obtain⟨o,e,_⟩:=t; exact#[o,e]
     | txt x=>obtain⟨tk,⟨o,e,_⟩|⟨o,e,_⟩⟩:=t <;> exact#[o,e]
    simp only[HF,IB,Kf]at hb;rcases hb with rfl|rfl
    ·exact#[_,a]
    ·exact it d
   obtain⟨o,e⟩:=this;exact J0 (Hw e)
  have up:∀b o,b∉[z,i1]->s.heap.get? b=gV o->g'.get? b=gV o:=λb o hb e=>by
   simp only[HF,IB,Kf,Pj]at hb;exact sb.extBut _ _ hb.1 (kp b o hb.1 hb.2 e)
  have I1:Inv X J Y H { s with heap:=g',toks:=tk }:=Mi.Inv.turnedL I up hf
  have ng':g'.get? s.heap.objs.size=gV { cls:=.type "tuple",data:=.seq [.int i tk0,u].toArray }:=sb.extBut _ _ (lt (by simp)) ng
  have I2:Inv X J Y (bO H s.heap.objs.size (.tup [.int i,x])) { s with heap:=g',toks:=tk }:=by
   show Mi.Inv.adopt I1 N0 (.inr I.sz) (J0 I.lt) (λw c e=>?_) (λp hp=>?_) #[#[by change 2<=sizeLine; decide,#[_,ng',rfl]],[.int i tk0,u],.cons #[_,rfl] #v[r1],#[_,ng',rfl,0,rfl]]
   ·obtain⟨v,q⟩:=I.cell w c e;exact HL q.lt
   ·exact HL (Hw (I.pin p hp).1)
  show#[.ref s.heap.objs.size,_,I2,rfl,#[s.heap.objs.size,x,Zs.at_is I g1,rfl,N0,rfl],#[#[_,zg'],Zs.keep t1 λo e=>sb.extBut _ _ (Ne.symm D) e],λb hb=>?_]
  rw[aI (Ne.symm (lt hb))];exact(hf b hb).1
 done:=by
  intro X hP hw hK hc i J s Y H E I hf st hg;subst hP hw hK;obtain⟨⟨old,a⟩,d⟩:=st;have hf4:∀b∈[z,z,i1,i1],iF X J H b:=λb hb=>hf b (by simp only[HF,IB,Kf]at hb ⊢; rcases hb with h|h|h|h <;> simp[h])
  obtain⟨C1,Zq,c1,k1⟩:=Zs.zit (it:=i1) (Uq:=td) I hf4 hg;have hT:s.TypeIs (.ref z) "enumerate":=#[_,a,rfl];unfold pyNext;show G2 (LZ (IF (name:=IW "__next__") hT F.slot_enumerate_next (IR F.slot_enumerate_next hT F.entry_enumerate_next ?_ (F.args_enumerate_next_1 _))));show lJ Zq (I.ok.hd hc) a d c1 D (λV e1=>by cases e1) λ_ h' e k #[o,ho,hc]=>?_
  exact G2 (L8 (T:="StopIteration") (b:=true) #[o,ho,hc] OR (Hd #[rfl,Mi.Inv.turnedL (t':=s.toks) I (λb o hb e=>by
    simp only[HF,IB,Kf,Pj]at hb;exact k b o hb.2 e) hf]))
 self:=λ_ _ _ _ _ st h=>by obtain⟨⟨old,a⟩,_⟩:=st; exact NX a h
abbrev iS (xs:G0 W):G0 W:=xs.zipIdx.map λp=>.tup [.int (p.2:G9),p.1]
def jZ {xs:G0 W}{i:G9}{w:W}(h:(iS xs)[i]?=gV w):∃x,xs[i]?=gV x/\w=.tup [.int i,x]:=by
 unfold iS at h;rw[Hc,List.getElem?_zipIdx,Option.map_map,G6]at h;obtain⟨x,h1,rfl⟩:=h;exact#[x,h1,by simp]
abbrev vk (f:FA):FI:=λZ S=>match f Z S with
 | some ([x],S1)=>match E3 x with
  | some xs=>gV (.its (iS xs),S1)
  | none=>td
 | _=>td
section
variable{X:Cx}{J:G0 (Hb×Je)}{Y:L2.St}{H:Hp}{s:G5}{A:G0 Hb}
def vm {S1:Zs}{xs:G0 W}(z1:ZRel X.K A H xs S1):MIt X.w X.K (.its (iS xs)) (Gv X.K S1) A H:=by
 show#[λA' H' S i w e so hi=>?_,λA' H' S i e so hi=>?_]
 ·simp only[MI.at,Ir]at hi;obtain⟨x,e1,rfl⟩:=jZ hi;obtain⟨v,g1,r1⟩:=(z1.mono e).at e1;show#[#[v,g1],λp H2 #[a,v',q1,hp,hn,hH]=>?_]
  subst hp hH;have ex:Ext X.K A' H' A' (bO H' a (.tup [.int i,v'])):=dj (.inl hn);exact#[ex,so.lay hn,.tup (.of ba) #v[.int,((z1.mono e).is e1 q1).mono ex]]
 ·simp only[MI.at,Ir,Jx,iS,G1,List.length_zipIdx]at hi;exact(z1.mono e).out hi
def sJ:bootBuiltins "enumerate" = gV (.type "enumerate"):=rfl
def zd {els:G0 HB}{k0:G9}{tp:JE}{a:HB}{f:FA}{p pos:JE}(hg:Gl X "enumerate")(hm:X.mg "enumerate" = td)(ha:GA X [a] f)(hs:starEach [a] X.env=[(false,eval a X.env)]) :
  GI X (.Tuple els k0 tp) (.Call (.Name "enumerate" p) [a] [] pos) (vk f):=by
 intro J s Y H R I ⟨A,Z,S,mi,S',er,so,e,hq⟩;unfold vk at e;split at e
 ·rename_i x S1 h1;split at e
  ·rename_i xs e1;cases e;show Call_ (iE I hg hm sJ (JK (be (ha pos J s Y H _ I #[A,Z,S,_,_,er,so,h1,λ_ _ z=>z]) λus s1 #[vs,H1,I1,r1,A1,z1,z2,z3]=>?_) (by rw[hs]; rfl) (by rfl)))
   cases z3 with
   | cons ra t=>
    cases t;cases r1 with
    | cons ua t=>
     cases t;obtain⟨Sa,oa,Ca,za,ia,ca,ka,na,ta⟩:=zb I1 ra ua e1;show sH ia ca na λh' hz g1 kp=>?_
     have I2:Inv X J Y H1 { s1 with heap:=h' }:=I1.kept (t':=s1.toks) kp
     show NX (s:={ s1 with heap:=h' }) hz ?_
     show#[s1.heap.objs.size+1,_,_,_,H1,rfl,I2,sI (S1:=Sa) (i1:=s1.heap.objs.size) (by simp),#[#[_,hz],ta _ _ g1],λb hb=>?_,hq _ _ A1 z1 z2 (vm za)]
     have hb':s1.heap.objs.size<=b:=by
      simp only[HF,IB,Kf]at hb;rcases hb with rfl|rfl
      ·exact Nat.le_add_right _ _
      ·exact Hj _
     exact I1.fpOk hb' (I1.hok.fresh hb')
  ·cases e
 ·cases e
end
end Mi
namespace Mi
open PySem PySem.Spec PyProof.Rows L2
abbrev B3 (g1 g2:G0 W->aa->G7 (W×aa))(xs:G0 W)(S:aa):G7 (W×aa):=match g1 xs S with
 | some r=>gV r
 | none=>g2 xs S
def vn {X:Cx}{f:G4}{g1 g2:G0 W->aa->G7 (W×aa)}(h1:LCall X f g1)(h2:LCall X f g2):LCall X f (B3 g1 g2):=by
 intro J s Y H A S xs vs us w S' I so rl rv e;unfold B3 at e;split at e
 ·rename_i r hr;cases e;exact h1 J s Y H A S xs vs us w S' I so rl rv hr
 ·exact h2 J s Y H A S xs vs us w S' I so rl rv e
inductive Bi where|len|str|list|tuple|int|sorted|range|all|min
 deriving Kw
abbrev Bi.fn:Bi->G0 W->aa->G7 (W×aa)
 | .len=>pI|.str=>yS|.list=>B3 jf jS|.tuple=>jU|.int=>Dw|.sorted=>g9|.range=>mB|.all=>BA|.min=>yw
abbrev Bi.name:Bi->Hs
 | .len=>"len"|.str=>"str"|.list=>"list"|.tuple=>"tuple"|.int=>"int"|.sorted=>"sorted"|.range=>"range"|.all=>"all"|.min=>"min"
inductive Me where|append|extend|pop|get|index
 deriving Kw
abbrev Me.fn:Me->W->G0 W->aa->G7 (W×aa)
 | .append=>gY|.extend=>gZ|.pop=>yo|.get=>uD|.index=>g5
abbrev Me.name:Me->Hs
 | .append=>"append"|.extend=>"extend"|.pop=>"pop"|.get=>"get"|.index=>"index"
abbrev Me.ty:Me->IN
 | .append=>"list"|.extend=>"list"|.pop=>"list"|.get=>"dict"|.index=>"tuple"
inductive Tg where
 | nm (i:G9)|tp (is:G0 G9)
set_option genSizeOf false in
set_option genInjectivity false in
mutual
inductive E where
 | c (w:W)|v (i:G9)
 | op (o:BOp) (a b:E)
 | cmp (o:COp) (a b:E)
 | and (a b:E)|or (a b:E)|not (a:E)
 | own (f:Hs) (n:G9) (es:Es)|ow2 (f g:Hs) (n:G9) (i:E) (es:Es)|bi (b:Bi) (es:Es)|me (m:Me) (o:E) (es:Es)
 | ix (a b:E)|sl (a:E) (lo hi:Ep)|tup (es:Es)|lst (es:Es)
 | isi (c:IN) (a:E)
 | neg (a:E)|dnew|disp (es:Es)|chn (o o':COp) (a b d:E)|ite (t a b:E)
 | comp (elt:E) (tg:Tg) (it:Ie) (cs:Es) (cap:G0 (G7 G9))
inductive Es where
 | nil|cons (e:E) (es:Es)
inductive Ep where
 | no|yes (e:E)
inductive Ie where
 | seq (e:E)|rng (es:Es)|rng2 (es:Es)|enu (es:Es)
end
set_option genSizeOf false in
set_option genInjectivity false in
mutual
inductive Sm where
 | set (i:G9) (e:E)|asg (is:G0 G9) (e:E)|par (i j:G9) (es:Es)|pr3 (i j l:G9) (es:Es)|put (o k e:E)
 | ex (e:E)|ret (e:E)|pass
 | ite (t:E) (a b:Ss)|whl (t:E) (b:Ss)|loop (tg:Tg) (it:Ie) (b:Ss)
inductive Ss where
 | nil|cons (s:Sm) (ss:Ss)
end
abbrev fF:Tg->FG
 | .nm i=>Ai i
 | .tp is=>CT is
section
variable (M:Hs->FF)
mutual
def aA:E->FE
 | .c w=>fC w
 | .v i=>fV i
 | .op o a b=>yy (iD o) (aA a) (aA b)
 | .cmp o a b=>yz o (aA a) (aA b)
 | .and a b=>qQ (aA a) (aA b)
 | .or a b=>yD (aA a) (aA b)
 | .not a=>qR (aA a)
 | .own f n es=>kR n (M f) (cJ es)
 | .ow2 f g n i es=>u7 n (M f) (M g) (aA i) (cJ es)
 | .bi b es=>jh b.fn (cJ es)
 | .me m o es=>CS m.ty m.fn (aA o) (cJ es)
 | .ix a b=>FV (aA a) (aA b)
 | .sl a lo hi=>DD (aA a) (qW lo) (qW hi)
 | .tup es=>uV (cJ es)
 | .lst es=>uW (cJ es)
 | .isi c a=>vc c (aA a)
 | .neg a=>uP (aA a)
 | .dnew=>Aj
 | .disp es=>oo (cJ es)
 | .chn o o' a b d=>fL o o' (aA a) (aA b) (aA d)
 | .ite t a b=>yE (cM t) (aA a) (aA b)
 | .comp elt tg it cs cap=>jY (ju it) (fF tg) (ze cs) (aA elt) cap
def cM:E->FT
 | .cmp o a b=>og (yz o (aA a) (aA b))
 | .and a b=>uT (cM a) (cM b)
 | .or a b=>DA (cM a) (cM b)
 | .not a=>yA (cM a)
 | .c w=>gx (fC w)
 | .v i=>gx (fV i)
 | .op o a b=>gx (yy (iD o) (aA a) (aA b))
 | .own f n es=>gx (kR n (M f) (cJ es))
 | .bi b es=>gx (jh b.fn (cJ es))
 | .me m o es=>gx (CS m.ty m.fn (aA o) (cJ es))
 | .ix a b=>gx (FV (aA a) (aA b))
 | .sl a lo hi=>gx (DD (aA a) (qW lo) (qW hi))
 | .tup es=>gx (uV (cJ es))
 | .lst es=>gx (uW (cJ es))
 | .isi c a=>gx (vc c (aA a))
 | .neg a=>gx (uP (aA a))
 | .dnew=>λ_ _=>td
 | .disp _=>λ_ _=>td
 | .chn o o' a b d=>og (fL o o' (aA a) (aA b) (aA d))
 | .ite _ _ _=>λ_ _=>td
 | .ow2 _ _ _ _ _=>λ_ _=>td
 | .comp _ _ _ _ _=>λ_ _=>td
def cJ:Es->FA
 | .nil=>hG
 | .cons e es=>dC (aA e) (cJ es)
def ze:Es->FT
 | .nil=>Ak
 | .cons e .nil=>cM e
 | .cons _ (.cons _ _)=>λ_ _=>td
def qW:Ep->FO
 | .no=>BN
 | .yes e=>qT (aA e)
def ju:Ie->FI
 | .seq e=>fu (aA e)
 | .rng es=>pK (cJ es)
 | .rng2 es=>iRng2 (cJ es)
 | .enu es=>vk (cJ es)
end
variable (fuel:G9)
mutual
def fD:Sm->FS
 | .set i e=>jW (aA M e) (Ai i)
 | .asg is e=>jW (aA M e) (CT is)
 | .par i j es=>yQ i j (cJ M es)
 | .pr3 i j l es=>yR i j l (cJ M es)
 | .put o k e=>jW (aA M e) (yP (aA M o) (aA M k))
 | .ex e=>yL (aA M e)
 | .ret e=>yN (aA M e)
 | .pass=>u4
 | .ite t a b=>yO (cM M t) (fN a) (fN b)
 | .whl t b=>mP (cM M t) (fN b) fuel
 | .loop tg it b=>u8 (ju M it) (fF tg) (fN b)
def fN:Ss->FS
 | .nil=>λZ S=>gV (.nx Z,S)
 | .cons s ss=>yK (fD s) (fN ss)
end
end
structure Gam where
 sc:G0 (Hs×IV)
 N:G0 Hs
 fns:G0 (Hs×G9)
 blt:G0 Hs
 dfn:HA
 own:G0 Hs
abbrev B4:G7 IV->HA
 | some .local=>true|some .cell=>true|some .free=>true|_=>false
abbrev zf:G7 IV->HA
 | some .cell=>true|some .free=>true|_=>false
abbrev fO (names outer:G0 (Hs×IV)):G0 (Hs×IV):=names.map λ(n,k)=>if (k==.free&&outer.lookup n==gV .cell)then(n,.cell)else(n,k)
abbrev slot (Γ:Gam)(x:Hs):G7 G9:=if B4 (Γ.sc.lookup x) && !(x==("__debug__" : Hs)) && !(x==("__classdict__" : Hs))then Γ.N.findIdx? (· == x)else td
abbrev qX:NG->G7 BOp
 | .Add=>gV .add|.Sub=>gV .sub|.Mult=>gV .mul|.FloorDiv=>gV .fdiv|.Mod=>gV .mod|.Pow=>gV .pow|_=>td
abbrev ji:Ol->G7 COp
 | .Eq=>gV .eq|.NotEq=>gV .ne|.Lt=>gV .lt|.LtE=>gV .le|.Gt=>gV .gt|.GtE=>gV .ge|.In=>gV .isin|.NotIn=>gV .notin|.Is=>gV .is|.IsNot=>gV .isnot
abbrev zh (x:Hs):G7 Bi:=[Bi.len,.str,.list,.tuple,.int,.sorted,.range,.all,.min].find? λb=>b.name==x
abbrev zj (x:Hs):G7 Me:=[Me.append,.extend,.pop,.get,.index].find? λb=>b.name==x
abbrev DN (Γ:Gam)(x:Hs):HA:=Γ.sc.lookup x==gV .globalImplicit && !(x==("__debug__" : Hs))
abbrev vo (x:Hs):G7 IN:=if x==("bool" : Hs)then gV "bool" else if x==("int" : Hs)then gV "int" else if x==("str" : Hs)then gV "str" else if x==("tuple" : Hs)then gV "tuple" else if x==("list" : Hs)then gV "list" else if x==("dict" : Hs)then gV "dict" else td
abbrev qY:G0 (G7 HB)->G0 HB->G0 HB
 | some k::ks,v::vs=>k::v::qY ks vs
 | _,_=>[]
abbrev zm (Γ:Gam)(f:HB->G7 E):G0 HB->G7 E
 | [a,.Name c _]=>if DN Γ c&&Γ.blt.contains c then match vo c,f a with
  | some cs,gV a'=>gV (.isi cs a')
  | _,_=>td
  else td
 | _=>td
abbrev ga:HB->HA
 | .Name _ _=>true|.Constant _ _ _=>true|.Subscript _ _ _=>true|_=>false
abbrev gz (Γ:Gam)(x:Hs):HA:=Γ.sc.lookup x==gV .globalImplicit && !(x==("__debug__" : Hs))
abbrev de (Γ:Gam)(x:Hs):G7 G9:=if (Γ.sc.lookup x==gV .local)||((Γ.dfn||Γ.own.contains x)&&Γ.sc.lookup x==gV .cell)then Γ.N.findIdx? (· == x)else td
abbrev cA (f:HB->G7 E)(es:G0 HB):G7 Es:=es.foldr (λe acc=>match f e,acc with|some e',gV es'=>gV (.cons e' es')|_,_=>td) (gV .nil)
abbrev cB (f:HB->G7 E)(op:PY):G0 HB->G7 E
 | []=>td
 | [a]=>f a
 | a::b::cz=>match f a,cB f op (b::cz)with
  | some a',gV b'=>gV (match op with|.And=>.and a' b'|.Or=>.or a' b')
  | _,_=>td
abbrev cP (f:HB->G7 E):G7 HB->G7 Ep
 | none=>gV .no
 | some e=>(f e).map .yes
abbrev isTup:HB->HA
 | .Tuple _ _ _=>true
 | _=>false
abbrev cI (Γ:Gam)(f:HB->G7 E)(tg:HB):HB->G7 Ie
 | .Call (.Name x p) [a] [] q=>if x==("range" : Hs)&&gz Γ x&&Γ.blt.contains x then(cA f [a]).map .rng else if x==("enumerate" : Hs)&&gz Γ x&&Γ.blt.contains x&&isTup tg then(cA f [a]).map .enu else(f (.Call (.Name x p) [a] [] q)).map .seq
 | .Call (.Name x p) [a,b] [] q=>if x==("range" : Hs)&&gz Γ x&&Γ.blt.contains x then(cA f [a,b]).map .rng2 else(f (.Call (.Name x p) [a,b] [] q)).map .seq
 | e=>(f e).map .seq
abbrev B5 (Γ:Gam):G0 HB->G7 (G0 G9)
 | []=>gV []
 | .Name x _::ts=>match de Γ x,B5 Γ ts with
  | some i,gV is=>gV (i::is)
  | _,_=>td
 | _::_=>td
abbrev cT (Γ:Gam):HB->G7 Tg
 | .Name x _=>(de Γ x).map .nm
 | .Tuple ts _ _=>(B5 Γ ts).map .tp
 | _=>td
abbrev gE (names:G0 (Hs×IV)):G0 Hs:=(names.filter λp=>p.2==.local||p.2==.cell||p.2==.free).map (·.1)
abbrev gb (Γ:Gam)(names:G0 (Hs×IV)):G0 (G7 G9):=(gE names).map λx=>if names.lookup x==gV .local||names.lookup x==gV .cell then td else Γ.N.findIdx? (· == x)
abbrev vp (Γ:Gam)(scope:Kh):HA:=
 (scope.kind==.function)&&scope.names.all (λy=>!(y.2==.local)||scope.names.lookup y.1==gV .local)&&scope.names.all (λy=>!(y.2==.cell)||scope.names.lookup y.1==gV .cell) &&
 scope.names.all (λy=>!(y.2==.free)||(zf (Γ.sc.lookup y.1)&&scope.names.lookup y.1==gV .free&&(Γ.N.findIdx? (· == y.1)).isSome))&&decide (gE scope.names).Nodup
abbrev gF (Γ:Gam)(scope:Kh):Gam:={ Γ with sc:=fO scope.names Γ.sc,N:=gE scope.names,dfn:=false,own:=(scope.names.filter λp=>p.2==.cell).map (·.1) }
abbrev vt (f:HB->G7 E)(keys:G0 (G7 HB))(values:G0 HB):G7 E:=
 if keys.isEmpty&&values.isEmpty then gV .dnew
 else if keys.all (·.isSome)&&decide (keys.length=values.length)&&decide (keys.length<=15)then(cA f (qY keys values)).map .disp else td
abbrev cE:G9->Gam->HB->G7 E
 | 0,_,_=>td
 | n+1,Γ,e=>match e with
  | .Constant (.int i) _ _=>gV (.c (.int i))
  | .Constant (.str x) _ _=>gV (.c (.str x))
  | .Constant (.bool b) _ _=>gV (.c (.bl b))
  | .Constant .none _ _=>gV (.c .non)
  | .Name x _=>match slot Γ x with
   | some i=>gV (.v i)
   | none=>td
  | .BinOp a op b _=>match qX op,cE n Γ a,cE n Γ b with
   | some o,gV a',gV b'=>gV (.op o a' b')
   | _,_,_=>td
  | .UnaryOp .Not a _=>(cE n Γ a).map .not
  | .UnaryOp .USub a _=>(cE n Γ a).map .neg
  | .BoolOp op vs _=>cB (cE n Γ) op vs
  | .Compare a [op] [b] _=>match ji op,cE n Γ a,cE n Γ b with
   | some o,gV a',gV b'=>gV (.cmp o a' b')
   | _,_,_=>td
  | .Compare a [op,op'] [b,d] _=>match ji op,ji op',cE n Γ a,cE n Γ b,cE n Γ d with
   | some o,gV o',gV a',gV b',gV d'=>gV (.chn o o' a' b' d')
   | _,_,_,_,_=>td
  | .IfExp t a b _=>match cE n Γ t,cE n Γ a,cE n Γ b with
   | some t',gV a',gV b'=>gV (.ite t' a' b')
   | _,_,_=>td
  | .Call (.Name f _) args [] _=>if gz Γ f then match Γ.fns.lookup f with
    | some k=>(cA (cE n Γ) args).map (.own f k)
    | none=>if f==("isinstance" : Hs)then(if Γ.blt.contains f then zm Γ (cE n Γ) args else td)else match zh f,args with
     | some b,a::as=>if Γ.blt.contains f then(cA (cE n Γ) (a::as)).map (.bi b)else td
     | _,_=>td
   else td
  | .Call (.Subscript (.List [.Name f _,.Name g _] _) i _) (a::as) [] _=>match Γ.fns.lookup f,Γ.fns.lookup g,cE n Γ i,cA (cE n Γ) (a::as)with
   | some k,gV k',gV i',gV es=>if gz Γ f&&gz Γ g&&decide (k=k')then gV (.ow2 f g k i' es)else td
   | _,_,_,_=>td
  | .Call (.Attribute o m apos) (a::as) [] cpos=>match zj m,cE n Γ o,cA (cE n Γ) (a::as)with
   | some m',gV o',gV es=>if ga o&&(apos.endLine==cpos.line)&&decide ((a::as).length < 29)then gV (.me m' o' es)else td
   | _,_,_=>td
  | .Subscript a (.Slice lo hi td _) _=>match cE n Γ a,cP (cE n Γ) lo,cP (cE n Γ) hi with
   | some a',gV lo',gV hi'=>gV (.sl a' lo' hi')
   | _,_,_=>td
  | .Subscript a b _=>match cE n Γ a,cE n Γ b with
   | some a',gV b'=>gV (.ix a' b')
   | _,_=>td
  | .Tuple es _ _=>(cA (cE n Γ) es).map .tup
  | .List es _=>(cA (cE n Γ) es).map .lst
  | .Dict keys values _=>vt (cE n Γ) keys values
  | .ListComp elt [#[tg,iter,ifs,asy]] scope _=>if (asy==0)&&(vp Γ scope&&decide (ifs.length<=1))then
    match cI Γ (cE n Γ) tg iter,cT (gF Γ scope) tg,cA (cE n (gF Γ scope)) ifs,cE n (gF Γ scope) elt with
    | some it,gV t,gV cs,gV el=>gV (.comp el t it cs (gb Γ scope.names))
    | _,_,_,_=>td
   else td
  | _=>td
structure CtxOk (M:Hs->FF)(X:Cx)(Γ:Gam):Prop where
 names:X.env.scope.names=Γ.sc
 kind:X.env.scope.kind=.function
 N:X.N=Γ.N
 nd:Γ.N.Nodup
 calm:X.calm=true
 xe:X.xe=λ_ _=>IJ
 un:X.A.units+fI < cLine
 dfn:Γ.dfn=true->∀x,X.fn x=true
 own:∀x∈Γ.own,X.fn x=true
 blt:∀x∈Γ.blt,X.mg x=td
 fns:∀f n,Γ.fns.lookup f=gV n->∃k fa fd ps,FnOk X.prog X.w X.K X.mg X.base qz k fa fd ps (spF X.w X.K n (M f))/\Room k X.A/\X.mg f=gV (.ref fa)/\Iy X.K (.ref fa)=true/\Binds X.K fd ps []
def ap {α:Type}{x:α}{P:Prop}(h:(td:G7 α)=gV x):P:=nomatch h
abbrev fP:HB->HA
 | .Starred _ _=>false
 | _=>true
def aB {e:HB}{es:G0 HB}{env:Na}(h:fP e=true):starEach (e::es) env=(false,eval e env)::starEach es env:=by
 cases e <;> first|rfl|cases h
def aT {env:Na}{pos:JE}:∀ {es:G0 HB},es.all fP=true->(backTo pos (starEach es env)).any (·.1)=false
 | [],_=>rfl
 | e::es,h=>by
  rw[HW,G8]at h;rw[aB h.1];show(false||(backTo pos (starEach es env)).any (·.1))=false
  rw[aT h.2];rfl
def ox {env:Na}{pos:JE}:∀ {es:G0 HB},es.all fP=true->(backTo pos (starEach es env)).all (λx=>!x.1)=true
 | [],_=>rfl
 | e::es,h=>by
  rw[HW,G8]at h;rw[aB h.1];show(true&&(backTo pos (starEach es env)).all (λx=>!x.1))=true
  rw[ox h.2];rfl
def iT {n:G9}{Γ:Gam}{e:HB}{e':E}(h:cE n Γ e=gV e'):fP e=true:=by
 cases n with
 | zero=>cases h
 | succ n=>cases e <;> first|rfl|(exact ap h)
def hX {f:HB->G7 E}{e:HB}{es:G0 HB}{r:Es}(h:cA f (e::es)=gV r):∃e' es',f e=gV e'/\cA f es=gV es'/\r=.cons e' es':=by
 simp only[cA,Ox]at h;split at h
 ·rename_i e' es' h1 h2;cases h;exact#[e',es',h1,h2,rfl]
 ·cases h
def bQ {n:G9}{Γ:Gam}:∀ {es:G0 HB} {r:Es},cA (cE n Γ) es=gV r->es.all fP=true
 | [],_,_=>rfl
 | e::es,r,h=>by
  obtain⟨e',es',h1,h2,_⟩:=hX h;rw[HW,iT h1,bQ h2];rfl
def bK {N:G0 Hs}{x:Hs}{i:G9}(h:N.findIdx? (· == x)=gV i):N[i]?=gV x:=by
 obtain⟨hl,h1,_⟩:=JV.mp h;rw[Hi hl];exact congrArg gV (eq_of_beq h1)
section
variable{M:Hs->FF}{X:Cx}{Γ:Gam}
def hZ {e:HB}:GT X e (λ_ _=>td):=λJ s Y H Q I #[A,Z,S,k,S',er,so,e1,hq]=>by cases e1
def vw {x:Hs}(h:B4 (X.env.scope.names.lookup x)=true):E8 X.env.scope x:=by
 unfold B4 at h;split at h
 ·exact .inl (by assumption)
 ·exact .inr (.inl (by assumption))
 ·exact .inr (.inr (by assumption))
 ·cases h
def vx (K:CtxOk M X Γ){x:Hs}{pos:JE}{i:G9}(h:slot Γ x=gV i):GE X (.Name x pos) (fV i):=by
 unfold slot at h;split at h
 ·rename_i hc;rw[G8,G8]at hc;obtain⟨⟨h1,h2⟩,h3⟩:=hc;show FU (AL (by rw[K.N]; exact bK h) (vw (by rw[K.names]; exact h1)) (by simpa using h2) (by simpa using h3))
 ·cases h
def ib (K:CtxOk M X Γ){x:Hs}(h:gz Γ x=true):Gl X x/\(x==("__debug__" : Hs))=false:=by
 unfold gz at h;rw[G8]at h;show#[?_,by simpa using h.2]
 change X.env.scope.names.lookup x=_;rw[K.names];exact eq_of_beq h.1
def j3 {o:Ol}{c:COp}(h:ji o=gV c):c.py=o:=by
 cases o <;> (simp only[ji,Ir]at h; subst h; rfl)
def vy {o:NG}{c:BOp}(h:qX o=gV c):c.py=o:=by
 cases o <;> simp only[qX,Ir]at h <;> first|(subst h; rfl)|cases h
def sK {x:Hs}{b:Bi}(h:zh x=gV b):b.name=x:=by
 have:=MB h;exact eq_of_beq this
def sL {x:Hs}{b:Me}(h:zj x=gV b):b.name=x:=by
 have:=MB h;exact eq_of_beq this
def cO {n:G9}(ih:∀ {e:HB} {e':E},cE n Γ e=gV e'->GE X e (aA M e')):∀ {es:G0 HB} {r:Es},cA (cE n Γ) es=gV r->GA X es (cJ M r)
 | [],r,h=>by cases h; exact BM
 | e::es,r,h=>by
  obtain⟨e',es',h1,h2,rfl⟩:=hX h;exact yF (ih h1) (cO ih h2) (aB (iT h1))
def DO (K:CtxOk M X Γ){n:G9}{f:Hs}{p pos:JE}{args:G0 HB}{k:G9}{r:Es}(hg:gz Γ f=true)(hf:Γ.fns.lookup f=gV k)(ha:cA (cE n Γ) args=gV r)(h:GA X args (cJ M r)):GE X (.Call (.Name f p) args [] pos) (kR k (M f) (cJ M r)):=by
 obtain⟨d,fa,fd,ps,F,hr,hm,hk,hb⟩:=K.fns f k hf;obtain⟨g1,g2⟩:=ib K hg;cases args with
 | nil=>cases ha; exact yI F hr g1 hm hk hb g2
 | cons a as=>
  have ns:=bQ ha;rw[HW,G8]at ns;exact BP F hr g1 hm hk hb h g2 (aB ns.1) (aT ns.2)
def DP (K:CtxOk M X Γ){n:G9}{f g:Hs}{p1 p2 p3 p4 pos:JE}{i a:HB}{as:G0 HB}{k:G9}{fi:FE}{r:Es}(hg:gz Γ f=true)(hg':gz Γ g=true)(hf:Γ.fns.lookup f=gV k)(hf':Γ.fns.lookup g=gV k)(hi:GE X i fi)(hpi:fY i)(ha:cA (cE n Γ) (a::as)=gV r)(h:GA X (a::as) (cJ M r)):GE X (.Call (.Subscript (.List [.Name f p1,.Name g p2] p3) i p4) (a::as) [] pos) (u7 k (M f) (M g) fi (cJ M r)):=by
 obtain⟨d,fa,fd,ps,F,hr,hm,hk,hb⟩:=K.fns f k hf;obtain⟨d',fa',fd',ps',F',hr',hm',hk',hb'⟩:=K.fns g k hf';obtain⟨g1,g2⟩:=ib K hg;obtain⟨g1',g2'⟩:=ib K hg';have ns:=bQ ha;rw[HW,G8]at ns;exact BW F F' hr hr' g1 g1' hm hm' hk hk' hb hb' hi hpi h g2 g2' (aB ns.1) (aT ns.2)
def FY (K:CtxOk M X Γ){n:G9}{f:Hs}{p pos:JE}{a:HB}{as:G0 HB}{b:Bi}{r:Es}(hg:gz Γ f=true)(hb:zh f=gV b)(hc:Γ.blt.contains f=true)(ha:cA (cE n Γ) (a::as)=gV r)(h:GA X (a::as) (cJ M r)):GE X (.Call (.Name f p) (a::as) [] pos) (jh b.fn (cJ M r)):=by
 obtain⟨g1,g2⟩:=ib K hg;have hm:X.mg f=td:=K.blt f (by simpa using hc)
 have ns:=bQ ha;rw[HW,G8]at ns;have e:=sK hb;subst e;have hu:X.A.units+12 < cLine:=by have:=K.un; have:fI=20:=rfl; omega
 have calm:∀ {f:G4} {g:G0 W->aa->G7 (W×aa)},(X.A.handled=td->LCall X f g)->LCall X f g:=λh J s Y H A S xs vs us w S' I=>h (I.ok.hd K.calm) J s Y H A S xs vs us w S' I
 cases b with
 | len=>exact qS pM g1 hm PySem.boot_len h #v[] g2 (aB ns.1) (aT ns.2)
 | list=>exact oh (calm λhh=>vn (nO hh) (n6 hh)) g1 hm rfl h #v[] g2 (aB ns.1) (aT ns.2)
 | tuple=>exact oh (calm mN) g1 hm rfl h #v[] g2 (aB ns.1) (aT ns.2)
 | str=>exact oh sE g1 hm rfl h #v[] g2 (aB ns.1) (aT ns.2)
 | int=>exact oh sg g1 hm rfl h #v[] g2 (aB ns.1) (aT ns.2)
 | sorted=>exact qS (calm λhh=>mM hh hu) g1 hm rfl h #v[] g2 (aB ns.1) (aT ns.2)
 | range=>exact oh nN g1 hm rfl h #v[] g2 (aB ns.1) (aT ns.2)
 | all=>exact qS (calm sC) g1 hm rfl h #v[] g2 (aB ns.1) (aT ns.2)
 | min=>exact qS (calm λhh=>sA hh hu) g1 hm rfl h #v[] g2 (aB ns.1) (aT ns.2)
def vz {x:Hs}{c:IN}(h:vo x=gV c):bootBuiltins x=gV (.type c)/\x≠"__name__":=by
 unfold vo at h;split at h
 ·rename_i e; cases h; rw[eq_of_beq e]; exact#[rfl,#v[]]
 ·split at h
  ·rename_i e; cases h; rw[eq_of_beq e]; exact#[rfl,#v[]]
  ·split at h
   ·rename_i e; cases h; rw[eq_of_beq e]; exact#[rfl,#v[]]
   ·split at h
    ·rename_i e; cases h; rw[eq_of_beq e]; exact#[rfl,#v[]]
    ·split at h
     ·rename_i e; cases h; rw[eq_of_beq e]; exact#[rfl,#v[]]
     ·split at h
      ·rename_i e; cases h; rw[eq_of_beq e]; exact#[rfl,#v[]]
      ·cases h
def DQ (K:CtxOk M X Γ){n:G9}{f:Hs}{p pos:JE}{args:G0 HB}{r:E}(hg:gz Γ f=true)(hb:(f==("isinstance" : Hs))=true)(hc:Γ.blt.contains f=true)(ih:∀ {e:HB} {e':E},cE n Γ e=gV e'->GE X e (aA M e'))(h:zm Γ (cE n Γ) args=gV r) :
  GE X (.Call (.Name f p) args [] pos) (aA M r)/\∃a c,r=.isi c a:=by
 obtain⟨g1,g2⟩:=ib K hg;have hm:X.mg f=td:=K.blt f (by simpa using hc)
 have e:=eq_of_beq hb;subst e;unfold zm at h;split at h
 ·rename_i a c q;split at h
  ·rename_i hcc;rw[G8]at hcc;obtain⟨g3,g4⟩:=ib K (x:=c) hcc.1;have hm2:X.mg c=td:=K.blt c (by simpa using hcc.2)
   split at h
   ·rename_i cs a' h1 h2;cases h;obtain⟨b1,b2⟩:=vz h1;exact#[B1 g1 hm g3 hm2 b1 b2 g4 (ih h2) (aB (iT h2)),a',cs,rfl]
   ·cases h
  ·cases h
 ·cases h
def eH {o:HB}{name:Hs}{env:Na}(h:ga o=true):attributeBase o name env (eval o env)=eval o env:=by
 cases o <;> first|rfl|cases h
def qZ {n:G9}{pos:JE}(ih:∀ {e:HB} {e':E},cE n Γ e=gV e'->GE X e (aA M e')):∀(keys:G0 (G7 HB)) (values:G0 HB) {r:Es},keys.all (·.isSome)=true->keys.length=values.length->cA (cE n Γ) (qY keys values)=gV r->DK X pos keys values (cJ M r)
 | [],[],r,_,_,h=>by cases h; exact yZ
 | [],_::_,r,_,hl,_=>by cases hl
 | _::_,[],r,_,hl,_=>by cases hl
 | none::_,_::_,r,ha,_,_=>by cases ha
 | some k::ks,v::vs,r,ha,hl,h=>by
  dsimp only[qY]at h;obtain⟨e1,es1,h1,h2,rfl⟩:=hX h;obtain⟨e2,es2,h3,h4,rfl⟩:=hX h2;rw[HW,G8]at ha;exact vd (ih h1) (ih h3) (qZ ih ks vs ha.2 (by simpa using hl) h4)
def FZ (K:CtxOk M X Γ){n:G9}{m:Hs}{apos cpos:JE}{o a:HB}{as:G0 HB}{b:Me}{o':E}{r:Es}(hm:zj m=gV b)(hr:ga o=true)(hl:(apos.endLine==cpos.line)=true)(hn:(a::as).length < 29)(ho:GE X o (aA M o'))(ha:cA (cE n Γ) (a::as)=gV r)(h:GA X (a::as) (cJ M r)) :
  GE X (.Call (.Attribute o m apos) (a::as) [] cpos) (CS b.ty b.fn (aA M o') (cJ M r)):=by
 have ns:=bQ ha;have ns':=ns;rw[HW,G8]at ns;have kU:((backTo cpos (starEach (a::as) X.env)).all (λx=>!x.1)&&(backToKw cpos (keywordEach [] X.env)).all (λx=>x.1.isSome)&&decide ((a::as).length+([]:G0 M4).length+(if ([]:G0 M4).isEmpty then 0 else 1) < 30))=true:=by
  rw[ox ns',KN,G8];exact#[rfl,IL (by simp only[Jk,List.isEmpty_nil,Ki]; omega)]
 have e:=sL hm;subst e;cases b with
 | append=>exact ol KZ PySem.F.slot_list_append PySem.F.type_list_append mw ho h (eH hr) kU hl (aB ns.1) (aT ns.2)
 | extend=>exact ol KZ PySem.F.slot_list_extend PySem.F.type_list_extend my ho h (eH hr) kU hl (aB ns.1) (aT ns.2)
 | pop=>exact ol KZ PySem.F.slot_list_pop PySem.F.type_list_pop sh ho h (eH hr) kU hl (aB ns.1) (aT ns.2)
 | get=>exact ol PySem.F.plainAttrs_dict MD PySem.F.type_dict_get (pE (by have:=K.un; have:fI=20:=rfl; omega)) ho h (eH hr) kU hl (aB ns.1) (aT ns.2)
 | index=>exact ol PySem.F.plainAttrs_tuple LX PySem.F.type_tuple_index nK ho h (eH hr) kU hl (aB ns.1) (aT ns.2)
def ic {n:G9}{Γ:Gam}{e:HB}{e':E}{op:Ol}(h:cE n Γ e=gV e'):behindInMarks op e=false:=by
 cases n with
 | zero=>cases h
 | succ n=>cases e <;> first|rfl|(exact ap h)
def j4 {n:G9}{Γ:Gam}{e:HB}{e':E}(h:cE n Γ e=gV e'):fY e:=by
 cases n with
 | zero=>cases h
 | succ n=>cases e <;> first|(intro o i; rfl)|(exact ap h)
def mR {n:G9}{Γ:Gam}{f:HB->G7 E}{e:HB}{i:Ie}{env:Na}{tg:HB}(hf:∀el k p,f (.Set el k p)=td)(h:cI Γ f tg e=gV i):∀x,foldedSetIterable e env x=pure x:=by
 intro x;cases e <;> first|rfl|(simp[cI,hf]at h)
def mS {n:G9}{op:PY}{pos:JE}(ih:∀ {e:HB} {e':E},cE n Γ e=gV e'->GE X e (aA M e')):∀ {vs:G0 HB} {r:E},cB (cE n Γ) op vs=gV r->GE X (.BoolOp op vs pos) (aA M r)
 | [],r,h=>by cases h
 | [a],r,h=>BI (ih h)
 | a::b::cz,r,h=>by
  simp only[cB]at h;split at h
  ·rename_i a' b' h1 h2;cases h;cases op with
   | And=>exact BJ (ih h1) (mS ih h2)
   | Or=>exact DC (ih h1) (mS ih h2)
  ·cases h
def mT {n:G9}{op:PY}{pos:JE}(ih:∀ {e:HB} {e':E},cE n Γ e=gV e'->GT X e (cM M e')):∀ {vs:G0 HB} {r:E},cB (cE n Γ) op vs=gV r->GW X (.BoolOp op vs pos) (cM M r)
 | [],r,h=>by cases h
 | [a],r,h=>by
  cases op with
  | And=>exact yC (ih h)
  | Or=>exact BF (ih h)
 | a::b::cz,r,h=>by
  simp only[cB]at h;split at h
  ·rename_i a' b' h1 h2;cases h;cases op with
   | And=>exact BG (ih h1) (mT ih h2)
   | Or=>exact DB (ih h1) (mT ih h2)
  ·cases h
def vA {n:G9}(ih:∀ {e:HB} {e':E},cE n Γ e=gV e'->GE X e (aA M e')){o:G7 HB}{p:Ep}(h:cP (cE n Γ) o=gV p):GO X o (qW M p):=by
 cases o with
 | none=>cases h; exact yG
 | some e=>
  simp only[cP,G6]at h;obtain⟨e',h1,rfl⟩:=h;exact yH (ih h1)
def pP (K:CtxOk M X Γ){n:G9}(ih:∀ {e:HB} {e':E},cE n Γ e=gV e'->GE X e (aA M e')){tg e:HB}{i:Ie}(h:cI Γ (cE n Γ) tg e=gV i):GI X tg e (ju M i):=by
 have gen:(cE n Γ e).map Ie.seq=gV i->GI X tg e (ju M i):=λh=>by
  rw[G6]at h;obtain⟨e',h1,rfl⟩:=h;exact y8 (ih h1)
 unfold cI at h;split at h
 ·rename_i x p a pos;split at h
  ·rename_i hc;rw[G8,G8]at hc;obtain⟨⟨h1,h2⟩,h3⟩:=hc;have hx:=eq_of_beq h1;subst hx;rw[G6]at h;obtain⟨r,hr,rfl⟩:=h;have ns:=bQ hr;rw[HW,G8]at ns;exact yW (ib K h2).1 (K.blt _ (by simpa using h3)) (cO ih hr) (aB ns.1)
  ·split at h
   ·rename_i hc;rw[G8,G8,G8]at hc;obtain⟨⟨⟨h1,h2⟩,h3⟩,h4⟩:=hc;have hx:=eq_of_beq h1;subst hx;rw[G6]at h;obtain⟨r,hr,rfl⟩:=h;have ns:=bQ hr;rw[HW,G8]at ns;cases tg with
    | Tuple els k0 tp=>exact zd (ib K h2).1 (K.blt _ (by simpa using h3)) (cO ih hr) (aB ns.1)
    | _=>cases h4
   ·exact gen h
 ·rename_i x p a b pos;split at h
  ·rename_i hc;rw[G8,G8]at hc;obtain⟨⟨h1,h2⟩,h3⟩:=hc;have hx:=eq_of_beq h1;subst hx;rw[G6]at h;obtain⟨r,hr,rfl⟩:=h;have ns:=bQ hr;rw[HW,HW,G8,G8]at ns;exact yX (ib K h2).1 (K.blt _ (by simpa using h3)) (cO ih hr) (by rw[aB ns.1,aB ns.2.1]; rfl) (aB ns.2.1)
  ·exact gen h
 ·exact gen h
def mU (K:CtxOk M X Γ){x:Hs}{i:G9}(h:de Γ x=gV i):X.N[i]?=gV x/\xA X.env.scope x/\(X.fn x=true\/X.env.scope.names.lookup x=gV .local):=by
 unfold de at h;split at h
 ·rename_i hc;show#[by rw[K.N]; exact bK h,?_]
  unfold L2.xA;rw[K.names];rw[Jc,G8]at hc;rcases hc with hc|⟨hd,hc⟩
  ·have:=eq_of_beq hc;exact#[.inl this,.inr this]
  ·rw[Jc]at hd;exact#[.inr (eq_of_beq hc),.inl (hd.elim (λhd=>K.dfn hd x) λhd=>K.own x (by simpa using hd))]
 ·cases h
def oy (K:CtxOk M X Γ):∀ {ts:G0 HB} {is:G0 G9},B5 Γ ts=gV is->(∀x∈ts,∃y p,x=M5 y p)/\Mf (λ(t:HB) (i:G9)=>∃x p,t=M5 x p/\X.N[i]?=gV x/\xA X.env.scope x/\(X.fn x=true\/X.env.scope.names.lookup x=gV .local)) ts is
 | [],is,h=>by cases h; exact#[λx hx=>by simp at hx,.nil]
 | t::ts,is,h=>by
  cases t with
  | Name x p=>
   dsimp only[B5]at h;split at h
   ·rename_i i is' h1 h2;cases h;obtain⟨a,b⟩:=oy K h2;exact#[λy hy=>(HF.mp hy).elim (λe=>#[x,p,e]) (a y),.cons #[x,p,rfl,mU K h1] b]
   ·cases h
  | _=>cases h
def gL {env:Na}:∀ {ts:G0 HB},(∀x∈ts,∃y p,x=M5 y p)->(assignEach ts env).length=ts.length/\(assignEach ts env).findIdx? (·.1)=td
 | [],_=>#[rfl,rfl]
 | t::ts,h=>by
  obtain⟨y,p,rfl⟩:=h t Ic;obtain⟨a,b⟩:=gL (env:=env) λx hx=>h x (HN _ hx)
  show#[by show(assignEach ts env).length+1=ts.length+1; rw[a],?_]
  change List.findIdx? (·.1) ((false,assign (.Name y p) env)::assignEach ts env)=td
  rw[List.findIdx?_cons,b];rfl
def oz (K:CtxOk M X Γ){tg:HB}{t:Tg}(h:cT Γ tg=gV t):GG X tg (fF t):=by
 have hN:X.N.Nodup:=by rw[K.N]; exact K.nd
 cases tg with
 | Name x p=>
  dsimp only[cT]at h; simp only[G6]at h
  obtain⟨i,h1,rfl⟩:=h;obtain⟨a,b,c⟩:=mU K h1;exact qU hN a b c
 | Tuple ts k p=>
  dsimp only[cT]at h; simp only[G6]at h
  obtain⟨is,h1,rfl⟩:=h;obtain⟨a,b⟩:=oy K h1;exact BS K.calm a b hN (gL a).1 (gL a).2
 | _=>cases h
end
abbrev eu (env:Na):G0 (Hs×IV)->G0 (Hs×Hb)->G0 (Hs×Hb)
 | [],cs=>cs
 | (n,k)::r,cs=>eu env r (if k==.free then(n,(env.cells.lookup n).getD 0)::cs else cs)
def iU {env:Na}:∀(names:G0 (Hs×IV)) (cs:G0 (Hs×Hb)),(∀y∈names,y.2=.free->(env.cells.lookup y.1).isSome=true)->
  (forIn names cs λx r=>match x with|(name,kind)=>if (kind==KO)=true then do let a <- cellOf env name; pure (Jl ((name,a)::r))else pure (Jl r):Pq (G0 (Hs×Hb)))=pure (eu env names cs)
 | [],cs,_=>by rw[MR]; rfl
 | (n,k)::r,cs,h=>by
  rw[Mv];have hr:=λy hy=>h y (HN _ hy)
  by_cases hk:(k==KO)=true
  ·obtain⟨c,hc⟩:=IA.mp (h (n,k) Ic (eq_of_beq hk));have e1:cellOf env n=pure c:=by unfold cellOf; rw[hc]
   simp only[hk,Ki,e1,pure_bind];rw[iU r _ hr];simp only[eu,hk,Ki,hc,Ma]
  ·have hk':(k==KO)=false:=by simpa using hk
   simp only[hk',IP,J1,pure_bind];rw[iU r _ hr];simp only[eu,hk',IP,J1]
def jv {scope:Kh}{env:Na}(h:∀y∈scope.names,y.2=.free->(env.cells.lookup y.1).isSome=true):closureFor scope env=pure (eu env scope.names []):=by
 have:=iU scope.names [] h;unfold closureFor;simp only[this,pure_bind]
def j5 {env:Na}:∀(names:G0 (Hs×IV)) (cs:G0 (Hs×Hb)),(∀y∈names,y.2=.free->(env.cells.lookup y.1).isSome=true)->(∀x c,cs.lookup x=gV c->env.cells.lookup x=gV c)->
  ∀x c,(eu env names cs).lookup x=gV c->env.cells.lookup x=gV c
 | [],cs,_,h,x,c,e=>h x c e
 | (n,k)::r,cs,hn,h,x,c,e=>by
  show j5 r _ (λy hy=>hn y (HN _ hy)) (λx c e=>?_) x c e
  split at e
  ·rename_i hk;rw[IC]at e;split at e
   ·rename_i hx;cases e;have:=eq_of_beq hx;subst this;obtain⟨c,hc⟩:=IA.mp (hn (x,k) Ic (eq_of_beq hk));rw[hc]; rfl
   ·exact h x c e
  ·exact h x c e
def jj {env:Na}{x:Hs}:∀(names:G0 (Hs×IV)) (cs:G0 (Hs×Hb)),(∃c,cs.lookup x=gV c)->∃c,(eu env names cs).lookup x=gV c
 | [],cs,h=>h
 | (n,k)::r,cs,h=>by
  show jj r _ ?_;split
  ·rw[IC];split
   ·exact#[_,rfl]
   ·exact h
  ·exact h
def j6 {env:Na}{x:Hs}:∀(names:G0 (Hs×IV)) (cs:G0 (Hs×Hb)),(x,KO)∈names->∃c,(eu env names cs).lookup x=gV c
 | [],cs,h=>by simp at h
 | (n,k)::r,cs,h=>by
  rcases HF.mp h with e|h
  ·cases e;show jj r _ ?_;simp[IC]
  ·exact j6 r _ h
def j7 {x:Hs}{k:IV}:∀ {l:G0 (Hs×IV)},l.lookup x=gV k->(x,k)∈l
 | [],h=>by simp at h
 | (n,j)::r,h=>by
  rw[IC]at h;split at h
  ·rename_i hx;cases h;have:=eq_of_beq hx;subst this;exact Ic
  ·exact HN _ (j7 h)
def ey {X:Cx}{M:Hs->FF}{Γ:Gam}(K:CtxOk M X Γ)(scope:Kh):(relabel scope X.env).names=fO scope.names Γ.sc:=by
 unfold relabel fO KT;rw[K.kind,K.names];show IG λ#[n,k] _=>?_
 have e:(Ny==Ny)=true:=rfl;simp only[e,LY]
def dZ {outer:G0 (Hs×IV)}{x:Hs}:∀ {names:G0 (Hs×IV)},(fO names outer).lookup x=(names.lookup x).map λk=>if (k==.free&&outer.lookup x==gV .cell)then .cell else k
 | []=>rfl
 | (n,k)::r=>by
  have ih:=dZ (outer:=outer) (x:=x) (names:=r);change List.lookup x ((if (k==KO&&outer.lookup n==gV .cell)=true then(n,Kr)else(n,k))::fO r outer)=_
  cases hx:x==n with
  | true=>
   have:=eq_of_beq hx;subst this;simp only[IC,II,HR];split <;> simp[IC]
  | false=>
   simp only[IC,hx];split <;> (simp only[IC,hx]; exact ih)
section
variable{M:Hs->FF}{X:Cx}{Γ:Gam}
structure ScOk (Γ:Gam)(scope:Kh):Prop where
 kind:scope.kind=.function
 names:∀y∈scope.names,y.2=.local->scope.names.lookup y.1=gV .local
 cell:∀y∈scope.names,y.2=.cell->scope.names.lookup y.1=gV .cell
 free:∀y∈scope.names,y.2=.free->zf (Γ.sc.lookup y.1)=true/\scope.names.lookup y.1=gV .free/\(Γ.N.findIdx? (· == y.1)).isSome=true
 nd:(gE scope.names).Nodup
def q8 {scope:Kh}(h:vp Γ scope=true):ScOk Γ scope:=by
 unfold vp at h;rw[G8,G8,G8,G8]at h;obtain⟨⟨⟨⟨h1,h2⟩,h3⟩,h4⟩,h5⟩:=h;show#[eq_of_beq h1,λy hy e=>?_,λy hy e=>?_,λy hy e=>?_,ID h5]
 ·have:=HC.mp h2 y hy;rw[e]at this
  simpa using this
 ·have:=HC.mp h3 y hy;rw[e]at this
  simpa using this
 ·have:=HC.mp h4 y hy;rw[e]at this;simp only[II,Nf,Ng,G8]at this;exact#[this.1.1,eq_of_beq this.1.2,this.2]
def q9 {o:G7 IV}(h:zf o=true):o=gV .cell\/o=gV .free:=by
 unfold zf at h;split at h
 ·exact .inl rfl
 ·exact .inr rfl
 ·cases h
def lK (K:CtxOk M X Γ)(ok:X.Ok){scope:Kh}(sc:ScOk Γ scope):CompOk X scope (eu X.env scope.names []) (gE scope.names) (gb Γ scope.names):=by
 have cells:∀y∈scope.names,y.2=.free->(X.env.cells.lookup y.1).isSome=true:=λy hy e=>by
  have hk:=q9 (sc.free y hy e).1;obtain⟨c,hc⟩:=ok.has y.1 (by unfold KT; rw[K.names]; exact hk)
  rw[hc]; rfl
 have relab:∀x,((relabel scope X.env).names.lookup x=gV .cell\/(relabel scope X.env).names.lookup x=gV .free)->(x,Kr)∈scope.names\/(x,KO)∈scope.names:=λx h=>by
  rw[ey K,dZ]at h;cases q:scope.names.lookup x with
  | none=>rw[q]at h; rcases h with h|h <;> cases h
  | some k=>
   rw[q]at h;have hm:=j7 q;cases k with
   | free=>exact .inr hm
   | cell=>exact .inl hm
   | _=>rcases h with h|h <;> simp at h
 show#[jv cells,sc.kind,sc.names,j5 _ _ cells (λx c e=>by cases e),λm x h=>iR _ _ _ ((relab x h).imp id λz=>j6 _ _ z),by simp[gb],λi j x hi hx=>?_]
 unfold gb at hi;rw[Hc,hx]at hi;simp only[HR,Ir]at hi;split at hi
 ·cases hi
 ·rename_i hl;have hx2:x∈gE scope.names:=Hn hx;unfold gE at hx2;obtain⟨⟨x',k⟩,hf,e⟩:=Hz.mp hx2;obtain⟨hm,hk⟩:=Ji.mp hf;have e':x'=x:=e;subst e';have hkf:k=.free:=by
   simp only[Jc]at hk;rcases hk with(hk|hk)|hk
   ·have:k=.local:=eq_of_beq hk;subst this;have:=sc.names (x',.local) hm rfl;rw[this]at hl;simp at hl
   ·have:k=.cell:=eq_of_beq hk;subst this;have:=sc.cell (x',.cell) hm rfl;rw[this]at hl;simp at hl
   ·exact eq_of_beq hk
  subst hkf;obtain⟨f1,f2,f3⟩:=sc.free _ hm rfl;show#[by rw[K.N]; exact bK hi,by unfold KT; rw[K.names]; exact q9 f1,?_,λz=>by rw[sc.cell _ z rfl]at f2; cases f2]
  rw[ey K,dZ,f2];simp only[HR,Ir,II,KN];split
  ·exact .inl rfl
  ·exact .inr rfl
def eI (K:CtxOk M X Γ){scope:Kh}(sc:ScOk Γ scope)(C:Hb)(s0:G5)(H0:Hp)(ex:G0 Hb):CtxOk M (kM X scope (eu X.env scope.names []) C (gE scope.names) s0 H0 ex) (gF Γ scope) where
 names:=ey K scope
 kind:=sc.kind
 N:=rfl
 nd:=sc.nd
 calm:=K.calm
 xe:=rfl
 un:=K.un
 dfn:=λh=>by cases h
 own:=λx h=>by
  obtain⟨⟨y,k⟩,hy,e⟩:=Hz.mp h;obtain⟨hm,hk⟩:=Ji.mp hy;have e':y=x:=e;subst e';exact Lj.mpr #[(y,k),hm,by simpa using hk]
 blt:=K.blt
 fns:=K.fns
def oA {cs:Es}{n:G9}{ifs:G0 HB}{Γ:Gam}(hl:ifs.length<=1)(hc:cA (cE n Γ) ifs=gV cs){Yq:Cx}(ih:∀ {e:HB} {e':E},cE n Γ e=gV e'->GT Yq e (cM M e'))(hx:Yq.xe=λ_ _=>IJ) :
  ∀J s Y H Q,Inv Yq J Y H s->tT Yq (ze M cs) Y H Q->
  wpAny (model Yq.prog Yq.w) Yq.A (forIn ifs true λc r=>if r=true then do let ok <- isTrue c Yq.env (eval c Yq.env); pure (Jl ok)else pure (Jl r)) (TP Yq J Y Q) (λ_ _=>IJ) s:=by
 intro J s Y H Q I h
 match ifs,hl,hc with
 | [],_,hc=>
  cases hc;obtain⟨A,Z,S,k,S',er,so,e,hq⟩:=h;cases e;exact wpAny_tests_nil #[H,I,hq _ _ #[rfl,A,.refl,so]]
 | [c],_,hc=>
  obtain⟨e',es',h1,h2,rfl⟩:=hX hc;cases h2;have:=ih h1 J s Y H Q I h;rw[hx]at this;exact wpAny_tests_one this
def bC:∀(n:G9) {Γ:Gam} {X:Cx} {e:HB} {e':E},CtxOk M X Γ->cE n Γ e=gV e'->GE X e (aA M e')/\GT X e (cM M e'):=by
 intro n
 induction n with
 | zero=>intro Γ X e e' K h; cases h
 | succ n ih=>
  intro Γ X e e' K h;have ihE:∀ {e:HB} {e':E},cE n Γ e=gV e'->GE X e (aA M e'):=λq=>(ih K q).1
  have ihT:∀ {e:HB} {e':E},cE n Γ e=gV e'->GT X e (cM M e'):=λq=>(ih K q).2
  have hu10:X.A.units+10 < cLine:=by have:=K.un; have:fI=20:=rfl; omega
  cases e with
  | Constant c k p=>
   cases c <;> cases h
   all_goals first
    | exact#[n8 tM (λ_ _=>.non),cD (n8 tM (λ_ _=>.non)) λ_=>rfl]
    | exact#[n8 Ab (λ_ _=>.bl),cD (n8 Ab (λ_ _=>.bl)) λ_=>rfl]
    | exact#[n8 tL (λ_ _=>.int),cD (n8 tL (λ_ _=>.int)) λ_=>rfl]
    | exact#[n8 tN (λ_ _=>.str),cD (n8 tN (λ_ _=>.str)) λ_=>rfl]
  | Name x p=>
   replace h:(match slot Γ x with|some i=>gV (E.v i)|none=>td)=gV e':=h
   split at h
   ·rename_i i h1;cases h;exact#[vx K h1,cD (vx K h1) λ_=>rfl]
   ·cases h
  | BinOp a op b p=>
   replace h:(match qX op,cE n Γ a,cE n Γ b with|some o,gV a',gV b'=>gV (E.op o a' b')|_,_,_=>td)=gV e':=h
   split at h
   ·rename_i o a' b' h1 h2 h3;cases h;have e:=vy h1;subst e;exact#[Ah (qD o) (ihE h2) (ihE h3),cD (Ah (qD o) (ihE h2) (ihE h3)) λ_=>rfl]
   ·cases h
  | UnaryOp op a p=>
   cases op with
   | Not=>
    replace h:(cE n Γ a).map E.not=gV e':=h;rw[G6]at h;obtain⟨a',h1,rfl⟩:=h;exact#[BK (ihE h1),BH (ihT h1)]
   | USub=>
    replace h:(cE n Γ a).map E.neg=gV e':=h;rw[G6]at h;obtain⟨a',h1,rfl⟩:=h;exact#[uQ (ihE h1),cD (uQ (ihE h1)) λ_=>rfl]
   | _=>exact ap h
  | BoolOp op vs p=>
   replace h:cB (cE n Γ) op vs=gV e':=h;exact#[mS ihE h,(mT ihT h).pt]
  | Compare a ops cs p=>
   match ops,cs,h with
   | [op],[b],h=>
    replace h:(match ji op,cE n Γ a,cE n Γ b with|some o,gV a',gV b'=>gV (E.cmp o a' b')|_,_,_=>td)=gV e':=h
    split at h
    ·rename_i o a' b' h1 h2 h3;cases h;have e:=j3 h1;subst e;exact#[BC K.un (ihE h2) (ihE h3) (ic h3),BE K.un (ihE h2) (ihE h3) (ic h3)]
    ·cases h
   | [],_,h=>exact ap h
   | [_],[],h=>exact ap h
   | [_],_::_::_,h=>exact ap h
   | [op,op'],[b,d],h=>
    replace h:(match ji op,ji op',cE n Γ a,cE n Γ b,cE n Γ d with|some o,gV o',gV a',gV b',gV d'=>gV (E.chn o o' a' b' d')|_,_,_,_,_=>td)=gV e':=h
    split at h
    ·rename_i o o' a' b' d' h1 h2 h3 h4 h5;cases h;have e:=j3 h1;subst e;have e:=j3 h2;subst e;exact#[uR K.un (ihE h3) (ihE h4) (ihE h5) (ic h5),uS K.un (ihE h3) (ihE h4) (ihE h5) (ic h5)]
    ·cases h
   | [_,_],[],h=>exact ap h
   | [_,_],[_],h=>exact ap h
   | [_,_],_::_::_::_,h=>exact ap h
   | _::_::_::_,_,h=>exact ap h
  | IfExp t a b p=>
   replace h:(match cE n Γ t,cE n Γ a,cE n Γ b with|some t',gV a',gV b'=>gV (E.ite t' a' b')|_,_,_=>td)=gV e':=h
   split at h
   ·rename_i t' a' b' h1 h2 h3;cases h;exact#[BL (ihT h1) (ihE h2) (ihE h3),hZ]
   ·cases h
  | Call f args kws p=>
   cases kws with
   | cons _ _=>
    cases f with
    | Subscript v i q=>
     cases v with
     | List l q3=>
      rcases l with _|⟨a1,_|⟨a2,_|⟨a3,l⟩⟩⟩
      ·first|(exact ap h)|(cases args <;> (exact ap h))
      ·cases a1 <;> first|(exact ap h)|(cases args <;> (exact ap h))
      ·cases a1 <;> first|(exact ap h)|(cases args <;> (exact ap h))|(cases a2 <;> first|(exact ap h)|(cases args <;> (exact ap h)))
      ·cases a1 <;> first|(exact ap h)|(cases args <;> (exact ap h))|(cases a2 <;> first|(exact ap h)|(cases args <;> (exact ap h)))
     | _=>first|(exact ap h)|(cases args <;> (exact ap h))
    | _=>first|(exact ap h)|(cases args <;> (exact ap h))
   | nil=>
    cases f with
    | Name x q=>
     replace h:(if gz Γ x then match Γ.fns.lookup x with|some k=>(cA (cE n Γ) args).map (E.own x k)|none=>if x==("isinstance" : Hs)then(if Γ.blt.contains x then zm Γ (cE n Γ) args else td)else match (generalizing:=false) zh x,args with|some b,a::as=>if Γ.blt.contains x then(cA (cE n Γ) (a::as)).map (E.bi b)else td|_,_=>td else td)=gV e':=h
     split at h
     ·rename_i hg;split at h
      ·rename_i k hk;rw[G6]at h;obtain⟨r,hr,rfl⟩:=h;have g:=DO (pos:=p) (p:=q) K hg hk hr (cO ihE hr);exact#[g,cD g λ_=>rfl]
      ·split at h
       ·rename_i his;split at h
        ·rename_i hc;obtain⟨g,a',c',rfl⟩:=DQ (pos:=p) (p:=q) K hg his hc ihE h;exact#[g,cD g λ_=>rfl]
        ·cases h
       ·split at h
        ·rename_i bb a as hb;split at h
         ·rename_i hc;rw[G6]at h;obtain⟨r,hr,rfl⟩:=h;have g:=FY (pos:=p) (p:=q) K hg hb hc hr (cO ihE hr);exact#[g,cD g λ_=>rfl]
         ·cases h
        ·cases h
     ·cases h
    | Subscript v i q=>
     cases args with
     | nil=>
      cases v with
      | List l q3=>
       rcases l with _|⟨a1,_|⟨a2,_|⟨a3,l⟩⟩⟩
       ·exact ap h
       ·cases a1 <;> (exact ap h)
       ·cases a1 <;> first|(exact ap h)|(cases a2 <;> (exact ap h))
       ·cases a1 <;> first|(exact ap h)|(cases a2 <;> (exact ap h))
      | _=>exact ap h
     | cons a as=>
      cases v with
      | List l q3=>
       rcases l with _|⟨a1,_|⟨a2,_|⟨a3,l⟩⟩⟩
       ·exact ap h
       ·cases a1 <;> (exact ap h)
       ·cases a1 with
        | Name x p1=>
         cases a2 with
         | Name y p2=>
          replace h:(match Γ.fns.lookup x,Γ.fns.lookup y,cE n Γ i,cA (cE n Γ) (a::as)with|some k,gV k',gV i',gV es=>if gz Γ x&&gz Γ y&&decide (k=k')then gV (E.ow2 x y k i' es)else td|_,_,_,_=>td)=gV e':=h
          split at h
          ·rename_i k k' i' es h1 h2 h3 h4;split at h
           ·rename_i hc;rw[G8,G8,HM]at hc;obtain⟨⟨c1,c2⟩,rfl⟩:=hc;cases h;exact#[DP K c1 c2 h1 h2 (ihE h3) (j4 h3) h4 (cO ihE h4),hZ]
           ·cases h
          ·cases h
         | _=>exact ap h
        | _=>exact ap h
       ·cases a1 <;> first|(exact ap h)|(cases a2 <;> (exact ap h))
      | _=>exact ap h
    | Attribute o m q=>
     cases args with
     | nil=>exact ap h
     | cons a as=>
      replace h:(match zj m,cE n Γ o,cA (cE n Γ) (a::as)with|some m',gV o',gV es=>if ga o&&(q.endLine==p.line)&&decide ((a::as).length < 29)then gV (E.me m' o' es)else td|_,_,_=>td)=gV e':=h
      split at h
      ·rename_i m' o' es h1 h2 h3;split at h
       ·rename_i hc;rw[G8,G8,HM]at hc;cases h;have g:=FZ K (cpos:=p) (apos:=q) h1 hc.1.1 hc.1.2 hc.2 (ihE h2) h3 (cO ihE h3);exact#[g,cD g λ_=>rfl]
       ·cases h
      ·cases h
    | _=>exact ap h
  | Subscript a b p=>
   have plain:(match cE n Γ a,cE n Γ b with|some a',gV b'=>gV (E.ix a' b')|_,_=>td)=gV e'->GE X (.Subscript a b p) (aA M e')/\GT X (.Subscript a b p) (cM M e'):=λh=>by
    split at h
    ·rename_i a' b' h1 h2;cases h;have g:=DE (pos:=p) hu10 (ihE h1) (ihE h2) (j4 h2);exact#[g,cD g λ_=>rfl]
    ·cases h
   cases b with
   | Slice lo hi st q=>
    cases st with
    | none=>
     replace h:(match cE n Γ a,cP (cE n Γ) lo,cP (cE n Γ) hi with|some a',gV lo',gV hi'=>gV (E.sl a' lo' hi')|_,_,_=>td)=gV e':=h
     split at h
     ·rename_i a' lo' hi' h1 h2 h3;cases h;have g:=DF (pos:=p) (p2:=q) (ihE h1) (vA ihE h2) (vA ihE h3);exact#[g,cD g λ_=>rfl]
     ·cases h
    | some z=>exact plain h
   | _=>exact plain h
  | Tuple es k p=>
   replace h:(cA (cE n Γ) es).map E.tup=gV e':=h;rw[G6]at h;obtain⟨r,h1,rfl⟩:=h;exact#[uX (cO ihE h1),cD (uX (cO ihE h1)) λ_=>rfl]
  | List es p=>
   replace h:(cA (cE n Γ) es).map E.lst=gV e':=h;rw[G6]at h;obtain⟨r,h1,rfl⟩:=h;exact#[uY (cO ihE h1),cD (uY (cO ihE h1)) λ_=>rfl]
  | Dict keys values p=>
   replace h:vt (cE n Γ) keys values=gV e':=h;unfold vt at h;split at h
   ·rename_i hc;cases h;rw[G8]at hc;have k0:keys=[]:=Mb.mp hc.1;have v0:values=[]:=Mb.mp hc.2;subst k0 v0;exact#[y4,hZ]
   ·rename_i hc0;split at h
    ·rename_i hc;rw[G8,G8,HM,HM]at hc;rw[G6]at h;obtain⟨r,hr,rfl⟩:=h;have h0:keys≠[]:=λz=>by
      subst z;have v0:values=[]:=Kg.mp hc.1.2.symm;subst v0;exact hc0 rfl
     exact#[y6 (pos:=p) hu10 (qZ ihE keys values hc.1.1 hc.1.2 hr) hc.1.1 hc.1.2 h0 hc.2,hZ]
    ·cases h
  | ListComp elt gens scope p=>
   match gens,h with
   | [#[tg,iter,ifs,asy]],h=>
    replace h:(if (asy==0)&&(vp Γ scope&&decide (ifs.length<=1))then match cI Γ (cE n Γ) tg iter,cT (gF Γ scope) tg,cA (cE n (gF Γ scope)) ifs,cE n (gF Γ scope) elt with|some it,gV t,gV cs,gV el=>gV (E.comp el t it cs (gb Γ scope.names))|_,_,_,_=>td else td)=gV e':=h
    split at h
    ·rename_i hc;rw[G8,G8,HM]at hc;have e0:asy=0:=eq_of_beq hc.1;subst e0;replace hc:=hc.2;split at h
     ·rename_i it t cs el h1 h2 h3 h4;cases h;have sc:=q8 hc.1;show#[y9 K.calm (pP K ihE h1) (λok=>#[_,lK K ok sc,?_]) (mR (n:=n) (λel k p=>by cases n <;> rfl) h1),hZ]
      show#[λC s0 H0 ex=>oz (eI K sc C s0 H0 ex) h2,λC s0 H0 ex J s Y H Q I q=>?_,λC s0 H0 ex=>(ih (eI K sc C s0 H0 ex) h4).1]
      exact oA hc.2 h3 (λz=>(ih (eI K sc C s0 H0 ex) z).2) rfl J s Y H Q I q
     ·cases h
    ·cases h
   | [],h=>exact ap h
   | #[_,_,_,_]::_::_,h=>exact ap h
  | _=>exact ap h
end
noncomputable abbrev bH:G9:=30
abbrev Al:HB->HA
 | .Constant (.str _) _ _=>true
 | _=>false
abbrev iV:HB->HA
 | .ListComp _ _ _ _=>true
 | _=>false
abbrev rc:HB->HA
 | .Slice _ _ _ _=>true
 | _=>false
abbrev re (f:J8->G7 Sm)(ss:G0 J8):G7 Ss:=ss.foldr (λs acc=>match f s,acc with|some s',gV ss'=>gV (.cons s' ss')|_,_=>td) (gV .nil)
abbrev DR (Γ:Gam):G0 HB->HB->G7 Sm
 | [.Name x px,.Name y py],.Tuple [a,b] _ _=>match Γ.N.findIdx? (· == x),Γ.N.findIdx? (· == y),cA (cE bH Γ) [a,b]with
  | some i,gV j,gV es=>if !(i==j)&&(Γ.sc.lookup x==gV .local)&&(Γ.sc.lookup y==gV .local)&&(py.line==px.line) && !([a,b].all (foldedForSure 8)) && !([a,b].all (constantsAlone 8))then gV (.par i j es)else td
  | _,_,_=>td
 | _,_=>td
abbrev DS (Γ:Gam):G0 HB->HB->G7 Sm
 | [.Name x px,.Name y py,.Name z pz],.Tuple [a,b,c] _ _=>match Γ.N.findIdx? (· == x),Γ.N.findIdx? (· == y),Γ.N.findIdx? (· == z),cA (cE bH Γ) [a,b,c]with
  | some i,gV j,gV l,gV es=>if !(i==j) && !(i==l) && !(j==l)&&(Γ.sc.lookup x==gV .local)&&(Γ.sc.lookup y==gV .local)&&(Γ.sc.lookup z==gV .local)&&(py.line==px.line)&&(pz.line==px.line) && !([a,b,c].all (foldedForSure 8)) && !([a,b,c].all (constantsAlone 8))then gV (.pr3 i j l es)else td
  | _,_,_,_=>td
 | _,_=>td
abbrev B6:HB->HA
 | .Tuple vs _ _=>vs.all (foldedForSure 8)
 | _=>false
abbrev B7 (Γ:Gam)(ts:G0 HB)(e:HB):G7 Sm:=if B6 e then(match B5 Γ ts,cE bH Γ e with
 | some is,gV e'=>gV (.asg is e')
 | _,_=>td)else if ts.length=3 then DS Γ ts e else DR Γ ts e
abbrev cS:G9->Gam->J8->G7 Sm
 | 0,_,_=>td
 | n+1,Γ,st=>match st with
  | .Assign [.Name x _] e _=>match de Γ x,cE bH Γ e with
   | some i,gV e'=>gV (.set i e')
   | _,_=>td
  | .Assign [.Tuple ts _ _] e _=>if isTup e then B7 Γ ts e else if iV e then td else match B5 Γ ts,cE bH Γ e with
   | some is,gV e'=>gV (.asg is e')
   | _,_=>td
  | .Assign [.Subscript o k _] e _=>if rc k then td else match cE bH Γ o,cE bH Γ k,cE bH Γ e with
   | some o',gV k',gV e'=>gV (.put o' k' e')
   | _,_,_=>td
  | .Expr e _=>if Al e then gV .pass else if iV e then td else(cE bH Γ e).map .ex
  | .Return (gV e) _=>(cE bH Γ e).map .ret
  | .Pass _=>gV .pass
  | .If t a b _=>match cE bH Γ t,re (cS n Γ) a,re (cS n Γ) b with
   | some t',gV a',gV b'=>gV (.ite t' a' b')
   | _,_,_=>td
  | .While t b [] _=>match cE bH Γ t,re (cS n Γ) b with
   | some t',gV b'=>gV (.whl t' b')
   | _,_=>td
  | .For tg it b [] _=>match cT Γ tg,cI Γ (cE bH Γ) tg it,re (cS n Γ) b with
   | some t,gV i,gV b'=>gV (.loop t i b')
   | _,_,_=>td
  | _=>td
section
variable{M:Hs->FF}{X:Cx}{Γ:Gam}{fuel:G9}
def vB {f:J8->G7 Sm}{s:J8}{ss:G0 J8}{r:Ss}(h:re f (s::ss)=gV r):∃s' ss',f s=gV s'/\re f ss=gV ss'/\r=.cons s' ss':=by
 simp only[re,Ox]at h;split at h
 ·rename_i e' es' h1 h2;cases h;exact#[e',es',h1,h2,rfl]
 ·cases h
def gd {n:G9}(ih:∀ {st:J8} {s':Sm},cS n Γ st=gV s'->GS X st (fD M fuel s')):∀ {ss:G0 J8} {r:Ss},re (cS n Γ) ss=gV r->GSs X ss (fN M fuel r)
 | [],r,h=>by cases h; exact yJ
 | s::ss,r,h=>by
  obtain⟨s',ss',h1,h2,rfl⟩:=vB h;exact uZ (ih h1) (gd ih h2)
def j8 {e:HB}{t:G7 HB}{l:G9}{env:Na}(h:iV e=false)(n:G9){Γ:Gam}{e':E}(hc:cE n Γ e=gV e'):swapsWith e t l env=pure false:=by
 cases n with
 | zero=>cases hc
 | succ n=>cases e <;> first|(exfalso; exact ap hc)|rfl|cases h
def pQ (K:CtxOk M X Γ){n:G9}{elt:HB}{gens:G0 Comprehension}{scope:Kh}{p:JE}{e':E}(h:cE (n+1) Γ (.ListComp elt gens scope p)=gV e') :
  ∃tg iter ifs fi g c f cap,gens=[#[tg,iter,ifs,0]]/\aA M e'=jY fi g c f cap/\GI X tg iter fi/\(X.Ok->∃cl,CompOk X scope cl (gE scope.names) cap/\BlockOk X scope cl (gE scope.names) tg elt ifs g c f)/\∀x,foldedSetIterable iter X.env x=pure x:=by
 match gens,h with
 | [#[tg,iter,ifs,asy]],h=>
  replace h:(if (asy==0)&&(vp Γ scope&&decide (ifs.length<=1))then match cI Γ (cE n Γ) tg iter,cT (gF Γ scope) tg,cA (cE n (gF Γ scope)) ifs,cE n (gF Γ scope) elt with|some it,gV t,gV cs,gV el=>gV (E.comp el t it cs (gb Γ scope.names))|_,_,_,_=>td else td)=gV e':=h
  split at h
  ·rename_i hc;rw[G8,G8,HM]at hc;have e0:asy=0:=eq_of_beq hc.1;subst e0;replace hc:=hc.2;split at h
   ·rename_i it t cs el h1 h2 h3 h4;cases h;have sc:=q8 hc.1;show#[tg,iter,ifs,_,_,_,_,_,rfl,rfl,pP K (λz=>(bC n K z).1) h1,λok=>#[_,lK K ok sc,?_],mR (n:=n) (λel k p=>by cases n <;> rfl) h1]
    show#[λC s0 H0 ex=>oz (eI K sc C s0 H0 ex) h2,λC s0 H0 ex J s Y H Q I q=>?_,λC s0 H0 ex=>(bC n (eI K sc C s0 H0 ex) h4).1]
    exact oA hc.2 h3 (λz=>(bC n (eI K sc C s0 H0 ex) z).2) rfl J s Y H Q I q
   ·cases h
  ·cases h
 | [],h=>exact ap h
 | #[_,_,_,_]::_::_,h=>exact ap h
def DT (K:CtxOk M X Γ){x:Hs}{px pos:JE}{e:HB}{i:G9}{e':E}(hi:de Γ x=gV i)(he:cE bH Γ e=gV e'):GS X (.Assign [.Name x px] e pos) (jW (aA M e') (Ai i)):=by
 obtain⟨a,b,c⟩:=mU K hi;have hN:X.N.Nodup:=by rw[K.N]; exact K.nd
 have plain:swapsWith e (gV (.Name x px)) pos.line X.env=pure false->GS X (.Assign [.Name x px] e pos) (jW (aA M e') (Ai i)):=λhs=>mO (bC _ K he).1 (qU hN a b c) hs (by cases e <;> rfl) rfl
 cases hc:iV e with
 | false=>exact plain (j8 hc _ he)
 | true=>
  cases e with
  | ListComp elt gens scope p=>
   cases hsw:(X.env.blockKind==.function&&X.env.kindOf x==gV .local&&px.line==p.line && !(scope.names.any λ(n,k)=>n==x&&(k==.local||k==.cell)))with
   | false=>
    show plain ?_;show(pure (X.env.blockKind==.function&&X.env.kindOf x==gV .local&&px.line==p.line && !(scope.names.any λ(n,k)=>n==x&&(k==.local||k==.cell))):Pq HA)=pure false
    rw[hsw]
   | true=>
    have hsw':swapsWith (.ListComp elt gens scope p) (gV (.Name x px)) pos.line X.env=pure true:=by
     show(pure (X.env.blockKind==.function&&X.env.kindOf x==gV .local&&px.line==p.line && !(scope.names.any λ(n,k)=>n==x&&(k==.local||k==.cell))):Pq HA)=pure true
     rw[hsw]
    rw[G8,G8,G8]at hsw;have hl:X.env.scope.names.lookup x=gV .local:=eq_of_beq hsw.1.1.2;obtain⟨tg,iter,ifs,fi,g,c',f,cap,rfl,e2,gi,hck,hs⟩:=pQ K he;rw[e2];exact pN K.calm gi hck hs hsw' hN a hl
  | _=>cases hc
def oB (K:CtxOk M X Γ){x y:Hs}{px py pt pt2:JE}{kt k2:G9}{a b:HB}(hxy:x≠y)(hx:Γ.sc.lookup x=gV .local)(hy:Γ.sc.lookup y=gV .local)(hl:(py.line==px.line)=true)(h1:[a,b].all (foldedForSure 8)=false)(h2:[a,b].all (constantsAlone 8)=false)(hs:fP a=true)(hs2:fP b=true) :
  swappedStores [.Tuple [.Name x px,.Name y py] kt pt] (.Tuple [a,b] k2 pt2) X.env=pure (gV [x,y]):=by
 have kx:(X.env.kindOf x==gV .local)=true:=by unfold KT; rw[K.names,hx]; rfl
 have ky:(X.env.kindOf y==gV .local)=true:=by unfold KT; rw[K.names,hy]; rfl
 have bk:(X.env.blockKind != .function)=false:=by
  unfold Pb;rw[K.kind];rfl
 have hp:(px.line==px.line)=true:=by simp
 have ed:([x,y].eraseDups.length != [x,y].length)=false:=by
  have:(y==x)=false:=by simpa using Ne.symm hxy
  simp[Lp,this]
 have kx':X.env.kindOf x=gV .local:=eq_of_beq kx;have ky':X.env.kindOf y=gV .local:=eq_of_beq ky;have hl':py.line=px.line:=eq_of_beq hl;have bk':X.env.blockKind=.function:=by simpa using bk
 have yx:(y==x)=false:=by simpa using Ne.symm hxy
 have h1':(foldedForSure 8 a&&foldedForSure 8 b)=false:=by simpa using h1
 have h2':(constantsAlone 8 a&&constantsAlone 8 b)=false:=by simpa using h2
 unfold swappedStores;simp only[JO,Pk,Nd,J9,Nz,kx',ky',bk',Oy,HR,Ma,Ih,Jk,HW,Pl,LY,h1',h2'];show Eq.trans (HX ?_) (Eq.trans (HX ?_) ?_)
 ·decide
 ·rw[Jc];rintro(hh|hh)
  ·clear h1 h2 h1' h2';cases a <;> first|(cases hh; done)|(cases hs; done)
  ·clear h1 h2 h1' h2';cases b <;> first|(cases hh; done)|(cases hs2; done)
 ·dsimp only[Qf]; simp[hl',yx,Lp]
def oD (K:CtxOk M X Γ){x y z:Hs}{px py pz pt pt2:JE}{kt k2:G9}{a b c:HB}(hxy:x≠y)(hxz:x≠z)(hyz:y≠z)(hx:Γ.sc.lookup x=gV .local)(hy:Γ.sc.lookup y=gV .local)(hz:Γ.sc.lookup z=gV .local)(hl:(py.line==px.line)=true)(hm:(pz.line==px.line)=true)(h1:[a,b,c].all (foldedForSure 8)=false)(h2:[a,b,c].all (constantsAlone 8)=false)(hs:[a,b,c].all fP=true) :
  swappedStores [.Tuple [.Name x px,.Name y py,.Name z pz] kt pt] (.Tuple [a,b,c] k2 pt2) X.env=pure (gV [x,y,z]):=by
 have kx':X.env.kindOf x=gV .local:=by unfold KT; rw[K.names,hx]
 have ky':X.env.kindOf y=gV .local:=by unfold KT; rw[K.names,hy]
 have kz':X.env.kindOf z=gV .local:=by unfold KT; rw[K.names,hz]
 have bk':X.env.blockKind=.function:=by
  unfold Pb;rw[K.kind];rfl
 have hl':py.line=px.line:=eq_of_beq hl;have hm':pz.line=px.line:=eq_of_beq hm;have yx:(y==x)=false:=by simpa using Ne.symm hxy
 have zx:(z==x)=false:=by simpa using Ne.symm hxz
 have zy:(z==y)=false:=by simpa using Ne.symm hyz
 have h1':(foldedForSure 8 a&&(foldedForSure 8 b&&foldedForSure 8 c))=false:=by simpa [ML]using h1
 have h2':(constantsAlone 8 a&&(constantsAlone 8 b&&constantsAlone 8 c))=false:=by simpa [ML]using h2
 rw[HW,HW,HW,G8,G8,G8]at hs;obtain⟨hs1,hs2,hs3,_⟩:=hs;unfold swappedStores;simp only[JO,Pk,Nd,J9,Nz,kx',ky',kz',bk',Oy,HR,Ma,Ih,Jk,HW,Pl,LY,h1',h2'];show Eq.trans (HX ?_) (Eq.trans (HX ?_) ?_)
 ·decide
 ·rw[Jc,Jc];rintro(hh|hh|hh)
  ·clear h1 h2 h1' h2';cases a <;> first|(cases hh; done)|(cases hs1; done)
  ·clear h1 h2 h1' h2';cases b <;> first|(cases hh; done)|(cases hs2; done)
  ·clear h1 h2 h1' h2';cases c <;> first|(cases hh; done)|(cases hs3; done)
 ·dsimp only[Qf]; simp[hl',hm',yx,zx,zy,Lp]
def zo (fuel:G9)(K:CtxOk M X Γ):∀(n:G9) {st:J8} {s':Sm},cS n Γ st=gV s'->GS X st (fD M fuel s'):=by
 have hN:X.N.Nodup:=by rw[K.N]; exact K.nd
 have own:M3 (model X.prog X.w) X.A X.env X.xe:=by rw[K.xe]; exact Qa
 intro n
 induction n with
 | zero=>intro st s' h; cases h
 | succ n ih=>
  intro st s' h;cases st with
  | Expr e p=>
   replace h:(if Al e then gV Sm.pass else if iV e then td else(cE bH Γ e).map Sm.ex)=gV s':=h
   split at h
   ·rename_i hd;cases h;cases e with
    | Constant c k q=>
     cases c with
     | str x=>exact BQ
     | _=>cases hd
    | _=>cases hd
   ·split at h
    ·cases h
    ·rename_i hd hc;rw[G6]at h;obtain⟨e',h1,rfl⟩:=h;exact DH (bC _ K h1).1 (j8 (by simpa using hc) _ h1)
  | Return o p=>
   cases o with
   | none=>cases h
   | some e=>
    replace h:(cE bH Γ e).map Sm.ret=gV s':=h;rw[G6]at h;obtain⟨e',h1,rfl⟩:=h;exact BR (bC _ K h1).1
  | Pass p=>cases h; exact yM
  | If t a b p=>
   replace h:(match cE bH Γ t,re (cS n Γ) a,re (cS n Γ) b with|some t',gV a',gV b'=>gV (Sm.ite t' a' b')|_,_,_=>td)=gV s':=h
   split at h
   ·rename_i t' a' b' h1 h2 h3;cases h;exact DI (bC _ K h1).2 (gd ih h2) (gd ih h3)
   ·cases h
  | While t b o p=>
   cases o with
   | cons _ _=>exact ap h
   | nil=>
    replace h:(match cE bH Γ t,re (cS n Γ) b with|some t',gV b'=>gV (Sm.whl t' b')|_,_=>td)=gV s':=h
    split at h
    ·rename_i t' b' h1 h2;cases h;exact u5 fuel own (bC _ K h1).2 (gd ih h2)
    ·cases h
  | For tg it b o p=>
   cases o with
   | cons _ _=>exact ap h
   | nil=>
    replace h:(match cT Γ tg,cI Γ (cE bH Γ) tg it,re (cS n Γ) b with|some t,gV i,gV b'=>gV (Sm.loop t i b')|_,_,_=>td)=gV s':=h
    split at h
    ·rename_i t i b' h1 h2 h3;cases h;exact B0 own K.calm (pP K (λz=>(bC _ K z).1) h2) (oz K h1) (gd ih h3) (mR (n:=bH) (λel k p=>rfl) h2)
    ·cases h
  | Assign ts e p=>
   match ts,h with
   | [],h=>exact ap h
   | a::_::_,h=>cases a <;> exact ap h
   | [t],h=>
    cases t with
    | Name x px=>
     replace h:(match de Γ x,cE bH Γ e with|some i,gV e'=>gV (Sm.set i e')|_,_=>td)=gV s':=h
     split at h
     ·rename_i i e' h1 h2;cases h;exact DT K h1 h2
     ·cases h
    | Subscript o k q=>
     replace h:(if rc k then td else match cE bH Γ o,cE bH Γ k,cE bH Γ e with|some o',gV k',gV e'=>gV (Sm.put o' k' e')|_,_,_=>td)=gV s':=h
     split at h
     ·cases h
     ·rename_i hc;split at h
      ·rename_i o' k' e' h1 h2 h3;cases h;show mO (bC _ K h3).1 (BU (by have:=K.un; have:fI=20:=rfl; omega) (bC _ K h1).1 (bC _ K h2).1 ?_) (by cases e <;> rfl) (by cases e <;> rfl) rfl
       intro v;cases k <;> first|rfl|exact absurd rfl hc
      ·cases h
    | Tuple ts' k q=>
     have par:∀ {x y:Hs} {px py:JE} {a b:P0} {k2:G9} {q2:JE},(match Γ.N.findIdx? (· == x),Γ.N.findIdx? (· == y),cA (cE bH Γ) [a,b]with
       | some i,gV j,gV es=>if !(i==j)&&(Γ.sc.lookup x==gV .local)&&(Γ.sc.lookup y==gV .local)&&(py.line==px.line) && !([a,b].all (foldedForSure 8)) && !([a,b].all (constantsAlone 8))then gV (Sm.par i j es)else td
       | _,_,_=>td)=gV s'->GS X (.Assign [.Tuple [.Name x px,.Name y py] k q] (.Tuple [a,b] k2 q2) p) (fD M fuel s'):=λ{x y px py a b k2 q2} h=>by
      split at h
      ·rename_i i j es h1 h2 h3;split at h
       ·rename_i hc;cases h;rw[G8,G8,G8,G8,G8]at hc;obtain⟨⟨⟨⟨⟨c1,c2⟩,c3⟩,c4⟩,c5⟩,c6⟩:=hc;have hij:i≠j:=by simpa using c1
        have ns:=bQ h3;rw[HW,HW,G8,G8]at ns;have hi:X.N[i]?=gV x:=by rw[K.N]; exact bK h1
        have hj:X.N[j]?=gV y:=by rw[K.N]; exact bK h2
        show BV K.calm hN hi hj hij (by rw[K.names]; exact eq_of_beq c2) (by rw[K.names]; exact eq_of_beq c3) (cO (λz=>(bC _ K z).1) h3) (oB K ?_ (eq_of_beq c2) (eq_of_beq c3) c4 (by rw[<- Js]; exact c5) (by rw[<- Js]; exact c6) ns.1 ns.2.1) rfl
        rintro rfl;rw[h1]at h2;cases h2;exact hij rfl
       ·cases h
      ·cases h
     replace h:(if isTup e then B7 Γ ts' e else if iV e then td else match B5 Γ ts',cE bH Γ e with|some is,gV e'=>gV (Sm.asg is e')|_,_=>td)=gV s':=h
     have pr3:∀ {x y z:Hs} {px py pz:JE} {a b c:P0} {k2:G9} {q2:JE},(match Γ.N.findIdx? (· == x),Γ.N.findIdx? (· == y),Γ.N.findIdx? (· == z),cA (cE bH Γ) [a,b,c]with
       | some i,gV j,gV l,gV es=>if !(i==j) && !(i==l) && !(j==l)&&(Γ.sc.lookup x==gV .local)&&(Γ.sc.lookup y==gV .local)&&(Γ.sc.lookup z==gV .local)&&(py.line==px.line)&&(pz.line==px.line) && !([a,b,c].all (foldedForSure 8)) && !([a,b,c].all (constantsAlone 8))then gV (Sm.pr3 i j l es)else td
       | _,_,_,_=>td)=gV s'->GS X (.Assign [.Tuple [.Name x px,.Name y py,.Name z pz] k q] (.Tuple [a,b,c] k2 q2) p) (fD M fuel s'):=λ{x y z px py pz a b c k2 q2} h=>by
      split at h
      ·rename_i i j l es h1 h2 h3 h4;split at h
       ·rename_i hc;cases h;rw[G8,G8,G8,G8,G8,G8,G8,G8,G8]at hc;obtain⟨⟨⟨⟨⟨⟨⟨⟨⟨c1,c2⟩,c3⟩,c4⟩,c5⟩,c6⟩,c7⟩,c8⟩,c9⟩,c10⟩:=hc;have hij:i≠j:=by simpa using c1
        have hil:i≠l:=by simpa using c2
        have hjl:j≠l:=by simpa using c3
        show BY K.calm hN (by rw[K.N]; exact bK h1) (by rw[K.N]; exact bK h2) (by rw[K.N]; exact bK h3) hij hil hjl (by rw[K.names]; exact eq_of_beq c4) (by rw[K.names]; exact eq_of_beq c5) (by rw[K.names]; exact eq_of_beq c6) (cO (λz=>(bC _ K z).1) h4)
         (oD K ?_ ?_ ?_ (eq_of_beq c4) (eq_of_beq c5) (eq_of_beq c6) c7 c8 (by rw[<- Js]; exact c9) (by rw[<- Js]; exact c10) (bQ h4)) rfl
        ·rintro rfl; rw[h1]at h2; cases h2; exact hij rfl
        ·rintro rfl; rw[h1]at h3; cases h3; exact hil rfl
        ·rintro rfl; rw[h2]at h3; cases h3; exact hjl rfl
       ·cases h
      ·cases h
     split at h
     ·rename_i ht;unfold B7 at h;split at h
      ·rename_i hf;split at h
       ·rename_i is e' h1 h2;cases h;cases e with
        | Tuple vs k2 q2=>
         exact mO (bC _ K h2).1 (oz (tg:=.Tuple ts' k q) (t:=.tp is) K (by(dsimp only[cT]; simp[h1]))) rfl (jX hf) rfl
        | _=>cases ht
       ·cases h
      ·split at h
       ·unfold DS at h;split at h
        ·exact pr3 h
        ·cases h
       ·unfold DR at h;split at h
        ·exact par h
        ·cases h
     ·split at h
      ·cases h
      ·rename_i hc1 hc2;split at h
       ·rename_i is e' h1 h2;cases h;show mO (bC _ K h2).1 (oz (tg:=.Tuple ts' k q) (t:=.tp is) K (by(dsimp only[cT]; simp[h1]))) (j8 (t:=gV (.Tuple ts' k q)) (l:=p.line) (env:=X.env) (by simpa using hc2) _ h2) ?_ rfl
        cases e <;> first|rfl|exact absurd rfl hc1
       ·cases h
    | _=>exact ap h
  | _=>exact ap h
end
structure Df where
 ps:G0 Hs
 N:G0 Hs
 body:Ss
abbrev eT (N:G0 Hs)(ws:G0 W):Fm:=ws.map gV++Iq (N.length - ws.length) td
abbrev am (defs:G0 (Hs×Df))(fuel:G9):G9->Hs->FF
 | 0,_,_,_=>td
 | d+1,f,ws,S=>match defs.lookup f with
  | some df=>if ws.length=df.ps.length then match fN (am defs fuel d) fuel df.body (eT df.N ws) S with
    | some (.rt w,S')=>gV (w,S')
    | some (.nx _,S')=>gV (.non,S')
    | _=>td
   else td
  | none=>td
structure Md where
 fns:G0 (Hs×G9)
 blt:G0 Hs
abbrev vC (Mqa:Md)(st:J8)(N:G0 Hs):Gam:={ sc:=(aS st).names,N:=N,fns:=Mqa.fns,blt:=Mqa.blt,dfn:=true,own:=[] }
abbrev DU (Mqa:Md)(st:J8)(df:Df):Prop:=re (cS 20 (vC Mqa st df.N)) (cv st)=gV df.body
def lL {K:Hl}{A:G0 Hb}{H:Hp}{ws:G0 W}{vs:G0 V}{N:G0 Hs}(r:RelL K A H ws vs):EnvRel K A H (eT N ws) (fG N vs):=by
 show#[by simp[eT,L2.fG,r.length],λi w h=>?_]
 unfold eT at h;unfold L2.fG
 by_cases hi:i < ws.length
 ·rw[HV (by simpa using hi),Hc]at h
  rw[HV (by rw[G1,<- r.length]; exact hi),Hc]
  cases q:ws[i]? with
  | none=>rw[q]at h; cases h
  | some w'=>
   rw[q]at h;simp only[HR,Ir]at h;subst h;obtain⟨v,h1,h2⟩:=r.get q;exact#[v,by rw[h1]; rfl,h2]
 ·rw[Ik (by simpa using hi)]at h
  have:=Hn h;simp at this
section
variable{P:HP}{w:Ii}{K:Hl}{mg:Hs->G7 G4}{base:Iv}
abbrev Am (P:HP)(w:Ii)(K:Hl)(mg:Hs->G7 G4)(base:Iv)(Mqa:Md)(defs:G0 (Hs×Df))(fuel d:G9):Prop:=
 ∀f n,Mqa.fns.lookup f=gV n->∃fa fd ps,FnOk P w K mg base qz d fa fd ps (spF w K n (am defs fuel d f))/\mg f=gV (.ref fa)/\Iy K (.ref fa)=true/\Binds K fd ps []
structure MdOk (w:Ii)(K:Hl)(mg:Hs->G7 G4)(Mqa:Md):Prop where
 blt:∀y∈Mqa.blt,mg y=td
def An {Mqa:Md}{defs:G0 (Hs×Df)}{fuel d:G9}{x qual:Hs}{st:J8}{f:Hb}{fd:JB}{df:Df}(F:Fun K x qual st f fd)(S:FnScope df.N df.ps (aS st))(hd:defs.lookup x=gV df)(hc:DU Mqa st df)
  (hb:MdOk w K mg Mqa) (prev:Am P w K mg base Mqa defs fuel d):FnOk P w K mg base qz (d+1) f fd df.ps (spF w K df.ps.length (am defs fuel (d+1) x)):=by
 show F.ok S (λvs H Q E h=>?_) (λcdv A outer s H vs Q E hr h=>?_)
 ·obtain⟨A,S,ws,w',S',_,rl,hl,_⟩:=h;rw[<- rl.length]; exact hl
 ·obtain⟨A',St,ws,w',S',so,rl,hl,e,hq⟩:=h;have K':CtxOk (am defs fuel d) (pi qz P w K mg base df.N qual (aS st) f cdv A outer s H E).nox (vC Mqa st df.N):=by
   show#[rfl,S.kind,rfl,S.nd,rfl,rfl,?_,λ_ _=>rfl,λ_ h=>(nomatch h),hb.blt,λg n hg=>?_]
   ·have:=hr.un;show(A.deeper _).units+20 < cLine;omega
   ·obtain⟨fa,fd',ps',h1,h2,h3,h4⟩:=prev g n hg;exact#[d,fa,fd',ps',h1,hr,h2,h3,h4]
  show#[tS _ (fN (am defs fuel d) fuel df.body),gd (λz=>zo fuel K' 20 z) hc,?_]
  (dsimp only[am]at e; simp only[hd]at e)
  rw[HE hl]at e;split at e
  ·rename_i w1 S1 h1;cases e;show#[A',eT df.N ws,St,_,_,lL rl,so,h1,#[λY' H' #[_,_,z,_,_,_]=>(by cases z),λv H' #[w2,A2,z0,z1,z2,z3]=>?_,λY' H' #[_,_,z,_,_,_]=>(by cases z),λY' H' #[_,_,z,_,_,_]=>(by cases z)]]
   cases z0;exact hq v H' #[A2,z1,z2,z3]
  ·rename_i Z1 S1 h1;cases e;show#[A',eT df.N ws,St,_,_,lL rl,so,h1,#[λY' H' #[w2,A2,z0,z1,z2,z3]=>?_,λY' H' #[_,_,z,_,_,_]=>(by cases z),λY' H' #[_,_,z,_,_,_]=>(by cases z),λY' H' #[_,_,z,_,_,_]=>(by cases z)]]
   exact hq _ H' #[A2,z1,z2,.non]
  ·cases e
def sM {H:Hp}{a:Hb}{ns:G0 Hg}(hO:uj H)(hS:SqL K H a (ns.map V.int)):StoreOk w K [a] H [.fro (ns.map W.int)]/\RelL K [a] H [.ref 0] [.ref a]:=by
 have rl:∀ns:G0 Hg,RelL K [a] H (ns.map W.int) (ns.map V.int):=by
  intro ns
  induction ns with
  | nil=>exact .nil
  | cons n ns ih=>exact .cons .int ih
 have fr:FroL K H a (ns.map V.int):=by
  rcases hS with(h|⟨o,h⟩)|h
  ·rcases hO a with z|⟨o,xs,z⟩ <;> (rw[z]at h; cases h)
  ·exact .inl #[o,h]
  ·exact .inr h
 show#[#[rfl,λi j b o u e1 m1 e2 m2 _ _=>?_,λi o b e1 e2=>?_],.cons (.ref rfl) .nil]
 ·cases i with
  | zero=>simp at e1; subst e1; cases m1
  | succ i=>simp at e1
 ·cases i with
  | zero=>
   simp at e1 e2;subst e1 e2;exact#[_,fr,rl ns]
  | succ i=>simp at e1
def B8 {g:FF}{H:Hp}{a:Hb}{ns:G0 Hg}(h:∃S',g [.ref 0] [.fro (ns.map W.int)]=gV (.bl true,S'))(hO:uj H)(hS:SqL K H a (ns.map V.int)):spF w K 1 g [.ref a] H (λv _=>v=.bl true) λ_ _ _=>IJ:=by
 obtain⟨S',e⟩:=h;obtain⟨so,rl⟩:=sM hO hS;exact#[[a],_,_,_,S',so,rl,rfl,e,λv H' #[A',z1,z2,z3]=>by cases z3; rfl]
end
abbrev Wp {α:Type}(o:G7 α)(Q:α->Prop):Prop:=∃a,o=gV a/\Q a
def af {α:Type}{a:α}{Q:α->Prop}:Wp (gV a) Q↔Q a:=#[λ#[b,e,h]=>(by cases e; exact h),λh=>#[a,rfl,h]]
def ah {α:Type}{Q:α->Prop}:Wp (td:G7 α) Q↔IJ:=#[λ#[b,e,h]=>(by cases e),λh=>h.elim]
def Wp.mono {α:Type}{o:G7 α}{Q Q':α->Prop}(h:Wp o Q)(k:∀a,Q a->Q' a):Wp o Q':=let ⟨a,e,q⟩:=h; #[a,e,k a q]
section
variable{M:Hs->FF}{fuel:G9}{Z:Fm}{S:aa}
noncomputable abbrev QW:=W×aa->Prop
def GR {w:W}{Q:QW}:Wp (aA M (.c w) Z S) Q↔Q (w,S):=by(dsimp only[aA]; simp[fC,af,ah])
def Gw {i:G9}{Q:QW}:Wp (aA M (.v i) Z S) Q↔∃w,Z[i]?=gV (gV w)/\Q (w,S):=by
 (dsimp only[aA]; simp only[fV])
 rcases h:Z[i]? with _|_|w <;> simp[af,ah]
def vD {g:W->W->aa->G7 (W×aa)}{a b:FE}{Q:QW}:Wp (yy g a b Z S) Q↔Wp (a Z S) λp=>Wp (b Z p.2) λq=>Wp (g p.1 q.1 q.2) Q:=by
 unfold yy;rcases h:a Z S with _|⟨x,S1⟩
 ·simp[af,ah]
 ·rcases h2:b Z S1 with _|⟨y,S2⟩ <;> simp[af,ah,h2]
def F0 {o:BOp}{a b:E}{Q:QW}:Wp (aA M (.op o a b) Z S) Q↔Wp (aA M a Z S) λp=>Wp (aA M b Z p.2) λq=>Wp (iD o p.1 q.1 q.2) Q:=by dsimp only[aA]; exact vD
def Ao {o:COp}{a b:E}{Q:QW}:Wp (aA M (.cmp o a b) Z S) Q↔Wp (aA M a Z S) λp=>Wp (aA M b Z p.2) λq=>Wp (aJ o p.1 q.1 q.2) Q:=by dsimp only[aA]; exact vD
def F1 {a b:E}{Q:QW}:Wp (aA M (.ix a b) Z S) Q↔Wp (aA M a Z S) λp=>Wp (aA M b Z p.2) λq=>Wp (g8 p.1 q.1 q.2) Q:=by dsimp only[aA]; exact vD
def DV {a b:E}{Q:QW}:Wp (aA M (.and a b) Z S) Q↔Wp (aA M a Z S) λp=>∃k,p.1=.bl k/\(k=true->Wp (aA M b Z p.2) Q)/\(k=false->Q (.bl false,p.2)):=by
 (dsimp only[aA]; dsimp only[qQ])
 rcases h:aA M a Z S with _|⟨x,S1⟩
 ·simp[af,ah]
 ·cases x <;> simp[af,ah]
  rename_i b; cases b <;> simp[af,ah]
def F2 {a b:E}{Q:QW}:Wp (aA M (.or a b) Z S) Q↔Wp (aA M a Z S) λp=>∃k,p.1=.bl k/\(k=true->Q (.bl true,p.2))/\(k=false->Wp (aA M b Z p.2) Q):=by
 (dsimp only[aA]; dsimp only[yD])
 rcases h:aA M a Z S with _|⟨x,S1⟩
 ·simp[af,ah]
 ·cases x <;> simp[af,ah]
  rename_i b; cases b <;> simp[af,ah]
def DW {a:E}{Q:QW}:Wp (aA M (.not a) Z S) Q↔Wp (aA M a Z S) λp=>∃k,p.1=.bl k/\Q (.bl (!k),p.2):=by
 (dsimp only[aA]; dsimp only[qR])
 rcases h:aA M a Z S with _|⟨x,S1⟩
 ·simp[af,ah]
 ·cases x <;> simp[af,ah]
  rename_i k; cases k <;> simp
def DX {t a b:E}{Q:QW}:Wp (aA M (.ite t a b) Z S) Q↔Wp (cM M t Z S) λp=>(p.1=true->Wp (aA M a Z p.2) Q)/\(p.1=false->Wp (aA M b Z p.2) Q):=by
 (dsimp only[aA]; simp only[yE])
 rcases h:cM M t Z S with _|⟨x,S1⟩
 ·simp[af,ah]
 ·cases x <;> simp[af,ah]
def rf {f:Hs}{n:G9}{es:Es}{Q:QW}:Wp (aA M (.own f n es) Z S) Q↔Wp (cJ M es Z S) λp=>p.1.length=n/\Wp (M f p.1 p.2) Q:=by
 (dsimp only[aA]; dsimp only[kR])
 rcases h:cJ M es Z S with _|⟨x,S1⟩
 ·simp[af,ah]
 ·by_cases hl:x.length=n <;> simp[af,ah,hl]
def DY {f g:Hs}{n:G9}{i:E}{es:Es}{Q:QW}(h:Wp (aA M i Z S) λp=>(p.1=.int 0/\Wp (aA M (.own f n es) Z p.2) Q)\/(p.1=.int 1/\Wp (aA M (.own g n es) Z p.2) Q)):Wp (aA M (.ow2 f g n i es) Z S) Q:=by
 obtain⟨⟨w,S1⟩,e,hq⟩:=h;rcases hq with⟨z,r,e2,hq⟩|⟨z,r,e2,hq⟩
 all_goals
  dsimp only at z e2;subst z;show#[r,?_,hq];dsimp only[aA]at e2 ⊢;simp only[u7,e];exact e2
def DZ {b:Bi}{es:Es}{Q:QW}:Wp (aA M (.bi b es) Z S) Q↔Wp (cJ M es Z S) λp=>Wp (b.fn p.1 p.2) Q:=by
 (dsimp only[aA]; dsimp only[jh])
 rcases h:cJ M es Z S with _|⟨x,S1⟩ <;> simp[af,ah]
def F3 {m:Me}{o:E}{es:Es}{Q:QW}:Wp (aA M (.me m o es) Z S) Q↔Wp (aA M o Z S) λp=>tyOk m.ty p.2 p.1=true/\Wp (cJ M es Z p.2) λq=>Wp (m.fn p.1 q.1 q.2) Q:=by
 (dsimp only[aA]; dsimp only[CS])
 rcases h:aA M o Z S with _|⟨x,S1⟩
 ·simp[af,ah]
 ·by_cases ht:tyOk m.ty S1 x=true
  ·rcases h2:cJ M es Z S1 with _|⟨y,S2⟩ <;> simp[af,ah,ht,h2]
  ·simp[af,ah,ht]
def F4 {a:E}{lo hi:Ep}{Q:QW}:Wp (aA M (.sl a lo hi) Z S) Q↔Wp (aA M a Z S) λp=>Wp (qW M lo Z p.2) λq=>Wp (qW M hi Z q.2) λr=>Wp (fE p.1 q.1 r.1 r.2) Q:=by
 (dsimp only[aA]; dsimp only[DD])
 rcases h:aA M a Z S with _|⟨x,S1⟩
 ·simp[af,ah]
 ·rcases h2:qW M lo Z S1 with _|⟨y,S2⟩
  ·simp[af,ah,h2]
  ·rcases h3:qW M hi Z S2 with _|⟨z,S3⟩ <;> simp[af,ah,h2,h3]
def F5 {Q:G7 Hg×aa->Prop}:Wp (qW M .no Z S) Q↔Q (td,S):=by(dsimp only[qW]; simp[BN,af,ah])
def D0 {a:E}{Q:G7 Hg×aa->Prop}:Wp (qW M (.yes a) Z S) Q↔Wp (aA M a Z S) λp=>∃i,p.1=.int i/\Q (gV i,p.2):=by
 (dsimp only[qW]; simp only[qT])
 rcases h:aA M a Z S with _|⟨x,S1⟩
 ·simp[af,ah]
 ·cases x <;> simp[af,ah]
def D1 {es:Es}{Q:QW}:Wp (aA M (.tup es) Z S) Q↔Wp (cJ M es Z S) λp=>p.1.length<=sizeLine/\Q (.tup p.1,p.2):=by
 (dsimp only[aA]; (dsimp only[uV]; simp only[pv]))
 rcases h:cJ M es Z S with _|⟨x,S1⟩
 ·simp[af,ah]
 ·by_cases hl:x.length<=sizeLine <;> simp[af,ah,hl]
def D2 {es:Es}{Q:QW}:Wp (aA M (.lst es) Z S) Q↔Wp (cJ M es Z S) λp=>p.1.length<=sizeLine/\Q (.ref p.2.length,p.2++[.lst p.1]):=by
 (dsimp only[aA]; (dsimp only[uW]; simp only[kO]))
 rcases h:cJ M es Z S with _|⟨x,S1⟩
 ·simp[af,ah]
 ·by_cases hl:x.length<=sizeLine <;> simp[af,ah,hl]
def Ap {c:IN}{a:E}{Q:QW}:Wp (aA M (.isi c a) Z S) Q↔Wp (aA M a Z S) λp=>∃k,sF p.2 p.1 c=gV k/\Q (.bl k,p.2):=by
 (dsimp only[aA]; simp only[vc])
 rcases h:aA M a Z S with _|⟨x,S1⟩
 ·simp[af,ah]
 ·cases h2:sF S1 x c <;> simp[af,ah,h2]
  rename_i k; cases k <;> simp
def D3 {a:E}{Q:QW}:Wp (aA M (.neg a) Z S) Q↔Wp (aA M a Z S) λp=>∃i,p.1=.int i/\Q (.int (-i),p.2):=by
 (dsimp only[aA]; simp only[uP])
 rcases h:aA M a Z S with _|⟨x,S1⟩
 ·simp[af,ah]
 ·cases x <;> simp[af,ah]
def B9 {es:Es}{Q:QW}:Wp (aA M (.disp es) Z S) Q↔Wp (cJ M es Z (S++[.dic []])) λp=>p.2[S.length]?=gV (.dic [])/\∃U,gK [] p.1=gV U/\Q (.ref S.length,p.2.set S.length (.dic U)):=by
 have e:aA M (.disp es) Z S=oo (cJ M es) Z S:=by dsimp only[aA]
 rw[e];unfold oo;cases cJ M es Z (S++[.dic []])with
 | none=>simp[ah]
 | some p=>
  obtain⟨x,S1⟩:=p;simp only[af];cases h2:S1[S.length]? with
  | none=>simp[ah]
  | some o=>
   cases o with
   | lst _=>simp[ah]
   | fro _=>simp[ah]
   | frd _=>simp[ah]
   | rng _ _=>simp[ah]
   | dic U=>
    cases U with
    | nil=>cases h3:gK [] x <;> simp[af,ah]
    | cons a b=>simp[ah]
def Aq {o o':COp}{a b d:E}{Q:QW}(h:Wp (aA M a Z S) λp=>Wp (aA M b Z p.2) λq=>∃k,r9 o p.1 q.1 q.2=gV k/\(k=true->Wp (aA M d Z q.2) λr=>Wp (dF o' q.1 r.1 r.2) Q)/\(k=false->Q (.bl false,q.2))):Wp (aA M (.chn o o' a b d) Z S) Q:=by
 obtain⟨⟨x,S1⟩,e1,⟨y,S2⟩,e2,k,e3,h1,h2⟩:=h;have e:aA M (.chn o o' a b d) Z S=fL o o' (aA M a) (aA M b) (aA M d) Z S:=by dsimp only[aA]
 rw[e];unfold fL;rw[e1];dsimp only;rw[e2];dsimp only;rw[e3];cases k with
 | false=>exact#[_,rfl,h2 rfl]
 | true=>
  obtain⟨⟨z,S3⟩,e4,⟨r,e5,q⟩⟩:=h1 rfl;dsimp only;rw[e4];exact#[_,e5,q]
def D4 {Q:G0 W×aa->Prop}:Wp (cJ M .nil Z S) Q↔Q ([],S):=by(dsimp only[cJ]; (dsimp only[hG]; simp[af,ah]))
def Cb {e:E}{es:Es}{Q:G0 W×aa->Prop}:Wp (cJ M (.cons e es) Z S) Q↔Wp (aA M e Z S) λp=>Wp (cJ M es Z p.2) λq=>Q (p.1::q.1,q.2):=by
 (dsimp only[cJ]; dsimp only[dC])
 rcases h:aA M e Z S with _|⟨x,S1⟩
 ·simp[af,ah]
 ·rcases h2:cJ M es Z S1 with _|⟨y,S2⟩ <;> simp[af,ah,h2]
noncomputable abbrev QB:=HA×aa->Prop
def Ar {f:FE}{Q:QB}:Wp (og f Z S) Q↔Wp (f Z S) λp=>∃k,p.1=.bl k/\Q (k,p.2):=by
 unfold og;rcases h:f Z S with _|⟨x,S1⟩
 ·simp[af,ah]
 ·cases x <;> simp[af,ah]
  rename_i k; cases k <;> simp
def rg {f:FE}{Q:QB}:Wp (gx f Z S) Q↔Wp (f Z S) λp=>∃k,dc p.2 p.1=gV k/\Q (k,p.2):=by
 unfold gx;rcases h:f Z S with _|⟨x,S1⟩
 ·simp[af,ah]
 ·cases h2:dc S1 x <;> simp[af,ah,h2]
  rename_i k; cases k <;> simp
def D5 {o:COp}{a b:E}{Q:QB}:Wp (cM M (.cmp o a b) Z S) Q↔Wp (aA M (.cmp o a b) Z S) λp=>∃k,p.1=.bl k/\Q (k,p.2):=by dsimp only[cM,aA]; exact Ar
def D6 {o o':COp}{a b d:E}{Q:QB}:Wp (cM M (.chn o o' a b d) Z S) Q↔Wp (aA M (.chn o o' a b d) Z S) λp=>∃k,p.1=.bl k/\Q (k,p.2):=by dsimp only[cM,aA]; exact Ar
def D7 {a b:E}{Q:QB}:Wp (cM M (.and a b) Z S) Q↔Wp (cM M a Z S) λp=>(p.1=true->Wp (cM M b Z p.2) Q)/\(p.1=false->Q (false,p.2)):=by
 (dsimp only[cM]; simp only[uT])
 rcases h:cM M a Z S with _|⟨x,S1⟩
 ·simp[af,ah]
 ·cases x <;> simp[af,ah]
def F6 {a b:E}{Q:QB}:Wp (cM M (.or a b) Z S) Q↔Wp (cM M a Z S) λp=>(p.1=true->Q (true,p.2))/\(p.1=false->Wp (cM M b Z p.2) Q):=by
 (dsimp only[cM]; simp only[DA])
 rcases h:cM M a Z S with _|⟨x,S1⟩
 ·simp[af,ah]
 ·cases x <;> simp[af,ah]
def D8 {a:E}{Q:QB}:Wp (cM M (.not a) Z S) Q↔Wp (cM M a Z S) λp=>Q (!p.1,p.2):=by
 (dsimp only[cM]; simp only[yA])
 rcases h:cM M a Z S with _|⟨x,S1⟩ <;> simp[af,ah]
def GU {i:G9}{Q:QB}:Wp (cM M (.v i) Z S) Q↔Wp (aA M (.v i) Z S) λp=>∃k,dc p.2 p.1=gV k/\Q (k,p.2):=by dsimp only[cM,aA]; exact rg
def D9 {f:Hs}{n:G9}{es:Es}{Q:QB}:Wp (cM M (.own f n es) Z S) Q↔Wp (aA M (.own f n es) Z S) λp=>∃k,dc p.2 p.1=gV k/\Q (k,p.2):=by dsimp only[cM,aA]; exact rg
def F7 {b:Bi}{es:Es}{Q:QB}:Wp (cM M (.bi b es) Z S) Q↔Wp (aA M (.bi b es) Z S) λp=>∃k,dc p.2 p.1=gV k/\Q (k,p.2):=by dsimp only[cM,aA]; exact rg
def Ea {c:IN}{a:E}{Q:QB}:Wp (cM M (.isi c a) Z S) Q↔Wp (aA M (.isi c a) Z S) λp=>∃k,dc p.2 p.1=gV k/\Q (k,p.2):=by dsimp only[cM,aA]; exact rg
noncomputable abbrev QO:=Out×aa->Prop
def Eb {Q:QO}:Wp (fN M fuel .nil Z S) Q↔Q (.nx Z,S):=by(dsimp only[fN]; simp[af,ah])
def Cc {s:Sm}{ss:Ss}{Q:QO}:Wp (fN M fuel (.cons s ss) Z S) Q↔Wp (fD M fuel s Z S) λp=>(∀Z',p.1=.nx Z'->Wp (fN M fuel ss Z' p.2) Q)/\((∀Z',p.1≠.nx Z')->Q p):=by
 (dsimp only[fN]; simp only[yK])
 rcases h:fD M fuel s Z S with _|⟨o,S1⟩
 ·simp[af,ah]
 ·cases o <;> simp[af,ah]
def vE {f:FE}{g:FG}{Q:QO}:Wp (jW f g Z S) Q↔Wp (f Z S) λp=>Wp (g p.1 Z p.2) λq=>Q (.nx q.1,q.2):=by
 unfold jW;rcases h:f Z S with _|⟨x,S1⟩
 ·simp[af,ah]
 ·rcases h2:g x Z S1 with _|⟨y,S2⟩ <;> simp[af,ah,h2]
def Cd {i:G9}{e:E}{Q:QO}:Wp (fD M fuel (.set i e) Z S) Q↔Wp (aA M e Z S) λp=>Q (.nx (Z.set i (gV p.1)),p.2):=by
 dsimp only[fD]; rw[vE]; simp[Ai,af,ah]
def Ce {is:G0 G9}{e:E}{Q:QO}:Wp (fD M fuel (.asg is e) Z S) Q↔Wp (aA M e Z S) λp=>∃ws Z',p.1=.tup ws/\cF is ws Z=gV Z'/\Q (.nx Z',p.2):=by
 dsimp only[fD]; rw[vE]
 constructor
 ·show λh=>h.mono λp hp=>?_
  obtain⟨w,S1⟩:=p;obtain⟨q,h1,h2⟩:=hp;cases w with
  | tup ws=>
   simp only[CT,G6]at h1;obtain⟨Z',h3,rfl⟩:=h1;exact#[ws,Z',rfl,h3,h2]
  | _=>cases h1
 ·show λh=>h.mono λp hp=>?_
  obtain⟨w,S1⟩:=p;obtain⟨ws,Z',h0,h1,h2⟩:=hp;subst h0;exact#[(Z',S1),by simp[CT,h1],h2]
def Cg {i j:G9}{es:Es}{Q:QO}:Wp (fD M fuel (.par i j es) Z S) Q↔Wp (cJ M es Z S) λp=>∃x y,p.1=[x,y]/\Q (.nx ((Z.set i (gV x)).set j (gV y)),p.2):=by
 (dsimp only[fD]; dsimp only[yQ])
 rcases h:cJ M es Z S with _|⟨x,S1⟩
 ·simp[ah]
 ·match x with
  | []=>simp[af,ah]
  | [_]=>simp[af,ah]
  | [a,b]=>
   simp only[af];exact#[λh=>#[a,b,rfl,h],λ#[x,y,e,h]=>by cases e; exact h]
  | _::_::_::_=>simp[af,ah]
def Ch {i j l:G9}{es:Es}{Q:QO}(h:Wp (cJ M es Z S) λp=>∃x y z,p.1=[x,y,z]/\Q (.nx (((Z.set i (gV x)).set j (gV y)).set l (gV z)),p.2)):Wp (fD M fuel (.pr3 i j l es) Z S) Q:=by
 obtain⟨⟨ws,S1⟩,e,x,y,z,rfl,q⟩:=h;exact#[_,by dsimp only[fD,yR]; rw[e],q]
def Ci {o k e:E}{Q:QO}:Wp (fD M fuel (.put o k e) Z S) Q↔Wp (aA M e Z S) λp=>Wp (aA M o Z p.2) λq=>Wp (aA M k Z q.2) λr=>∃S',jt q.1 r.1 p.1 r.2=gV S'/\Q (.nx Z,S'):=by
 dsimp only[fD]; rw[vE]
 rcases h:aA M e Z S with _|⟨x,S1⟩
 ·simp[af,ah]
 ·simp only[af];unfold yP;rcases h2:aA M o Z S1 with _|⟨y,S2⟩
  ·simp[af,ah]
  ·rcases h3:aA M k Z S2 with _|⟨z,S3⟩
   ·simp[af,ah,h3]
   ·cases h4:jt y z x S3 <;> simp[af,ah,h3,h4]
def Ec {e:E}{Q:QO}:Wp (fD M fuel (.ex e) Z S) Q↔Wp (aA M e Z S) λp=>Q (.nx Z,p.2):=by
 (dsimp only[fD]; simp only[yL])
 rcases h:aA M e Z S with _|⟨x,S1⟩ <;> simp[af,ah]
def Cj {e:E}{Q:QO}:Wp (fD M fuel (.ret e) Z S) Q↔Wp (aA M e Z S) λp=>Q (.rt p.1,p.2):=by
 (dsimp only[fD]; simp only[yN])
 rcases h:aA M e Z S with _|⟨x,S1⟩ <;> simp[af,ah]
def Ck {t:E}{a b:Ss}{Q:QO}:Wp (fD M fuel (.ite t a b) Z S) Q↔Wp (cM M t Z S) λp=>(p.1=true->Wp (fN M fuel a Z p.2) Q)/\(p.1=false->Wp (fN M fuel b Z p.2) Q):=by
 (dsimp only[fD]; simp only[yO])
 rcases h:cM M t Z S with _|⟨x,S1⟩
 ·simp[af,ah]
 ·cases x <;> simp[af,ah]
abbrev vF (I:Fm->aa->Prop)(Q:QO)(o:Out×aa):Prop:=match o.1 with
 | .nx Z'=>I Z' o.2
 | .ct Z'=>I Z' o.2
 | .bk Z'=>Q (.nx Z',o.2)
 | .rt w=>Q (.rt w,o.2)
def iW {mi:MI}{g:FG}{b:FS}{xs:G0 W}{Q:QO}(I:G9->Fm->aa->Prop)(hat:∀i Z S,I i Z S->mi.at S i=gV xs[i]?)
  (hstep:∀i w Z S,xs[i]?=gV w->I i Z S->Wp (g w Z S) λq=>Wp (b q.1 q.2) (vF (I (i+1)) Q)) (hend:∀Z S,I xs.length Z S->Q (.nx Z,S)):∀(n i:G9) (Z:Fm) (S:aa),i+n=xs.length->I i Z S->Wp (fM mi g b n i Z S) Q
 | 0,i,Z,S,hl,hI=>by
  have e:mi.at S i=gV td:=by rw[hat i Z S hI,JU ∅]
  simp only[fM,e];have hi:i=xs.length:=∅
  exact af.mpr (hend Z S (hi ▸ hI))
 | n+1,i,Z,S,hl,hI=>by
  have hi:i < xs.length:=∅
  have e:mi.at S i=gV (gV xs[i]):=by rw[hat i Z S hI,Hi hi]
  obtain⟨⟨Z1,S1⟩,h1,⟨o,S2⟩,h2,h3⟩:=hstep i xs[i] Z S (Hi hi) hI;simp only[fM,e,h1,h2];cases o with
  | nx Z2=>exact iW I hat hstep hend n (i+1) Z2 S2 ∅ h3
  | ct Z2=>exact iW I hat hstep hend n (i+1) Z2 S2 ∅ h3
  | bk Z2=>exact af.mpr h3
  | rt w=>exact af.mpr h3
def Ed {fi:FI}{g:FG}{b:FS}{Q:QO}:Wp (u8 fi g b Z S) Q↔Wp (fi Z S) λp=>∃n,p.1.len p.2=gV n/\Wp (fM p.1 g b n 0 Z p.2) Q:=by
 unfold u8;rcases h:fi Z S with _|⟨mi,S1⟩
 ·simp[ah]
 ·cases h2:mi.len S1 <;> simp[af,ah,h2]
def dG {mi:MI}{g:FG}{c:FT}{f:FE}{xs:G0 W}{Q:G0 W×aa->Prop}(I:G9->G0 W->Fm->aa->Prop)(hat:∀i ys Z S,I i ys Z S->mi.at S i=gV xs[i]?)
  (hstep:∀i w ys Z S,xs[i]?=gV w->I i ys Z S->Wp (g w Z S) λq=>Wp (c q.1 q.2) λk=>(k.1=true->Wp (f q.1 k.2) λy=>I (i+1) (ys++[y.1]) q.1 y.2)/\(k.1=false->I (i+1) ys q.1 k.2))
  (hend:∀ys Z S,I xs.length ys Z S->Q (ys,S)):∀(n i:G9) (ys:G0 W) (Z:Fm) (S:aa),i+n=xs.length->I i ys Z S->Wp (bG mi g c f n i Z S) λp=>Q (ys++p.1,p.2)
 | 0,i,ys,Z,S,hl,hI=>by
  have e:mi.at S i=gV td:=by rw[hat i ys Z S hI,JU ∅]
  simp only[bG,e];show af.mpr ?_;have:i=xs.length:=∅
  simpa using hend ys Z S (this ▸ hI)
 | n+1,i,ys,Z,S,hl,hI=>by
  have hi:i < xs.length:=∅
  have e:mi.at S i=gV (gV xs[i]):=by rw[hat i ys Z S hI,Hi hi]
  obtain⟨⟨Z1,S1⟩,h1,⟨k,S2⟩,h2,h3,h4⟩:=hstep i xs[i] ys Z S (Hi hi) hI;simp only[bG,e,h1,h2];cases k with
  | true=>
   obtain⟨⟨y,S3⟩,h5,h6⟩:=h3 rfl;simp only[h5];obtain⟨⟨zs,S4⟩,h7,h8⟩:=dG I hat hstep hend n (i+1) (ys++[y]) Z1 S3 ∅ h6
   simp only[h7];exact af.mpr (by simpa using h8)
  | false=>exact dG I hat hstep hend n (i+1) ys Z1 S2 ∅ (h4 rfl)
def vG {elt:E}{tg:Tg}{it:Ie}{cs:Es}{cap:G0 (G7 G9)}{Q:QW}:Wp (aA M (.comp elt tg it cs cap) Z S) Q↔Wp (ju M it Z S) λp=>∃n,p.1.len p.2=gV n/\Wp (bG p.1 (fF tg) (ze M cs) (aA M elt) n 0 (eG cap Z) p.2) λq=>q.1.length<=sizeLine/\Q (.ref q.2.length,q.2++[.lst q.1]):=by
 (dsimp only[aA]; simp only[jY,kO])
 rcases h:ju M it Z S with _|⟨mi,S1⟩
 ·simp[ah]
 ·rcases h2:mi.len S1 with _|n
  ·simp[af,ah,h2]
  ·rcases h3:bG mi (fF tg) (ze M cs) (aA M elt) n 0 (eG cap Z) S1 with _|⟨ys,S2⟩
   ·simp[af,ah,h2,h3]
   ·by_cases hl:ys.length<=sizeLine <;> simp[af,ah,h2,h3,hl]
def Ee {Q:QB}:Wp (ze M .nil Z S) Q↔Q (true,S):=by(dsimp only[ze]; simp[Ak,af])
def Ef {e:E}{Q:QB}:Wp (ze M #v[e] Z S) Q↔Wp (cM M e Z S) Q:=by dsimp only[ze]; exact Iff.rfl
def j9 {c:FT}{b:FS}{Q:QO}(I:G9->Fm->aa->Prop)(hstep:∀m Z S,I m Z S->Wp (c Z S) λk=>(k.1=true->∃m',m=m'+1/\Wp (b Z k.2) (vF (I m') Q))/\(k.1=false->Q (.nx Z,k.2))) :
  ∀(n m:G9) (Z:Fm) (S:aa),m < n->I m Z S->Wp (mP c b n Z S) Q
 | 0,m,Z,S,h,_=>∅
 | n+1,m,Z,S,h,hI=>by
  obtain⟨⟨k,S1⟩,h1,h2,h3⟩:=hstep m Z S hI;simp only[mP,h1];cases k with
  | false=>exact af.mpr (h3 rfl)
  | true=>
   obtain⟨m',rfl,⟨o,S2⟩,h5,h6⟩:=h2 rfl;simp only[h5];cases o with
   | nx Z2=>exact j9 I hstep n m' Z2 S2 ∅ h6
   | ct Z2=>exact j9 I hstep n m' Z2 S2 ∅ h6
   | bk Z2=>exact af.mpr h6
   | rt w=>exact af.mpr h6
def sN {defs:G0 (Hs×Df)}{d:G9}{f:Hs}{ws:G0 W}{df:Df}{Q:QW}(h:defs.lookup f=gV df)(hl:ws.length=df.ps.length)
  (hb:Wp (fN (am defs fuel d) fuel df.body (eT df.N ws) S) λp=>match p.1 with|.rt w=>Q (w,p.2)|.nx _=>Q (.non,p.2)|_=>IJ):Wp (am defs fuel (d+1) f ws S) Q:=by
 obtain⟨⟨o,S1⟩,h1,h2⟩:=hb;simp only[am,h,HE hl,h1];cases o with
 | rt w=>exact af.mpr h2
 | nx Z=>exact af.mpr h2
 | bk _=>exact h2.elim
 | ct _=>exact h2.elim
end
section
variable{S:aa}{Q:QW}
def cQ {a b:Hg}:iD .add (.int a) (.int b) S=gV (.int (a+b),S):=rfl
def jk {a b:Hg}:iD .sub (.int a) (.int b) S=gV (.int (a - b),S):=rfl
def mV {c:Hg->Hg->HA}{f:Hg->Hg->Hg}{i j:Hg}(h:c i j=true):xw c f (.int i) (.int j) S=gV (.int (f i j),S):=by
 unfold xw;dsimp only;rw[HE h]
def vH {a b:Hg}(h : -(2 ^ 64) < b)(h2:b < 2 ^ 64):iD .mul (.int a) (.int b) S=gV (.int (a*b),S):=mV (c:=r6) (f:=(· * ·)) (by
 unfold r6;simp only[Jc,G8,HM];exact .inr #[h,h2])
def oE {a b:Hg}(h:0 < b):iD .mod (.int a) (.int b) S=gV (.int (a % b),S):=mV (c:=λ_ j=>decide (0 < j)) (f:=(· % ·)) (IL h)
def Cm {a b:Hg}(h:0 < b)(h2:b < 1073741824):iD .fdiv (.int a) (.int b) S=gV (.int (a / b),S):=mV (c:=λ_ j=>xZ j) (f:=(· / ·)) (by
 unfold xZ;simp only[G8,HM];exact#[h,h2])
def Cn:iD .pow (.int 10) (.int 18) S=gV (.int 1000000000000000000,S):=rfl
def aQ {xs ys:G0 W}(h:(xs++ys).length<=sizeLine):iD .add (.tup xs) (.tup ys) S=gV (.tup (xs++ys),S):=by simp only[iD,ut,pv]; rw[HE h]
def kb {i j:G9}{xs ys:G0 W}(h1:S[i]?=gV (.lst xs))(h2:S[j]?=gV (.lst ys))(h:(xs++ys).length<=sizeLine):iD .add (.ref i) (.ref j) S=gV (.ref S.length,S++[.lst (xs++ys)]):=by
 simp only[iD,ut,ny,h1,h2,kO]; rw[HE h]
def ie {a b:Hg}:aJ .eq (.int a) (.int b) S=gV (.bl (a==b),S):=rfl
def vI {a b:Hg}:aJ .ne (.int a) (.int b) S=gV (.bl (!(a==b)),S):=rfl
def zp {a b:Hg}:aJ .lt (.int a) (.int b) S=gV (.bl (decide (a < b)),S):=rfl
def zq {a b:Hg}:aJ .gt (.int a) (.int b) S=gV (.bl (decide (a > b)),S):=rfl
def F8 {a b:Hg}:aJ .ge (.int a) (.int b) S=gV (.bl (decide (a>=b)),S):=rfl
def aG {r:G9}{xs:G0 W}(h:S[r]?=gV (.lst xs)):gG S r=gV xs:=by simp[gG,h]
def zr {r:G9}{xs:G0 W}(h:S[r]?=gV (.fro xs)):gG S r=gV xs:=by simp[gG,h]
def bU {r:G9}{xs:G0 W}(h:S[r]?=gV (.lst xs)):ny S r=gV xs:=by simp[ny,h]
def mW {r:G9}{xs:G0 W}(h:S[r]?=gV (.lst xs)):kL S r=td:=by simp[kL,h]
def eU {r:G9}{U:G0 (T×W)}(h:S[r]?=gV (.dic U)):kL S r=gV U:=by simp[kL,h]
def zu {r:G9}{U:G0 (T×W)}(h:S[r]?=gV (.dic U)):gG S r=td:=by simp[gG,h]
def atI_nat {α:Type}{xs:G0 α}{j:G9}{w:α}(h:xs[j]?=gV w):nE xs (j:Hg)=gV w:=by
 have hl:=(Hm.mp h).1;unfold nE qx;rw[HE (Hf j),HE (by exact_mod_cast hl)]
 simpa using h
def mX {α:Type}{xs:G0 α}{i:Hg}{w:α}(h0:0<=i)(h:xs[i.toNat]?=gV w):nE xs i=gV w:=by
 have:=atI_nat h
 rwa [Kc h0]at this
def vJ {r:G9}{xs:G0 W}{i:Hg}{w:W}(h:S[r]?=gV (.lst xs))(h0:0<=i)(hw:xs[i.toNat]?=gV w):g8 (.ref r) (.int i) S=gV (w,S):=by
 change sa (.ref r) (.int i) S=_;simp[sa,aG h,mX h0 hw]
def Eg {xs:G0 W}{i:Hg}{w:W}(h0:0<=i)(hw:xs[i.toNat]?=gV w):g8 (.tup xs) (.int i) S=gV (w,S):=by
 change sa (.tup xs) (.int i) S=_;simp[sa,mX h0 hw]
def Eh {x:Hs}{i:Hg}{c:G9}(hz:x.length<=sizeLine)(h0:0<=i)(hw:x.cps.toList[i.toNat]?=gV c):g8 (.str x) (.int i) S=gV (.str #[[c].toArray],S):=by
 change sa (.str x) (.int i) S=_;simp[sa,hz,mX h0 hw]
def Ei {r:G9}{xs:G0 W}{i:Hg}{w:W}(h:S[r]?=gV (.lst xs))(h0:0<=i)(hi:i.toNat < xs.length):jt (.ref r) (.int i) w S=gV (S.set r (.lst (xs.set i.toNat w))):=by
 change se (.ref r) (.int i) w S=_;have:qx xs.length i=gV i.toNat:=by
  unfold qx;rw[HE h0,HE ∅]
 simp[se,bU h,this]
def As {r:G9}{xs:G0 W}(h:S[r]?=gV (.lst xs)):pI [.ref r] S=gV (.int xs.length,S):=by
 (dsimp only[pI,pB]; simp[mW h,aG h])
def Ej {r:G9}{xs:G0 W}{y:W}(h:S[r]?=gV (.lst xs))(hl:xs.length < sizeLine):gY (.ref r) [y] S=gV (.non,S.set r (.lst (xs++[y]))):=by
 simp[gY,bU h,hl]
def Ek {r:G9}{xs:G0 W}(h:S[r]?=gV (.lst xs)):jU [.ref r] S=gV (.tup xs,S):=by
 (dsimp only[jU,jN]; simp[uC,h,aG h])
def dg {r:G9}{xs:G0 W}(h:S[r]?=gV (.lst xs)):tyOk "list" S (.ref r)=true:=by simp[tyOk,aG h]
def bY {r:G9}{o o':O}(h:S[r]?=gV o):(S.set r o')[r]?=gV o':=by
 rw[Jr,HE rfl,HE (Hm.mp h).1]
def cg {r j:G9}{o':O}(h:r≠j):(S.set r o')[j]?=S[j]?:=by rw[Jr,HX h]
def aj {o:O}:(S++[o])[S.length]?=gV o:=by simp
def ay {j:G9}{o u:O}(h:S[j]?=gV o):(S++[u])[j]?=gV o:=by rw[HV (Hm.mp h).1]; exact h
def cp {j:G9}{o:O}(h:S[j]?=gV o):j < S.length:=(Hm.mp h).1
structure Kp (r:G9)(S S':aa):Prop where
 get:∀j o,j≠r->S[j]?=gV o->S'[j]?=gV o
 len:S.length<=S'.length
def Kp.refl {r:G9}{S:aa}:Kp r S S:=#[λ_ _ _ h=>h,Hj _]
def Kp.trans {r:G9}{S S' S'':aa}(a:Kp r S S')(b:Kp r S' S''):Kp r S S'':=#[λj o n h=>b.get j o n (a.get j o n h),HK a.len b.len]
def Kp.set {r:G9}{S:aa}{o:O}:Kp r S (S.set r o):=#[λj u n h=>by rw[cg (Ne.symm n)]; exact h,by simp]
def Kp.push {r:G9}{S:aa}{o:O}:Kp r S (S++[o]):=#[λj u n h=>ay h,by simp]
def Kp.late {r t:G9}{S0 S:aa}{o:O}(a:Kp r S0 S)(h:S0.length<=t):Kp r S0 (S.set t o):=
 #[λj u n e=>by
  have:=cp e;rw[cg ∅]; exact a.get j u n e,by simpa using a.len]
end
abbrev wO {α:Type}(o:G7 α)(Q:α->Prop):Prop:=match o with
 | some a=>Q a
 | none=>IJ
def bI {α:Type}{o:G7 α}{Q:α->Prop}(h:wO o Q):Wp o Q:=by
 cases o with
 | none=>exact h.elim
 | some a=>exact#[a,rfl,h]
def El {α:Type}{o:G7 α}{Q:α->Prop}(h:Wp o Q):wO o Q:=by
 obtain⟨a,rfl,q⟩:=h;exact q
def ab {α:Type}{o:G7 α}{a:α}{Q:α->Prop}(e:o=gV a)(h:Q a):wO o Q:=by subst e; exact h
abbrev wB:W->(HA->Prop)->Prop
 | .bl k,Q=>Q k
 | _,_=>IJ
abbrev wN:W->(Hg->Prop)->Prop
 | .int k,Q=>Q k
 | _,_=>IJ
abbrev wU:W->(G0 W->Prop)->Prop
 | .tup k,Q=>Q k
 | _,_=>IJ
def oF {w:W}{Q:HA->Prop}(h:wB w Q):∃k,w=.bl k/\Q k:=by cases w <;> first|exact h.elim|exact#[_,rfl,h]
def At {w:W}{Q:Hg->Prop}(h:wN w Q):∃k,w=.int k/\Q k:=by cases w <;> first|exact h.elim|exact#[_,rfl,h]
def Em {w:W}{Q:G0 W->Prop}(h:wU w Q):∃k,w=.tup k/\Q k:=by cases w <;> first|exact h.elim|exact#[_,rfl,h]
abbrev w2:G0 W->(W->W->Prop)->Prop
 | [x,y],Q=>Q x y
 | _,_=>IJ
def En {xs:G0 W}{Q:W->W->Prop}(h:w2 xs Q):∃x y,xs=[x,y]/\Q x y:=by
 match xs,h with
 | [x,y],h=>exact#[x,y,rfl,h]
abbrev w3:G0 W->(W->W->W->Prop)->Prop
 | [x,y,z],Q=>Q x y z
 | _,_=>IJ
def Eo {xs:G0 W}{Q:W->W->W->Prop}(h:w3 xs Q):∃x y z,xs=[x,y,z]/\Q x y z:=by
 match xs,h with
 | [x,y,z],h=>exact#[x,y,z,rfl,h]
abbrev wG:G7 W->(W->Prop)->Prop
 | some w,Q=>Q w
 | none,_=>IJ
abbrev wV:Fm->G9->(W->Prop)->Prop
 | [],_,_=>IJ
 | o::_,0,Q=>wG o Q
 | _::Z,n+1,Q=>wV Z n Q
def vK {Q:W->Prop}:∀ {Z:Fm} {i:G9},wV Z i Q->∃w,Z[i]?=gV (gV w)/\Q w
 | [],i,h=>h.elim
 | some w::Z,0,h=>#[w,rfl,h]
 | none::Z,0,h=>h.elim
 | x::Z,n+1,h=>by
  obtain⟨w,e2,q⟩:=vK (Z:=Z) (i:=n) h;exact#[w,e2,q]
abbrev aF (M:Hs->FF)(f:Hs)(n:G9)(ws:G0 W)(S:aa):G7 (W×aa):=if ws.length=n then M f ws S else td
section
variable (M:Hs->FF) (fuel:G9)
mutual
def wE:E->Fm->aa->QW->Prop
 | .c w,_,S,Q=>Q (w,S)
 | .v i,Z,S,Q=>wV Z i λw=>Q (w,S)
 | .op o a b,Z,S,Q=>wE a Z S λp=>wE b Z p.2 λq=>wO (iD o p.1 q.1 q.2) Q
 | .cmp o a b,Z,S,Q=>wE a Z S λp=>wE b Z p.2 λq=>wO (aJ o p.1 q.1 q.2) Q
 | .and a b,Z,S,Q=>wE a Z S λp=>wB p.1 λk=>(k=true->wE b Z p.2 Q)/\(k=false->Q (.bl false,p.2))
 | .or a b,Z,S,Q=>wE a Z S λp=>wB p.1 λk=>(k=true->Q (.bl true,p.2))/\(k=false->wE b Z p.2 Q)
 | .not a,Z,S,Q=>wE a Z S λp=>wB p.1 λk=>Q (.bl (!k),p.2)
 | .own f n es,Z,S,Q=>wA es Z S λp=>wO (aF M f n p.1 p.2) Q
 | .ow2 f g n i es,Z,S,Q=>wE i Z S λp=>(p.1=.int 0/\wA es Z p.2 λq=>wO (aF M f n q.1 q.2) Q)\/(p.1=.int 1/\wA es Z p.2 λq=>wO (aF M g n q.1 q.2) Q)
 | .bi b es,Z,S,Q=>wA es Z S λp=>wO (b.fn p.1 p.2) Q
 | .me m o es,Z,S,Q=>wE o Z S λp=>tyOk m.ty p.2 p.1=true/\wA es Z p.2 λq=>wO (m.fn p.1 q.1 q.2) Q
 | .ix a b,Z,S,Q=>wE a Z S λp=>wE b Z p.2 λq=>wO (g8 p.1 q.1 q.2) Q
 | .sl a lo hi,Z,S,Q=>wE a Z S λp=>wP lo Z p.2 λq=>wP hi Z q.2 λr=>wO (fE p.1 q.1 r.1 r.2) Q
 | .tup es,Z,S,Q=>wA es Z S λp=>Q (.tup p.1,p.2)
 | .lst es,Z,S,Q=>wA es Z S λp=>Q (.ref p.2.length,p.2++[.lst p.1])
 | .isi c a,Z,S,Q=>wE a Z S λp=>wO (sF p.2 p.1 c) λk=>Q (.bl k,p.2)
 | .neg a,Z,S,Q=>wE a Z S λp=>wN p.1 λi=>Q (.int (-i),p.2)
 | .dnew,_,S,Q=>Q (.ref S.length,S++[.dic []])
 | .disp es,Z,S,Q=>wA es Z (S++[.dic []]) λp=>p.2[S.length]?=gV (.dic [])/\wO (gK [] p.1) λU=>Q (.ref S.length,p.2.set S.length (.dic U))
 | .chn o o' a b d,Z,S,Q=>wE a Z S λp=>wE b Z p.2 λq=>wO (r9 o p.1 q.1 q.2) λk=>(k=true->wE d Z q.2 λr=>wO (dF o' q.1 r.1 r.2) Q)/\(k=false->Q (.bl false,q.2))
 | .ite t a b,Z,S,Q=>wT t Z S λp=>(p.1=true->wE a Z p.2 Q)/\(p.1=false->wE b Z p.2 Q)
 | .comp elt tg it cs cap,Z,S,Q=>Wp (aA M (.comp elt tg it cs cap) Z S) Q
def wT:E->Fm->aa->QB->Prop
 | .cmp o a b,Z,S,Q=>wE a Z S λp=>wE b Z p.2 λq=>wO (aJ o p.1 q.1 q.2) λr=>wB r.1 λk=>Q (k,r.2)
 | .and a b,Z,S,Q=>wT a Z S λp=>(p.1=true->wT b Z p.2 Q)/\(p.1=false->Q (false,p.2))
 | .or a b,Z,S,Q=>wT a Z S λp=>(p.1=true->Q (true,p.2))/\(p.1=false->wT b Z p.2 Q)
 | .not a,Z,S,Q=>wT a Z S λp=>Q (!p.1,p.2)
 | .isi c a,Z,S,Q=>wE a Z S λp=>wO (sF p.2 p.1 c) λk=>Q (k,p.2)
 | .c w,Z,S,Q=>Wp (cM M (.c w) Z S) Q
 | .v i,Z,S,Q=>wV Z i λw=>wO (dc S w) λk=>Q (k,S)
 | .op o a b,Z,S,Q=>Wp (cM M (.op o a b) Z S) Q
 | .own f n es,Z,S,Q=>wA es Z S λp=>wO (aF M f n p.1 p.2) λq=>wO (dc q.2 q.1) λk=>Q (k,q.2)
 | .bi b es,Z,S,Q=>wA es Z S λp=>wO (b.fn p.1 p.2) λq=>wO (dc q.2 q.1) λk=>Q (k,q.2)
 | .me m o es,Z,S,Q=>Wp (cM M (.me m o es) Z S) Q
 | .ix a b,Z,S,Q=>Wp (cM M (.ix a b) Z S) Q
 | .sl a lo hi,Z,S,Q=>Wp (cM M (.sl a lo hi) Z S) Q
 | .tup es,Z,S,Q=>Wp (cM M (.tup es) Z S) Q
 | .lst es,Z,S,Q=>Wp (cM M (.lst es) Z S) Q
 | .neg a,Z,S,Q=>Wp (cM M (.neg a) Z S) Q
 | .dnew,Z,S,Q=>Wp (cM M .dnew Z S) Q
 | .disp es,Z,S,Q=>Wp (cM M (.disp es) Z S) Q
 | .chn o o' a b d,Z,S,Q=>wE a Z S λp=>wE b Z p.2 λq=>wO (r9 o p.1 q.1 q.2) λk=>(k=true->wE d Z q.2 λr=>wO (dF o' q.1 r.1 r.2) λs=>wB s.1 λc=>Q (c,s.2))/\(k=false->Q (false,q.2))
 | .ite t a b,Z,S,Q=>Wp (cM M (.ite t a b) Z S) Q
 | .ow2 f g n i es,Z,S,Q=>Wp (cM M (.ow2 f g n i es) Z S) Q
 | .comp elt tg it cs cap,Z,S,Q=>Wp (cM M (.comp elt tg it cs cap) Z S) Q
def wA:Es->Fm->aa->(G0 W×aa->Prop)->Prop
 | .nil,_,S,Q=>Q ([],S)
 | .cons e es,Z,S,Q=>wE e Z S λp=>wA es Z p.2 λq=>Q (p.1::q.1,q.2)
def wP:Ep->Fm->aa->(G7 Hg×aa->Prop)->Prop
 | .no,_,S,Q=>Q (td,S)
 | .yes a,Z,S,Q=>wE a Z S λp=>wN p.1 λi=>Q (gV i,p.2)
end
abbrev pR (K:Fm->aa->Prop)(Q:QO)(p:Out×aa):Prop:=match p.1 with
 | .nx Z=>K Z p.2
 | o=>Q (o,p.2)
mutual
def wS:Sm->Fm->aa->(Fm->aa->Prop)->QO->Prop
 | .set i e,Z,S,K,_=>wE M e Z S λp=>K (Z.set i (gV p.1)) p.2
 | .asg is e,Z,S,K,_=>wE M e Z S λp=>wU p.1 λws=>wO (cF is ws Z) λZ'=>K Z' p.2
 | .par i j es,Z,S,K,_=>wA M es Z S λp=>w2 p.1 λx y=>K ((Z.set i (gV x)).set j (gV y)) p.2
 | .pr3 i j l es,Z,S,K,_=>wA M es Z S λp=>w3 p.1 λx y z=>K (((Z.set i (gV x)).set j (gV y)).set l (gV z)) p.2
 | .put o k e,Z,S,K,_=>wE M e Z S λp=>wE M o Z p.2 λq=>wE M k Z q.2 λr=>wO (jt q.1 r.1 p.1 r.2) λS'=>K Z S'
 | .ex e,Z,S,K,_=>wE M e Z S λp=>K Z p.2
 | .ret e,Z,S,_,Q=>wE M e Z S λp=>Q (.rt p.1,p.2)
 | .pass,Z,S,K,_=>K Z S
 | .ite t a b,Z,S,K,Q=>wT M t Z S λp=>∀Q':QO,(∀Z' S',K Z' S'->Q' (.nx Z',S'))->(∀o S',(∀Z',o≠.nx Z')->Q (o,S')->Q' (o,S'))->(p.1=true->mY a Z p.2 Q')/\(p.1=false->mY b Z p.2 Q')
 | .whl t b,Z,S,K,Q=>Wp (fD M fuel (.whl t b) Z S) (pR K Q)
 | .loop tg it b,Z,S,K,Q=>Wp (fD M fuel (.loop tg it b) Z S) (pR K Q)
def mY:Ss->Fm->aa->QO->Prop
 | .nil,Z,S,Q=>Q (.nx Z,S)
 | .cons s ss,Z,S,Q=>wS s Z S (λZ' S'=>mY ss Z' S' Q) Q
end
end
abbrev Er:Es->G9
 | .nil=>0
 | .cons _ es=>Er es+1
mutual
def dD:E->HA
 | .c _|.v _|.comp _ _ _ _ _|.dnew=>true
 | .op _ a b|.cmp _ a b|.and a b|.or a b|.ix a b=>dD a&&dD b
 | .chn _ _ a b c|.ite a b c=>dD a&&dD b&&dD c
 | .neg a|.not a|.isi _ a=>dD a
 | .own _ n es=>Er es==n&&kS es
 | .ow2 _ _ n i es=>dD i&&(Er es==n&&kS es)
 | .bi _ es|.disp es=>kS es
 | .me _ o es=>dD o&&kS es
 | .sl a lo hi=>dD a&&F9 lo&&F9 hi
 | .tup es|.lst es=>decide (Er es<=1000)&&kS es
def kS:Es->HA
 | .nil=>true
 | .cons e es=>dD e&&kS es
def F9:Ep->HA
 | .no=>true
 | .yes e=>dD e
end
mutual
def Gx:Sm->HA
 | .set _ e|.asg _ e|.ex e|.ret e=>dD e
 | .put o k e=>dD o&&dD k&&dD e
 | .par _ _ es=>kS es
 | .pr3 _ _ _ es=>kS es
 | .ite t a b=>dD t&&gM a&&gM b
 | _=>true
def gM:Ss->HA
 | .nil=>true
 | .cons s ss=>Gx s&&gM ss
end
section
variable{M:Hs->FF}{fuel:G9}
def eV:∀ {es:Es} {Z:Fm} {S S':aa} {ws:G0 W},cJ M es Z S=gV (ws,S')->ws.length=Er es
 | .nil,Z,S,S',ws,h=>by dsimp only[cJ]at h; cases h; rfl
 | .cons e es,Z,S,S',ws,h=>by
  dsimp only[cJ]at h;unfold dC at h;split at h
  ·split at h
   ·rename_i h2; cases h; rw[Ih,eV h2]; rfl
   ·cases h
  ·cases h
def vL {n:G9}(h:decide (n<=1000)=true):n<=sizeLine:=HK (ID h) (by rw[IE]; decide)
def bS {a b:HA}(h:(a&&b)=true):a=true:=by cases a <;> first|rfl|cases h
def cj {a b:HA}(h:(a&&b)=true):b=true:=by cases a <;> first|exact h|cases h
mutual
theorem aO:∀(e:E) {Z:Fm} {S:aa} {Q:QW},dD e=true->wE M e Z S Q->Wp (aA M e Z S) Q
  | .c w,Z,S,Q,k,h=>GR.mpr h
  | .v i,Z,S,Q,k,h=>Gw.mpr (vK h)
  | .op o a b,Z,S,Q,k,h=>F0.mpr ((aO a (bS k) h).mono λp hp=>(aO b (cj k) hp).mono λq hq=>bI hq)
  | .cmp o a b,Z,S,Q,k,h=>Ao.mpr ((aO a (bS k) h).mono λp hp=>(aO b (cj k) hp).mono λq hq=>bI hq)
  | .and a b,Z,S,Q,k,h=>DV.mpr ((aO a (bS k) h).mono λp hp=>let ⟨c,e,h1,h2⟩:=oF hp; #[c,e,λz=>aO b (cj k) (h1 z),h2])
  | .or a b,Z,S,Q,k,h=>F2.mpr ((aO a (bS k) h).mono λp hp=>let ⟨c,e,h1,h2⟩:=oF hp; #[c,e,h1,λz=>aO b (cj k) (h2 z)])
  | .not a,Z,S,Q,k,h=>DW.mpr ((aO a k h).mono λp hp=>oF hp)
  | .own f n es,Z,S,Q,k,h=>rf.mpr (by
      obtain⟨⟨ws,S1⟩,e,hq⟩:=eJ es (cj k) h;have hl:ws.length=n:=(eV e).trans (eq_of_beq (bS k));simp only[aF,HE hl]at hq;exact#[_,e,hl,bI hq])
  | .ow2 f g n i es,Z,S,Q,k,h=>DY ((aO i (bS k) h).mono λp hp=>hp.imp (λ#[z,hp]=>#[z,rf.mpr (by
      obtain⟨⟨ws,S1⟩,e,hq⟩:=eJ es (cj (cj k)) hp;have hl:ws.length=n:=(eV e).trans (eq_of_beq (bS (cj k)));simp only[aF,HE hl]at hq;exact#[_,e,hl,bI hq])]) (λ#[z,hp]=>#[z,rf.mpr (by
      obtain⟨⟨ws,S1⟩,e,hq⟩:=eJ es (cj (cj k)) hp;have hl:ws.length=n:=(eV e).trans (eq_of_beq (bS (cj k)));simp only[aF,HE hl]at hq;exact#[_,e,hl,bI hq])]))
  | .bi b es,Z,S,Q,k,h=>DZ.mpr ((eJ es k h).mono λp hp=>bI hp)
  | .me m o es,Z,S,Q,k,h=>F3.mpr ((aO o (bS k) h).mono λp hp=>#[hp.1,(eJ es (cj k) hp.2).mono λq hq=>bI hq])
  | .ix a b,Z,S,Q,k,h=>F1.mpr ((aO a (bS k) h).mono λp hp=>(aO b (cj k) hp).mono λq hq=>bI hq)
  | .sl a lo hi,Z,S,Q,k,h=>F4.mpr ((aO a (bS (bS k)) h).mono λp hp=>(Au lo (cj (bS k)) hp).mono λq hq=>(Au hi (cj k) hq).mono λr hr=>bI hr)
  | .tup es,Z,S,Q,k,h=>D1.mpr (by
      obtain⟨⟨ws,S1⟩,e,hq⟩:=eJ es (cj k) h;exact#[_,e,by rw[eV e]; exact vL (bS k),hq])
  | .lst es,Z,S,Q,k,h=>D2.mpr (by
      obtain⟨⟨ws,S1⟩,e,hq⟩:=eJ es (cj k) h;exact#[_,e,by rw[eV e]; exact vL (bS k),hq])
  | .isi c a,Z,S,Q,k,h=>Ap.mpr ((aO a k h).mono λp hp=>bI hp)
  | .neg a,Z,S,Q,k,h=>D3.mpr ((aO a k h).mono λp hp=>At hp)
  | .dnew,Z,S,Q,k,h=>#[_,rfl,h]
  | .disp es,Z,S,Q,k,h=>B9.mpr ((eJ es k h).mono λp hp=>#[hp.1,let ⟨U,e,q⟩:=bI hp.2; #[U,e,q]])
  | .chn o o' a b d,Z,S,Q,k,h=>Aq ((aO a (bS (bS k)) h).mono λp hp=>(aO b (cj (bS k)) hp).mono λq hq=>let ⟨c,e,h1,h2⟩:=bI hq; #[c,e,λz=>(aO d (cj k) (h1 z)).mono λr hr=>bI hr,h2])
  | .ite t a b,Z,S,Q,k,h=>DX.mpr ((ig t (bS (bS k)) h).mono λp hp=>#[λz=>aO a (cj (bS k)) (hp.1 z),λz=>aO b (cj k) (hp.2 z)])
  | .comp elt tg it cs cap,Z,S,Q,k,h=>h
theorem eJ:∀(es:Es) {Z:Fm} {S:aa} {Q:G0 W×aa->Prop},kS es=true->wA M es Z S Q->Wp (cJ M es Z S) Q
 | .nil,Z,S,Q,k,h=>D4.mpr h
 | .cons e es,Z,S,Q,k,h=>Cb.mpr ((aO e (bS k) h).mono λp hp=>eJ es (cj k) hp)
theorem Au:∀(e:Ep) {Z:Fm} {S:aa} {Q:G7 Hg×aa->Prop},F9 e=true->wP M e Z S Q->Wp (qW M e Z S) Q
 | .no,Z,S,Q,k,h=>F5.mpr h
 | .yes a,Z,S,Q,k,h=>D0.mpr ((aO a k h).mono λp hp=>At hp)
theorem ig:∀(e:E) {Z:Fm} {S:aa} {Q:QB},dD e=true->wT M e Z S Q->Wp (cM M e Z S) Q
 | .cmp o a b,Z,S,Q,k,h=>D5.mpr (Ao.mpr ((aO a (bS k) h).mono λp hp=>(aO b (cj k) hp).mono λq hq=>(bI hq).mono λr hr=>oF hr))
 | .and a b,Z,S,Q,k,h=>D7.mpr ((ig a (bS k) h).mono λp hp=>#[λz=>ig b (cj k) (hp.1 z),hp.2])
 | .or a b,Z,S,Q,k,h=>F6.mpr ((ig a (bS k) h).mono λp hp=>#[hp.1,λz=>ig b (cj k) (hp.2 z)])
 | .not a,Z,S,Q,k,h=>D8.mpr (ig a k h)
 | .isi c a,Z,S,Q,k,h=>Ea.mpr (Ap.mpr ((aO a k h).mono λp hp=>let ⟨b,e,q⟩:=bI hp; #[b,e,b,rfl,q]))
 | .v i,Z,S,Q,k,h=>GU.mpr (Gw.mpr (let ⟨w,e,q⟩:=vK h; #[w,e,bI q]))
 | .own f n es,Z,S,Q,k,h=>D9.mpr (rf.mpr (by
   obtain⟨⟨ws,S1⟩,e,hq⟩:=eJ es (cj k) h;have hl:ws.length=n:=(eV e).trans (eq_of_beq (bS k));simp only[aF,HE hl]at hq;exact#[_,e,hl,(bI hq).mono λq hq=>bI hq]))
 | .c w,Z,S,Q,k,h=>h
 | .op o a b,Z,S,Q,k,h=>h
 | .bi b es,Z,S,Q,k,h=>F7.mpr (DZ.mpr ((eJ es k h).mono λp hp=>(bI hp).mono λq hq=>bI hq))
 | .me m o es,Z,S,Q,k,h=>h
 | .ix a b,Z,S,Q,k,h=>h
 | .sl a lo hi,Z,S,Q,k,h=>h
 | .tup es,Z,S,Q,k,h=>h
 | .lst es,Z,S,Q,k,h=>h
 | .neg a,Z,S,Q,k,h=>h
 | .dnew,Z,S,Q,k,h=>h
 | .disp es,Z,S,Q,k,h=>h
 | .chn o o' a b d,Z,S,Q,k,h=>D6.mpr (Aq ((aO a (bS (bS k)) h).mono λp hp=>(aO b (cj (bS k)) hp).mono λq hq=>let ⟨c,e,h1,h2⟩:=bI hq; #[c,e,λz=>(aO d (cj k) (h1 z)).mono λr hr=>(bI hr).mono λs hs=>oF hs,λz=>#[false,rfl,h2 z]]))
 | .ite t a b,Z,S,Q,k,h=>h
 | .ow2 f g n i es,Z,S,Q,k,h=>h
 | .comp elt tg it cs cap,Z,S,Q,k,h=>h
end
mutual
theorem Et:∀(s:Sm) {Z:Fm} {S:aa} {K:Fm->aa->Prop} {Q:QO},Gx s=true->wS M fuel s Z S K Q->Wp (fD M fuel s Z S) (pR K Q)
 | .set i e,Z,S,K,Q,k,h=>Cd.mpr (aO e k h)
 | .asg is e,Z,S,K,Q,k,h=>Ce.mpr ((aO e k h).mono λp hp=>let ⟨ws,e1,h1⟩:=Em hp; let ⟨Z',e2,h2⟩:=bI h1; #[ws,Z',e1,e2,h2])
 | .par i j es,Z,S,K,Q,k,h=>Cg.mpr ((eJ es k h).mono λp hp=>En hp)
 | .pr3 i j l es,Z,S,K,Q,k,h=>Ch ((eJ es k h).mono λp hp=>Eo hp)
 | .put o i e,Z,S,K,Q,k,h=>Ci.mpr ((aO e (cj k) h).mono λp hp=>(aO o (bS (bS k)) hp).mono λq hq=>(aO i (cj (bS k)) hq).mono λr hr=>bI hr)
 | .ex e,Z,S,K,Q,k,h=>Ec.mpr (aO e k h)
 | .ret e,Z,S,K,Q,k,h=>Cj.mpr (aO e k h)
 | .pass,Z,S,K,Q,k,h=>#[_,rfl,h]
 | .ite t a b,Z,S,K,Q,k,h=>Ck.mpr ((ig t (bS (bS k)) h).mono λp hp=>by
   obtain⟨h1,h2⟩:=hp (pR K Q) (λZ' S' z=>z) (λo S' hn z=>by cases o <;> first|exact z|exact absurd rfl (hn _))
   exact#[λz=>iX a (cj (bS k)) (h1 z),λz=>iX b (cj k) (h2 z)])
 | .whl t b,Z,S,K,Q,k,h=>h
 | .loop tg it b,Z,S,K,Q,k,h=>h
theorem iX:∀(ss:Ss) {Z:Fm} {S:aa} {Q:QO},gM ss=true->mY M fuel ss Z S Q->Wp (fN M fuel ss Z S) Q
 | .nil,Z,S,Q,k,h=>Eb.mpr h
 | .cons s ss,Z,S,Q,k,h=>Cc.mpr ((Et s (bS k) h).mono λp hp=>by
   obtain⟨o,S1⟩:=p;cases o with
   | nx Z'=>exact#[λZ2 e=>by cases e; exact iX ss (cj k) hp,λz=>absurd rfl (z Z')]
   | _=>exact#[λZ2 e=>(by cases e),λ_=>hp])
end
structure wZ (M:Hs->FF)(fuel:G9)(ss:Ss)(Z:Fm)(S:aa)(Q:QO):Prop where
 out:mY M fuel ss Z S Q
def Eu {ss:Ss}{Z:Fm}{S:aa}{Q:QO}:mY M fuel ss Z S Q=wZ M fuel ss Z S Q:=propext #[λh=>#[h],λh=>h.out]
def Co {defs:G0 (Hs×Df)}{d:G9}{f:Hs}{n:G9}{ws:G0 W}{df:Df}{S:aa}{Q:QW}(h:defs.lookup f=gV df)(hn:ws.length=n)(hl:ws.length=df.ps.length)(ok:gM df.body=true)
  (hb:∀Q':QO,(∀w S',Q (w,S')->Q' (.rt w,S'))->wZ (am defs fuel d) fuel df.body (eT df.N ws) S Q'):wO (aF (am defs fuel (d+1)) f n ws S) Q:=by
 unfold aF;rw[HE hn];exact El (sN h hl ((iX _ ok (hb (λp=>match p.1 with|.rt w=>Q (w,p.2)|_=>IJ) λw S' q=>q).out).mono λp hp=>by
  obtain⟨o,S1⟩:=p;cases o <;> first|exact hp|exact hp.elim))
end
section
variable{M:Hs->FF}{fuel:G9}{Z:Fm}{S:aa}{K:Fm->aa->Prop}{Q:QO}
abbrev zv (M:Hs->FF)(fuel:G9)(b:Ss)(Z:Fm)(S:aa)(I:Fm->aa->Prop)(Q:QO):Prop:=∀Q':QO,(∀Z' S',I Z' S'->Q' (.nx Z',S'))->(∀w S',Q (.rt w,S')->Q' (.rt w,S'))->wZ M fuel b Z S Q'
def gN {tg:Tg}{it:Ie}{b:Ss}{mi:MI}{S1:aa}{xs:G0 W}(I:G9->Fm->aa->Prop)(ok:gM b=true)(hi:ju M it Z S=gV (mi,S1))(hat:∀i Z S,I i Z S->mi.at S i=gV xs[i]?)(hl:mi.len S1=gV xs.length)(h0:I 0 Z S1)
  (hstep:∀(i:G9) (w:W) (Z:Fm) (S:aa),xs[i]?=gV w->I i Z S->wO (fF tg w Z S) λq=>zv M fuel b q.1 q.2 (I (i+1)) Q) (hend:∀Z S,I xs.length Z S->K Z S):Wp (fD M fuel (.loop tg it b) Z S) (pR K Q):=by
 rw[fD,Ed];show#[_,hi,xs.length,hl,?_];show iW (Q:=pR K Q) I hat (λi w Z S h1 h2=>?_) (λZ S h=>hend Z S h) _ 0 Z S1 ∅ h0
 exact(bI (hstep i w Z S h1 h2)).mono λq hq=>iX b ok (wZ.out (hq _ (λ_ _ h=>h) λ_ _ h=>h))
def bZ {e:E}{Q:QW}(ok:dD e=true)(h:wE M e Z S Q):∃w S',aA M e Z S=gV (w,S')/\Q (w,S'):=let ⟨⟨w,S'⟩,a,b⟩:=aO e ok h; #[w,S',a,b]
def bD {i0:G9}{e:E}{b:Ss}(j:Hg)(I:G9->Fm->aa->Prop)(oe:dD e=true)(ok:gM b=true)(hj : -(2 ^ 62)<=j/\j < 2 ^ 62)(he:wE M e Z S λp=>p.1=.int j/\I 0 Z p.2)
  (hstep:∀(i:G9) (Z:Fm) (S:aa),(i:Hg) < j->I i Z S->zv M fuel b (Z.set i0 (gV (.int i))) S (I (i+1)) Q) (hend:∀Z S,I j.toNat Z S->K Z S):Wp (fD M fuel (.loop (.nm i0) (.rng #v[e]) b) Z S) (pR K Q):=by
 obtain⟨w,S1,e1,rfl,h0⟩:=bZ oe he;have hl:(da 0 j.toNat).length=j.toNat:=by simp[da]
 show gN (mi:=.its (da 0 j.toNat)) (S1:=S1) (xs:=da 0 j.toNat) I ok ?_ (λ_ _ _ _=>rfl) rfl h0 (λi w Z S hw hI=>?_) λZ S hI=>hend Z S (hl ▸ hI)
 ·simp only[ju,cJ,dC,hG,pK,e1];rw[HE hj]
 ·rw[dY]at hw;split at hw
  ·rename_i hk;cases hw;rw[Lu];exact hstep i Z S ∅ hI
  ·cases hw
def for_tup {tg:Tg}{e:E}{b:Ss}(xs:G0 W)(I:G9->Fm->aa->Prop)(oe:dD e=true)(ok:gM b=true)(he:wE M e Z S λp=>p.1=.tup xs/\I 0 Z p.2)
  (hstep:∀(i:G9) (w:W) (Z:Fm) (S:aa),xs[i]?=gV w->I i Z S->wO (fF tg w Z S) λq=>zv M fuel b q.1 q.2 (I (i+1)) Q) (hend:∀Z S,I xs.length Z S->K Z S):Wp (fD M fuel (.loop tg (.seq e) b) Z S) (pR K Q):=by
 obtain⟨w,S1,e1,rfl,h0⟩:=bZ oe he;exact gN (mi:=.its xs) (S1:=S1) I ok (by simp only[ju,fu,e1]) (λ_ _ _ _=>rfl) rfl h0 hstep hend
def jA {tg:Tg}{e:E}{b:Ss}(t:G9)(xs:G0 W)(I:G9->Fm->aa->Prop)(oe:dD e=true)(ok:gM b=true)(he:wE M e Z S λp=>p.1=.ref t/\I 0 Z p.2)(hat:∀i Z S,I i Z S->S[t]?=gV (.lst xs))
  (hstep:∀(i:G9) (w:W) (Z:Fm) (S:aa),xs[i]?=gV w->I i Z S->wO (fF tg w Z S) λq=>zv M fuel b q.1 q.2 (I (i+1)) Q) (hend:∀Z S,I xs.length Z S->K Z S):Wp (fD M fuel (.loop tg (.seq e) b) Z S) (pR K Q):=by
 obtain⟨w,S1,e1,rfl,h0⟩:=bZ oe he;exact gN (mi:=.live t) (S1:=S1) I ok (by simp only[ju,fu,e1,aG (hat _ _ _ h0)]) (λi Z S h=>by simp only[MI.at,aG (hat _ _ _ h)]) (by simp only[MI.len,aG (hat _ _ _ h0),HR]) h0 hstep hend
def Av {t:E}{b:Ss}(I:G9->Fm->aa->Prop)(m:G9)(ot:dD t=true)(ok:gM b=true)(hm:m < fuel)(h0:I m Z S)
  (hstep:∀m Z S,I m Z S->wT M t Z S λk=>(k.1=true->∃m',m=m'+1/\zv M fuel b Z k.2 (I m') Q)/\(k.1=false->K Z k.2)):Wp (fD M fuel (.whl t b) Z S) (pR K Q):=by
 rw[fD];show j9 (Q:=pR K Q) I (λm Z S hI=>(ig t ot (hstep m Z S hI)).mono λk hk=>#[λz=>?_,λz=>hk.2 z]) fuel m Z S hm h0
 obtain⟨m',e,h⟩:=hk.1 z;exact#[m',e,iX b ok (wZ.out (h _ (λ_ _ h=>h) λ_ _ h=>h))]
abbrev wC (M:Hs->FF):Es->Fm->aa->QB->Prop
 | .nil,_,S,Q=>Q (true,S)
 | .cons e .nil,Z,S,Q=>wT M e Z S Q
 | .cons _ (.cons _ _),_,_,_=>IJ
def Aw {cs:Es}{Q:QB}(ok:kS cs=true)(h:wC M cs Z S Q):Wp (ze M cs Z S) Q:=by
 match cs,h,ok with
 | .nil,h,_=>exact Ee.mpr h
 | .cons e .nil,h,ok=>exact Ef.mpr (ig e (bS ok) h)
abbrev fA (M:Hs->FF)(elt:E)(cs:Es)(Z:Fm)(S:aa)(G:W->Fm->aa->Prop)(N:Fm->aa->Prop):Prop:=wC M cs Z S λk=>(k.1=true->wE M elt Z k.2 λy=>G y.1 Z y.2)/\(k.1=false->N Z k.2)
def ke {elt:E}{tg:Tg}{it:Ie}{cs:Es}{cap:G0 (G7 G9)}{mi:MI}{S1:aa}{xs:G0 W}{Q:QW}(I:G9->G0 W->Fm->aa->Prop)(oe:dD elt=true)(oc:kS cs=true)(hi:ju M it Z S=gV (mi,S1))(hat:∀i ys Z S,I i ys Z S->mi.at S i=gV xs[i]?)(hl:mi.len S1=gV xs.length)(h0:I 0 [] (eG cap Z) S1)
  (hstep:∀(i:G9) (w:W) (ys:G0 W) (Z:Fm) (S:aa),xs[i]?=gV w->I i ys Z S->wO (fF tg w Z S) λq=>fA M elt cs q.1 q.2 (λy=>I (i+1) (ys++[y])) (I (i+1) ys))
  (hend:∀ys Z S,I xs.length ys Z S->ys.length<=sizeLine/\Q (.ref S.length,S++[.lst ys])):Wp (aA M (.comp elt tg it cs cap) Z S) Q:=by
 rw[vG];show#[_,hi,xs.length,hl,?_];show(dG (xs:=xs) (Q:=λq=>q.1.length<=sizeLine/\Q (.ref q.2.length,q.2++[.lst q.1])) I hat (λi w ys Z S h1 h2=>?_) hend xs.length 0 [] _ S1 ∅ h0).mono λq hq=>by simpa using hq
 exact(bI (hstep i w ys Z S h1 h2)).mono λq hq=>(Aw oc hq).mono λk hk=>#[λz=>aO elt oe (hk.1 z),hk.2]
def eW {elt e:E}{i0:G9}{cs:Es}{cap:G0 (G7 G9)}{Q:QW}(j:Hg)(I:G9->G0 W->Fm->aa->Prop)(oi:dD e=true)(oe:dD elt=true)(oc:kS cs=true)(hj : -(2 ^ 62)<=j/\j < 2 ^ 62)(he:wE M e Z S λp=>p.1=.int j/\I 0 [] (eG cap Z) p.2)
  (hstep:∀(i:G9) (ys:G0 W) (Z:Fm) (S:aa),(i:Hg) < j->I i ys Z S->fA M elt cs (Z.set i0 (gV (.int i))) S (λy=>I (i+1) (ys++[y])) (I (i+1) ys))
  (hend:∀ys Z S,I j.toNat ys Z S->ys.length<=sizeLine/\Q (.ref S.length,S++[.lst ys])):Wp (aA M (.comp elt (.nm i0) (.rng #v[e]) cs cap) Z S) Q:=by
 obtain⟨w,S1,e1,rfl,h0⟩:=bZ oi he;have hl:(da 0 j.toNat).length=j.toNat:=by simp[da]
 show ke (mi:=.its (da 0 j.toNat)) (S1:=S1) (xs:=da 0 j.toNat) I oe oc ?_ (λ_ _ _ _ _=>rfl) rfl h0 (λi w ys Z S hw hI=>?_) λys Z S hI=>hend ys Z S (hl ▸ hI)
 ·simp only[ju,cJ,dC,hG,pK,e1];rw[HE hj]
 ·rw[dY]at hw;split at hw
  ·rename_i hk;cases hw;rw[Lu];exact hstep i ys Z S ∅ hI
  ·cases hw
def mZ {elt e:E}{tg:Tg}{cs:Es}{cap:G0 (G7 G9)}{Q:QW}(xs:G0 W)(I:G9->G0 W->Fm->aa->Prop)(oi:dD e=true)(oe:dD elt=true)(oc:kS cs=true)(he:wE M e Z S λp=>p.1=.tup xs/\I 0 [] (eG cap Z) p.2)
  (hstep:∀(i:G9) (w:W) (ys:G0 W) (Z:Fm) (S:aa),xs[i]?=gV w->I i ys Z S->wO (fF tg w Z S) λq=>fA M elt cs q.1 q.2 (λy=>I (i+1) (ys++[y])) (I (i+1) ys))
  (hend:∀ys Z S,I xs.length ys Z S->ys.length<=sizeLine/\Q (.ref S.length,S++[.lst ys])):Wp (aA M (.comp elt tg (.seq e) cs cap) Z S) Q:=by
 obtain⟨w,S1,e1,rfl,h0⟩:=bZ oi he;exact ke (mi:=.its xs) (S1:=S1) I oe oc (by simp only[ju,fu,e1]) (λ_ _ _ _ _=>rfl) rfl h0 hstep hend
def zw {elt e:E}{tg:Tg}{cs:Es}{cap:G0 (G7 G9)}{Q:QW}(t:G9)(xs:G0 W)(I:G9->G0 W->Fm->aa->Prop)(oi:dD e=true)(oe:dD elt=true)(oc:kS cs=true)(he:wE M e Z S λp=>p.1=.ref t/\I 0 [] (eG cap Z) p.2)(hat:∀i ys Z S,I i ys Z S->S[t]?=gV (.lst xs))
  (hstep:∀(i:G9) (w:W) (ys:G0 W) (Z:Fm) (S:aa),xs[i]?=gV w->I i ys Z S->wO (fF tg w Z S) λq=>fA M elt cs q.1 q.2 (λy=>I (i+1) (ys++[y])) (I (i+1) ys))
  (hend:∀ys Z S,I xs.length ys Z S->ys.length<=sizeLine/\Q (.ref S.length,S++[.lst ys])):Wp (aA M (.comp elt tg (.seq e) cs cap) Z S) Q:=by
 obtain⟨w,S1,e1,rfl,h0⟩:=bZ oi he;exact ke (mi:=.live t) (S1:=S1) I oe oc (by simp only[ju,fu,e1,aG (hat _ _ _ _ h0)]) (λi ys Z S h=>by simp only[MI.at,aG (hat _ _ _ _ h)]) (by simp only[MI.len,aG (hat _ _ _ _ h0),HR]) h0 hstep hend
def rh {elt a:E}{tg:Tg}{cs:Es}{cap:G0 (G7 G9)}{Q:QW}(xs:G0 W)(I:G9->G0 W->Fm->aa->Prop)(oa:dD a=true)(oe:dD elt=true)(oc:kS cs=true)(he:wE M a Z S λp=>E3 p.1=gV xs/\I 0 [] (eG cap Z) p.2)
  (hstep:∀(i:G9) (x:W) (ys:G0 W) (Z:Fm) (S:aa),xs[i]?=gV x->I i ys Z S->wO (fF tg (.tup [.int i,x]) Z S) λq=>fA M elt cs q.1 q.2 (λy=>I (i+1) (ys++[y])) (I (i+1) ys))
  (hend:∀ys Z S,I xs.length ys Z S->ys.length<=sizeLine/\Q (.ref S.length,S++[.lst ys])):Wp (aA M (.comp elt tg (.enu #v[a]) cs cap) Z S) Q:=by
 obtain⟨x,S1,e1,h1,h0⟩:=bZ oa he;have hl:(iS xs).length=xs.length:=by simp[iS]
 show ke (mi:=.its (iS xs)) (S1:=S1) (xs:=iS xs) I oe oc (by simp only[ju,cJ,dC,hG,vk,e1,h1]) (λ_ _ _ _ _=>rfl) rfl h0 (λi w ys Z S hw hI=>?_) λys Z S hI=>hend ys Z S (hl ▸ hI)
 obtain⟨y,hy,rfl⟩:=jZ hw;exact hstep i y ys Z S hy hI
def st {s:Sm}{ss:Ss}(h:wS M fuel s Z S (λZ' S'=>wZ M fuel ss Z' S' Q) Q):wZ M fuel (.cons s ss) Z S Q:=#[by
 dsimp only[mY];simp only[Eu];exact h]
def aP (h:Q (.nx Z,S)):wZ M fuel .nil Z S Q:=#[h]
def ae {t:HA}{a b:Ss}{Q Q0:QO}{K:Fm->aa->Prop}(ha:t=true->∀Q':QO,(∀Z' S',K Z' S'->Q' (.nx Z',S'))->(∀w S',Q (.rt w,S')->Q' (.rt w,S'))->wZ M fuel a Z S Q')(hb:t=false->∀Q':QO,(∀Z' S',K Z' S'->Q' (.nx Z',S'))->(∀w S',Q (.rt w,S')->Q' (.rt w,S'))->wZ M fuel b Z S Q') :
  ∀Q':QO,(∀Z' S',K Z' S'->Q' (.nx Z',S'))->(∀o S',(∀Z',o≠.nx Z')->Q (o,S')->Q' (o,S'))->(t=true->mY M fuel a Z S Q')/\(t=false->mY M fuel b Z S Q'):=
 λQ' h1 h2=>#[λe=>(ha e Q' h1 λw S'=>h2 (.rt w) S' (λ_ z=>nomatch z)).out,λe=>(hb e Q' h1 λw S'=>h2 (.rt w) S' (λ_ z=>nomatch z)).out]
end
abbrev d0:Ss:=
 #v[.ret (.lst #v[.bi .list #v[.v 0],.c (.int 0),.c (.int 0),.c (.int 1),.c (.int 0)])]
abbrev cG:Ss:=
 #v[.ite (.and (.cmp .eq (.ix (.v 0) (.c (.int 2))) (.c (.int 0))) (.cmp .lt (.ix (.v 0) (.c (.int 1))) (.bi .len #v[.ix (.v 0) (.c (.int 0))]))) #v[.set 2 (.ix (.ix (.v 0) (.c (.int 0))) (.ix (.v 0) (.c (.int 1)))),.put (.v 0) (.c (.int 1)) (.op .add (.ix (.v 0) (.c (.int 1))) (.c (.int 1))),.ite (.cmp .ge (.v 2) (.op .pow (.c (.int 10)) (.c (.int 18)))) #v[.put (.v 0) (.c (.int 2)) (.v 2)] #v[.put (.v 0) (.c (.int 3)) (.op .mod (.op .add (.op .add (.op .mul (.ix (.v 0) (.c (.int 3))) (.c (.int 40013))) (.op .mod (.v 2) (.c (.int 1000003)))) (.c (.int 1))) (.c (.int 2147483647)))]] .nil,.ite (.cmp .gt (.ix (.v 0) (.c (.int 2))) (.c (.int 0))) #v[.set 3 (.op .mod (.ix (.v 0) (.c (.int 2))) (.v 1)),.put (.v 0) (.c (.int 2)) (.op .fdiv (.ix (.v 0) (.c (.int 2))) (.v 1)),.ret (.v 3)] .nil,.put (.v 0) (.c (.int 4)) (.op .add (.ix (.v 0) (.c (.int 4))) (.c (.int 1))),.put (.v 0) (.c (.int 3)) (.op .mod (.op .add (.op .add (.op .mul (.ix (.v 0) (.c (.int 3))) (.c (.int 48271))) (.c (.int 12820163))) (.ix (.v 0) (.c (.int 4)))) (.c (.int 2147483647))),.ret (.op .mod (.op .fdiv (.op .mod (.op .mul (.op .add (.op .mod (.ix (.v 0) (.c (.int 3))) (.c (.int 65521))) (.c (.int 1))) (.op .add (.op .fdiv (.ix (.v 0) (.c (.int 3))) (.c (.int 65521))) (.c (.int 7919)))) (.c (.int 1000003))) (.c (.int 7))) (.v 1))]
abbrev dk:Ss:=
 #v[.ite (.cmp .lt (.v 3) (.v 2)) #v[.ret (.ix (.ix (.ix (.v 1) (.v 2)) (.c (.int 1))) (.v 3))] .nil,.ret (.ix (.ix (.ix (.v 0) (.c (.int 1))) (.ix (.ix (.ix (.v 1) (.v 3)) (.c (.int 1))) (.v 2))) (.c (.int 1)))]
abbrev dh:Ss:=
 #v[.set 3 (.lst .nil),.loop (.nm 4) (.rng #v[.bi .len #v[.v 2]]) #v[.set 5 (.ix (.v 2) (.v 4)),.ex (.me .append (.v 3) #v[.tup #v[.ix (.ix (.v 1) (.v 5)) (.c (.int 0)),.bi .tuple #v[.comp (.own "_law_between" 4 #v[.v 3,.v 4,.v 2,.v 1]) (.nm 1) (.seq (.sl (.v 2) .no (.yes (.v 4)))) .nil [td,td,gV 5,gV 0,gV 1]]]])],.ret (.bi .tuple #v[.v 3])]
abbrev fQ:Ss:=
 #v[.ret (.lst #v[.tup #v[.c (.int 0),.c (.int 1),.c (.int 2)],.tup #v[.c (.int 0),.c (.int 2),.c (.int 1)],.tup #v[.c (.int 1),.c (.int 0),.c (.int 2)],.tup #v[.c (.int 1),.c (.int 2),.c (.int 0)],.tup #v[.c (.int 2),.c (.int 0),.c (.int 1)],.tup #v[.c (.int 2),.c (.int 1),.c (.int 0)]])]
abbrev dH:Ss:=
 #v[.ret (.bi .min #v[.comp (.own "_law_part" 3 #v[.v 2,.v 3,.v 1]) (.nm 1) (.seq (.own "_law_turns" 0 .nil)) .nil [td,td,gV 0,gV 1]])]
abbrev ec:Ss:=
 #v[.set 2 (.ix (.lst #v[.lst #v[.tup #v[.c (.int 0)]],.lst #v[.tup #v[.c (.int 0),.c (.int 1)],.tup #v[.c (.int 1),.c (.int 0)]],.lst #v[.tup #v[.c (.int 0),.c (.int 1),.c (.int 2)],.tup #v[.c (.int 1),.c (.int 0),.c (.int 2)],.tup #v[.c (.int 0),.c (.int 2),.c (.int 1)]]]) (.op .sub (.v 1) (.c (.int 1)))),.ret (.ix (.v 2) (.own "_law_pick" 2 #v[.v 0,.bi .len #v[.v 2]]))]
abbrev dm:Ss:=
 #v[.set 4 (.own "_law_names" 2 #v[.v 0,.op .add (.v 1) (.bi .len #v[.v 2])]),.set 5 (.bi .tuple #v[.comp (.tup #v[.ix (.v 4) (.op .add (.v 3) (.v 1)),.ix (.v 2) (.v 1)]) (.nm 1) (.rng #v[.bi .len #v[.v 2]]) .nil [td,td,gV 2,gV 1,gV 4]]),.ret (.tup #v[.sl (.v 4) .no (.yes (.v 1)),.v 5,.bi .tuple #v[.bi .sorted #v[.v 3]]])]
abbrev b9:Ss:=
 #v[.set 3 (.lst .nil),.loop (.nm 4) (.rng #v[.c (.int 3)]) #v[.ex (.me .append (.v 3) #v[.tup #v[.own "_law_pick" 2 #v[.v 0,.v 1],.bi .tuple #v[.comp (.own "_law_pick" 2 #v[.v 2,.v 3]) (.nm 1) (.rng #v[.v 4]) .nil [td,td,gV 0,gV 2]]]])],.ret (.bi .tuple #v[.v 3])]
abbrev ee:Ss:=
 #v[.set 1 (.lst #v[.tup #v[.c (.int 1),.c (.int 1)],.tup #v[.c (.int 2),.c (.int 1)],.tup #v[.c (.int 3),.c (.int 1)],.tup #v[.c (.int 1),.c (.int 2)],.tup #v[.c (.int 1),.c (.int 2)],.tup #v[.c (.int 2),.c (.int 2)],.tup #v[.c (.int 2),.c (.int 2)],.tup #v[.c (.int 3),.c (.int 2)],.tup #v[.c (.int 1),.c (.int 3)],.tup #v[.c (.int 1),.c (.int 3)],.tup #v[.c (.int 2),.c (.int 3)]]),.ret (.ix (.v 1) (.own "_law_pick" 2 #v[.v 0,.c (.int 11)]))]
abbrev cR:Ss:=
 #v[.asg [1,2] (.own "_law_sizes" 1 #v[.v 0]),.set 3 (.own "_law_rule_of" 4 #v[.v 0,.v 1,.own "_law_backs" 2 #v[.v 0,.v 2],.tup .nil]),.set 4 .dnew,.loop (.nm 5) (.rng #v[.own "_law_pick" 2 #v[.v 0,.c (.int 9)]]) #v[.put (.v 4) (.own "_law_figure" 2 #v[.v 3,.own "_law_free_three" 3 #v[.v 0,.v 1,.v 2]]) (.c (.bl true))],.ret (.tup #v[.ix (.v 3) (.c (.int 0)),.ix (.v 3) (.c (.int 1)),.bi .tuple #v[.bi .sorted #v[.v 4]]])]
abbrev dI:Ss:=
 #v[.set 1 (.lst .nil),.loop (.nm 2) (.rng #v[.v 0]) #v[.loop (.nm 3) (.rng2 #v[.v 2,.v 0]) #v[.set 1 (.op .add (.v 1) (.comp (.tup #v[.v 2,.v 3,.v 1]) (.nm 1) (.rng2 #v[.v 3,.v 0]) .nil [td,td,gV 2,gV 3]))]],.ret (.v 1)]
abbrev bL:Ss:=
 #v[.set 1 (.op .add (.c (.int 1)) (.own "_law_pick" 2 #v[.v 0,.c (.int 3)])),.set 2 (.comp (.tup #v[.tup #v[.v 1,.tup .nil],.tup #v[.v 1,.tup #v[.c (.int 0)]],.tup #v[.v 1,.tup #v[.c (.int 0),.c (.int 0)]]]) (.nm 1) (.rng #v[.v 1]) #v[.cmp .eq (.own "_law_pick" 2 #v[.v 2,.c (.int 2)]) (.c (.int 0))] [td,td,gV 0]),.ret (.own "_law_rule_of" 4 #v[.v 0,.v 1,.tup #v[.c (.int 0)],.v 2])]
abbrev bc:Ss:=
 #v[.set 1 (.own "_law_pick" 2 #v[.v 0,.c (.int 3)]),.ite (.cmp .eq (.v 1) (.c (.int 0))) #v[.ret (.own "_law_rule_of" 4 #v[.v 0,.c (.int 1),.tup #v[.c (.int 0),.c (.int 1)],.comp (.tup #v[.tup #v[.c (.int 0),.tup .nil],.tup #v[.c (.int 0),.tup #v[.v 1]],.tup #v[.c (.int 0),.tup #v[.v 1,.v 1]]]) (.nm 1) (.rng #v[.c (.int 2)]) .nil [td,td]])] .nil,.ite (.cmp .eq (.v 1) (.c (.int 1))) #v[.set 2 (.own "_law_rule_of" 4 #v[.v 0,.c (.int 2),.tup #v[.c (.int 0),.c (.int 1)],.tup .nil]),.set 3 .dnew,.loop (.nm 4) (.seq (.own "_law_rising" 1 #v[.c (.int 2)])) #v[.loop (.tp [5,6,7]) (.seq (.lst #v[.tup #v[.c (.int 1),.c (.int 1),.c (.int 0)],.tup #v[.c (.int 1),.c (.int 1),.c (.int 1)],.tup #v[.c (.int 1),.c (.int 0),.c (.int 1)],.tup #v[.c (.int 0),.c (.int 1),.c (.int 1)]])) #v[.set 8 (.tup #v[.tup #v[.ix (.v 4) (.c (.int 0)),.tup .nil],.tup #v[.ix (.v 4) (.c (.int 1)),.tup #v[.v 5]]]),.put (.v 3) (.own "_law_figure" 2 #v[.v 2,.op .add (.v 8) (.tup #v[.tup #v[.ix (.v 4) (.c (.int 2)),.tup #v[.v 6,.v 7]]])]) (.c (.bl true))]],.ret (.tup #v[.ix (.v 2) (.c (.int 0)),.ix (.v 2) (.c (.int 1)),.bi .tuple #v[.bi .sorted #v[.v 3]]])] .nil,.set 9 (.op .add (.c (.int 2)) (.own "_law_pick" 2 #v[.v 0,.c (.int 2)])),.set 3 (.comp (.tup #v[.tup #v[.c (.int 0),.tup .nil],.tup #v[.v 1,.tup #v[.c (.int 0)]],.tup #v[.op .sub (.v 2) (.c (.int 1)),.tup #v[.c (.int 0),.c (.int 0)]]]) (.nm 1) (.rng #v[.v 9]) .nil [td,td,gV 9]),.ret (.own "_law_rule_of" 4 #v[.v 0,.v 9,.tup #v[.c (.int 0)],.sl (.v 3) .no (.yes (.op .add (.c (.int 1)) (.own "_law_pick" 2 #v[.v 0,.v 9])))])]
abbrev dt:Ss:=
 #v[.ite (.cmp .is (.v 1) (.c .non)) #v[.ret (.cmp .is (.v 0) (.c .non))] .nil,.ite (.or (.isi "bool" (.v 1)) (.isi "bool" (.v 0))) #v[.ret (.and (.isi "bool" (.v 1)) (.and (.isi "bool" (.v 0)) (.cmp .eq (.v 0) (.v 1))))] .nil,.ite (.isi "int" (.v 1)) #v[.ret (.and (.isi "int" (.v 0)) (.cmp .eq (.v 0) (.v 1)))] .nil,.ite (.isi "str" (.v 1)) #v[.ret (.and (.isi "str" (.v 0)) (.cmp .eq (.v 0) (.v 1)))] .nil,.ite (.or (.cmp .ne (.isi "tuple" (.v 1)) (.isi "tuple" (.v 0))) (.cmp .ne (.isi "list" (.v 1)) (.isi "list" (.v 0)))) #v[.ret (.c (.bl false))] .nil,.ret (.and (.cmp .eq (.bi .len #v[.v 0]) (.bi .len #v[.v 1])) (.bi .all #v[.comp (.own "_law_alike" 2 #v[.ix (.v 3) (.v 1),.ix (.v 2) (.v 1)]) (.nm 1) (.rng #v[.bi .len #v[.v 1]]) .nil [td,td,gV 1,gV 0]]))]
abbrev Is (defs:G0 (Hs×Df))(f:Hs)(np nn:G9)(b:Ss):Prop:=∃df:Df,defs.lookup f=gV df/\df.ps.length=np/\df.N.length=nn/\df.body=b
def aq {defs:G0 (Hs×Df)}{fuel d:G9}{f:Hs}{np nn:G9}{b:Ss}{ws:G0 W}{S:aa}{Q:QW}(h:Is defs f np nn b)(hl:ws.length=np)(ok:gM b=true)
  (hb:∀Q':QO,(∀w S',Q (w,S')->Q' (.rt w,S'))->wZ (am defs fuel d) fuel b (ws.map gV++Iq (nn - np) td) S Q'):wO (aF (am defs fuel (d+1)) f np ws S) Q:=by
 obtain⟨df,h1,h2,h3,h4⟩:=h;subst h4;show Co h1 hl (hl.trans h2.symm) ok λQ' hR=>?_
 have:=hb Q' hR;unfold eT;rw[h3,hl];exact this
abbrev ef:Ss:=
 #v[.ret (.bi .tuple #v[.comp (.ix (.c (.str "abcdef")) (.v 1)) (.nm 1) (.rng #v[.v 1]) .nil [td,td]])]
structure Gen (defs:G0 (Hs×Df)):Prop where
 pick:Is defs ("_law_pick" : Hs) 2 4 cG
 names:Is defs ("_law_names" : Hs) 2 2 ef
 between:Is defs ("_law_between" : Hs) 4 4 dk
 part:Is defs ("_law_part" : Hs) 3 6 dh
 turns:Is defs ("_law_turns" : Hs) 0 0 fQ
 figure:Is defs ("_law_figure" : Hs) 2 2 dH
 backs:Is defs ("_law_backs" : Hs) 2 3 ec
 rule_of:Is defs ("_law_rule_of" : Hs) 4 6 dm
 free_three:Is defs ("_law_free_three" : Hs) 3 5 b9
 sizes:Is defs ("_law_sizes" : Hs) 1 2 ee
 any_rule:Is defs ("_law_any_rule" : Hs) 1 6 cR
 rising:Is defs ("_law_rising" : Hs) 1 4 dI
 one_way_rule:Is defs ("_law_one_way_rule" : Hs) 1 3 bL
structure FlA (S:aa)(r q:G9)(ns:G0 Hg)(i c x n:Hg):Prop where
 at_r:S[r]?=gV (.lst [.ref q,.int i,.int c,.int x,.int n])
 at_q:S[q]?=gV (.lst (ns.map W.int))
 lt:q < r
 i0:0<=i
 c0:0<=c
 x0:0<=x
 x1:x < 2147483647
def FlA.ne {S:aa}{r q:G9}{ns:G0 Hg}{i c x n:Hg}(h:FlA S r q ns i c x n):q≠r:=HL h.lt
abbrev Fl (S:aa)(r:G9):Prop:=∃(q:G9) (ns:G0 Hg) (i c x n:Hg),FlA S r q ns i c x n
def FlA.put {S:aa}{r q:G9}{ns:G0 Hg}{i c x n i' c' x' n':Hg}(h:FlA S r q ns i c x n)(h1:0<=i')(h2:0<=c')(h3:0<=x')(h4:x' < 2147483647):FlA (S.set r (.lst [.ref q,.int i',.int c',.int x',.int n'])) r q ns i' c' x' n':=
 #[bY h.at_r,by rw[cg (Ne.symm h.ne)]; exact h.at_q,h.lt,h1,h2,h3,h4]
def Fl.keep {S S':aa}{r:G9}(h:Fl S r)(h1:S'[r]?=S[r]?)(k:Kp r S S'):Fl S' r:=
 let ⟨q,ns,i,c,x,n,f⟩:=h; #[q,ns,i,c,x,n,by rw[h1]; exact f.at_r,k.get _ _ f.ne f.at_q,f.lt,f.i0,f.c0,f.x0,f.x1]
def Fl.lt {S:aa}{r:G9}(h:Fl S r):r < S.length:=let ⟨_,_,_,_,_,_,f⟩:=h; cp f.at_r
structure Ka (S S':aa):Prop where
 get:∀(j:G9) (o:O),S[j]?=gV o->S'[j]?=gV o
 len:S.length<=S'.length
def Ka.refl {S:aa}:Ka S S:=#[λ_ _ h=>h,Hj _]
def Ka.trans {S S' S'':aa}(a:Ka S S')(b:Ka S' S''):Ka S S'':=#[λj o h=>b.get j o (a.get j o h),HK a.len b.len]
def Ka.push {S:aa}{o:O}:Ka S (S++[o]):=#[λj u h=>ay h,by simp]
def Ka.late {t:G9}{S0 S:aa}{o:O}(a:Ka S0 S)(h:S0.length<=t):Ka S0 (S.set t o):=
 #[λj u e=>by have:=cp e; rw[cg ∅]; exact a.get j u e,by simpa using a.len]
def Ka.kp {S S':aa}(a:Ka S S')(r:G9):Kp r S S':=#[λj o _ h=>a.get j o h,a.len]
def Fl.ka {S S':aa}{r:G9}(h:Fl S r)(k:Ka S S'):Fl S' r:=h.keep (by obtain⟨q,ns,i,c,x,n,f⟩:=h; rw[k.get _ _ f.at_r,f.at_r]) (k.kp r)
def Fl.own {S:aa}{r t:G9}{o:O}(h:Fl S r)(ht:r < t):Fl (S.set t o) r:=by
 obtain⟨q,ns,i,c,x,n,f⟩:=h;have:=f.lt;exact#[q,ns,i,c,x,n,by rw[cg ∅]; exact f.at_r,by rw[cg ∅]; exact f.at_q,f.lt,f.i0,f.c0,f.x0,f.x1]
def eL {S:aa}{r:G9}{xs:G0 W}{i:G9}{w:W}{Q:QW}(h:S[r]?=gV (.lst xs))(hw:xs[i]?=gV w)(q:Q (w,S)):wO (g8 (.ref r) (.int (i:Hg)) S) Q:=ab (vJ h (Hf i) (by rw[Hr]; exact hw)) q
def lM {S:aa}{r:G9}{xs:G0 W}{i:G9}{w:W}{Q:aa->Prop}(h:S[r]?=gV (.lst xs))(hi:Ql (i+1) xs.length=true)(q:Q (S.set r (.lst (xs.set i w)))):wO (jt (.ref r) (.int (i:Hg)) w S) Q:=ab (Ei h (Hf i) (by rw[Hr]; exact HU hi)) (by rw[Hr]; exact q)
section
variable{defs:G0 (Hs×Df)}{fuel d:G9}{S:aa}{r:G9}{Q:QW}
def aL (hd:Is defs ("_law_pick" : Hs) 2 4 cG){m:Hg}(hf:Fl S r)(h0:0 < m)(h1:m < 1073741824)(k:∀v S',0<=v->v < m->Fl S' r->Kp r S S'->Q (.int v,S')) :
  wO (aF (am defs fuel (d+1)) "_law_pick" 2 [.ref r,.int m] S) Q:=by
 obtain⟨q,ns,i,c,x,n,f⟩:=hf;show aq hd rfl rfl λQ' hR=>?_
 replace k:∀v S',0<=v->v < m->Fl S' r->Kp r S S'->Q' (.rt (.int v),S'):=λv S' a b c e=>hR _ _ (k v S' a b c e)
 clear hR;change wZ _ _ cG [gV (.ref r),gV (.int m),td,td] S Q';have cz:∀(S1:aa) (w2:G7 W) (i1 c1 x1 n1:Hg),FlA S1 r q ns i1 c1 x1 n1->Kp r S S1->wZ (am defs fuel d) fuel (match cG with|.cons _ ss=>ss|.nil=>.nil) [gV (.ref r),gV (.int m),w2,td] S1 Q':=by
  intro S1 w2 i1 c1 x1 n1 f1 k1;dsimp only[cG];show st ?_;dsimp only[wS,wT,wE,wV,wG];show eL (i:=2) f1.at_r rfl ?_;dsimp only[zq,wO,wB];show ae (Q0:=Q') (λhg Q2 hn hr=>?_) (λhg Q2 hn hr=>?_)
  ·clear hn;show st ?_;dsimp only[wS,wE,wV,wG];show eL (i:=2) f1.at_r rfl (ab (oE h0) ?_);show st ?_;dsimp only[wS,wE,wV,wG,Hh];show eL (i:=2) f1.at_r rfl (ab (Cm h0 h1) (lM (i:=2) f1.at_r rfl ?_));show st ?_;dsimp only[wS,wE,wV,wG,Hh];exact hr _ _ (k _ _ (KQ _ ∅) (Kk _ h0) #[q,ns,i1,c1 / m,x1,n1,f1.put f1.i0 (Oz f1.c0 ∅) f1.x0 f1.x1] (k1.trans .set))
  ·show aP (hn _ _ ?_);clear hn hr;have f2:FlA (S1.set r (.lst [.ref q,.int i1,.int c1,.int x1,.int (n1+1)])) r q ns i1 c1 x1 (n1+1):=f1.put f1.i0 f1.c0 f1.x0 f1.x1;show st ?_;dsimp only[wS,wE,wV,wG];show eL (i:=4) f1.at_r rfl ?_;dsimp only[cQ,wO];show lM (i:=4) f1.at_r rfl ?_;show st ?_;dsimp only[wS,wE,wV,wG,Hh];show eL (i:=3) f2.at_r rfl (ab (vH #v[] #v[]) ?_)
   dsimp only[cQ,wO];show eL (i:=4) f2.at_r rfl ?_;dsimp only[cQ,wO];show(lM (i:=3) f2.at_r rfl ?_);have f3:FlA ((S1.set r (.lst [.ref q,.int i1,.int c1,.int x1,.int (n1+1)])).set r (.lst [.ref q,.int i1,.int c1,.int ((x1*48271+12820163+(n1+1)) % 2147483647),.int (n1+1)])) r q ns i1 c1 ((x1*48271+12820163+(n1+1)) % 2147483647) (n1+1):=f2.put f1.i0 f1.c0 (KQ _ #v[]) (Kk _ #v[])
   dsimp only[Hh];generalize(x1*48271+12820163+(n1+1)) % 2147483647=y at f3 ⊢;have b1:y / 65521+7919 < 2 ^ 64:=by
    have:=f3.x1;have:=Int.ediv_le_self 65521 f3.x0;omega
   have b2 : -(2 ^ 64) < y / 65521+7919:=by
    have:=Oz f3.x0 (show(0:Hg)<=65521 by decide)
    omega
   show st ?_;dsimp only[wS,wE,wV,wG,Hh];show eL (i:=3) f3.at_r rfl (ab (oE #v[]) ?_)
   dsimp only[cQ,wO];show eL (i:=3) f3.at_r rfl ?_;dsimp only[cQ,wO];show ab (vH b2 b1) ?_;show ab (oE h0) ?_;exact k _ _ (KQ _ ∅) (Kk _ h0) #[q,ns,_,_,_,_,f3] (k1.trans (Kp.set.trans .set))
 dsimp only[cG]at cz ⊢;show st ?_;dsimp only[wS,wT,wE,wV,wG,wA];show eL (i:=2) f.at_r rfl ?_;dsimp only[ie,wO,wB];have skip:∀Q2:QO,(∀Z' S',wZ (am defs fuel d) fuel _ Z' S' Q'->Q2 (.nx Z',S'))->Q2 (.nx [gV (.ref r),gV (.int m),td,td],S):=λQ2 hn=>hn _ _ (cz S td i c x n f .refl)
 show#[λ_=>?_,λ_ Q2 hn hr=>#[λz=>(by cases z),λ_=>(aP (skip Q2 hn)).out]]
 show eL (i:=1) f.at_r rfl (eL (i:=0) f.at_r rfl (ab (As f.at_q) ?_));dsimp only[zp,wO,wB];show ae (Q0:=Q') (λhl Q2 hn _=>?_) (λhg Q2 hn hr=>aP (skip Q2 hn))
 clear skip;have hl':i.toNat < ns.length:=by
  have:=ID hl;rw[G1]at this;have:=f.i0;omega
 have hcell:(ns.map W.int)[i.toNat]?=gV (.int ns[i.toNat]):=by simp[hl']
 generalize ns[i.toNat]=cell at hcell;have f1:FlA (S.set r (.lst [.ref q,.int (i+1),.int c,.int x,.int n])) r q ns (i+1) c x n:=f.put (by have:=f.i0; omega) f.c0 f.x0 f.x1
 show st ?_;dsimp only[wS,wE,wV,wG];show eL (i:=0) f.at_r rfl (eL (i:=1) f.at_r rfl (ab (vJ f.at_q f.i0 hcell) ?_));show st ?_;dsimp only[wS,wE,wV,wG,Hh];show eL (i:=1) f.at_r rfl ?_;dsimp only[cQ,wO];show lM (i:=1) f.at_r rfl ?_;show st ?_;dsimp only[wS,wT,wE,wV,wG,Cn,F8,wO,wB];show ae (Q0:=Q') (λhg Q3 hn3 _=>?_) (λhg Q3 hn3 _=>?_)
 ·show st ?_;dsimp only[wS,wE,wV,wG];show lM (i:=2) f1.at_r rfl (aP (hn3 _ _ (aP (hn _ _ ?_))));exact cz _ _ (i+1) cell x n (f1.put f1.i0 (by have:=ID hg; omega) f.x0 f.x1) (Kp.set.trans .set)
 ·show st ?_;dsimp only[wS,wE,wV,wG];show eL (i:=3) f1.at_r rfl (ab (vH #v[] #v[]) (ab (oE #v[]) ?_))
  dsimp only[cQ,wO];show lM (i:=3) f1.at_r rfl (aP (hn3 _ _ (aP (hn _ _ ?_))));exact cz _ _ (i+1) c _ n (f1.put f1.i0 f.c0 (KQ _ #v[]) (Kk _ #v[])) (Kp.set.trans .set)
end
abbrev dr:G9->Ss->Ss
 | 0,ss=>ss
 | n+1,.cons _ ss=>dr n ss
 | _,.nil=>.nil
def bv {α:Type}{a:α}{Q:α->Prop}:wO (gV a) Q=Q a:=rfl
def aM {M:Hs->FF}{fuel:G9}{Z:Fm}{S:aa}{Q:QO}{s:Sm}{ss:Ss}(h:∀K:Fm->aa->Prop,(∀Z' S',wZ M fuel ss Z' S' Q->K Z' S')->wS M fuel s Z S K Q):wZ M fuel (.cons s ss) Z S Q:=st (h _ λ_ _ h=>h)
def ii {n:G9}(h:Ql n 1000=true):n<=sizeLine:=HK (HU h) (by rw[IE]; decide)
def kU {n:G9}(h:n<=1000):n<=sizeLine:=HK h (by rw[IE]; decide)
def ij {S:aa}{r:G9}{xs:G0 W}{i:Hg}{w:W}{Q:QW}(h:S[r]?=gV (.lst xs))(h0:0<=i)(hw:xs[i.toNat]?=gV w)(q:Q (w,S)):wO (g8 (.ref r) (.int i) S) Q:=ab (vJ h h0 hw) q
def ac {S:aa}{xs:G0 W}{i:Hg}{w:W}{Q:QW}(h0:0<=i)(hw:xs[i.toNat]?=gV w)(q:Q (w,S)):wO (g8 (.tup xs) (.int i) S) Q:=ab (Eg h0 hw) q
def jl {S:aa}{r:G9}{xs:G0 W}{y:W}{Q:QW}(h:S[r]?=gV (.lst xs))(hl:xs.length < 1000)(q:Q (.non,S.set r (.lst (xs++[y])))):wO (Me.append.fn (.ref r) [y] S) Q:=ab (Ej h (HJ hl (ii rfl))) q
def rj {S:aa}{r:G9}{xs:G0 W}{Q:QW}(h:S[r]?=gV (.lst xs))(q:Q (.int xs.length,S)):wO (Bi.len.fn [.ref r] S) Q:=ab (As h) q
def aC {S:aa}{xs:G0 W}{Q:QW}(q:Q (.int xs.length,S)):wO (Bi.len.fn [.tup xs] S) Q:=q
def d3 {S:aa}{r:G9}{xs:G0 W}{Q:QW}(h:S[r]?=gV (.lst xs))(q:Q (.tup xs,S)):wO (Bi.tuple.fn [.ref r] S) Q:=ab (Ek h) q
abbrev Ev (y:Hs):Prop:=∀c∈y.cps.toList,97<=c/\c<=122
abbrev Name (y:Hs):Prop:=1<=y.cps.toList.length/\y.cps.toList.length<=8/\Ev y
def vM {α:Type}{f:α->W}{xs:G0 α}{i:G9}(h:i < xs.length):∃x∈xs,(xs.map f)[i]?=gV (f x):=#[xs[i],Iu _,by rw[Hc,Hi h]; rfl]
def m3 {α:Type}[Kw α]:∀(l m:G0 α),l.Nodup->(∀x∈l,x∈m)->l.length<=m.length
 | [],_,_,_=>IS _
 | x::l,m,hn,hs=>by
  rw[Jj]at hn;have hx:x∈m:=hs x (.head _);have h1:=m3 l (m.erase x) hn.2 λy hy=>(List.mem_erase_of_ne (λ(e:y=x)=>hn.1 (by rw[<- e]; exact hy))).mpr (hs y (.tail _ hy))
  rw[List.length_erase_of_mem hx]at h1;have:=Mq hx;rw[Ih]; omega
abbrev zz (k:G9):Hs:=#[[97+k].toArray]
def sO {k:G9}(h:k < 26):Name (zz k):=#[Hj 1,(by decide:1<=8),λc hc=>by
 cases Hk.mp (show c∈[97+k]from hc)
 omega]
abbrev pS:G0 Hs:=["marks","ways","bar","some","each","not","and","or","is"]
def cU {xs:G0 W}{k:G9}:jr xs td (gV (k:Hg))=xs.take k:=by
 unfold jr;rw[HT.jG,HT.qv,OU,NR]
 by_cases h:k<=xs.length
 ·rw[OA h]
 ·rw[Of ∅,Ld (Hj _),Ld ∅]
def kg {xs:G0 W}{k:G9}:jr xs (gV (k:Hg)) td=xs.drop k:=by
 unfold jr;rw[HT.jG,HT.qv]
 by_cases h:k<=xs.length
 ·rw[OA h,Ld (by rw[Jp]; exact Hj _)]
 ·rw[Of ∅,Mr (Hj _),Mr ∅]; exact List.take_nil
section
variable{defs:G0 (Hs×Df)}{fuel d:G9}{S:aa}{r:G9}{Q:QW}
def vN:∀m,m<=6->(pS++(Ho m).map zz).Nodup:=λm hm=>by
 rcases(show m=0\/m=1\/m=2\/m=3\/m=4\/m=5\/m=6 by omega)with rfl|rfl|rfl|rfl|rfl|rfl|rfl <;> decide
def zA:∀k:Fin 6,("abcdef" : Hs).cps.toList[k.val]?=gV (97+k.val):=by decide
def zB (hfu:20 < fuel)(G:Gen defs){m:G9}(hf:Fl S r)(h1:m<=6)(k:∀(ys:G0 Hs) S',ys.length=m->(∀y∈ys,Name y)->(pS++ys).Nodup->Fl S' r->Kp r S S'->Q (.tup (ys.map W.str),S')) :
  wO (aF (am defs fuel (d+4)) "_law_names" 2 [.ref r,.int m] S) Q:=by
 show aq G.names rfl rfl λQ' hR=>?_
 change wZ _ _ ef [gV (.ref r),gV (.int m)] S Q';dsimp only[ef];show st ?_;dsimp only[wS,wE,wA];show eW (m:Hg) (λi ys Z2 S2=>(∃a1,Z2=[td,a1])/\ys=((Ho i).map zz).map W.str/\S2=S) rfl rfl rfl ∅ #[rfl,#[td,rfl],rfl,rfl] ?_ ?_
 ·rintro i ys Z2 S2 hi ⟨⟨a1,rfl⟩,rfl,rfl⟩;dsimp only[fA,wC,wE,wV,wG,Hh];show#[λ_=>ab (Eh (c:=97+i) #v[] (Hf i) ?_) #[#[_,rfl],?_,rfl],λz=>by cases z]
  ·rw[Hr]; exact zA #[i,∅]
  ·rw[Jd,Hy,Hy]; rfl
 ·rintro ys Z2 S2 ⟨_,rfl,rfl⟩;rw[Hr];show#[kU (by rw[G1,G1,HG]; omega),d3 aj (hR _ _ (k ((Ho m).map zz) _ (by rw[G1,HG]) (λy hy=>?_) (vN m h1) (hf.ka .push) .push))]
  obtain⟨i,hi,rfl⟩:=Hz.mp hy;exact sO (by have:=Hu.mp hi; omega)
end
noncomputable abbrev Pt:=Hg×G0 Hg
noncomputable abbrev Wd:=G0 Pt
abbrev ag (p:Pt):W:=.tup [.int p.1,.tup (p.2.map W.int)]
abbrev ak (u:Wd):W:=.tup (u.map ag)
abbrev oG (p:Pt):T:=.tup [.int p.1,.tup (p.2.map T.int)]
abbrev dB (u:Wd):T:=.tup (u.map oG)
def rm:∀xs:G0 Hg,T.ws (xs.map T.int)=xs.map W.int
 | []=>rfl
 | x::xs=>by simp[T.ws,T.w,rm xs]
def Ew (p:Pt):(oG p).w=ag p:=by simp[oG,ag,T.w,T.ws,rm]
def vO:∀u:Wd,T.ws (u.map oG)=u.map ag
 | []=>rfl
 | p::u=>by simp[T.ws,Ew,vO u]
def vP (u:Wd):(dB u).w=ak u:=by simp[dB,ak,T.w,vO]
def vQ (u:Wd):W.t (ak u)=gV (dB u):=by rw[<- vP]; exact T.w_t _
def vR:∀us:G0 Wd,T.ws (us.map dB)=us.map ak
 | []=>rfl
 | u::us=>by simp[T.ws,vP,vR us]
def Ax (us:G0 Wd):W.ts (us.map ak)=gV (us.map dB):=by rw[<- vR]; exact T.ws_ts _
def kh:∀xs:G0 Hg,T.depths (xs.map T.int)=0
 | []=>rfl
 | x::xs=>by simp[T.depths,T.depth,kh xs]
def vS (p:Pt):(oG p).depth=2:=by simp[oG,T.depth,T.depths,kh]
def lN:∀u:Wd,T.depths (u.map oG)<=2
 | []=>by simp[T.depths]
 | p::u=>by
  have:=lN u;simp only[IK,T.depths,vS]; omega
def oH (u:Wd):(dB u).depth<=3:=by
 have:=lN u;simp only[dB,T.depth]; omega
def iY:∀us:G0 Wd,T.depths (us.map dB)<=3
 | []=>by simp[T.depths]
 | u::us=>by
  have:=iY us;have:=oH u;simp only[IK,T.depths]; omega
def gO (u:Wd):js (ak u)=gV (dB u):=by
 unfold js;rw[vQ];show(if (dB u).isTup=true/\(dB u).depth<=bh then _ else _)=_
 rw[HE #[rfl,by have:=oH u; unfold bh; omega]]
mutual
def oI:T->T->HA
 | .int _,.int _=>true
 | .str _,.str _=>true
 | .tup xs,.tup ys=>ik xs ys
 | _,_=>false
def ik:G0 T->G0 T->HA
 | [],_=>true
 | _,[]=>true
 | x::xs,y::ys=>oI x y&&ik xs ys
end
mutual
theorem vT:∀x y:T,oI x y=true->(yr x y).isSome=true
 | .int _,.int _,_=>rfl
 | .str _,.str _,_=>rfl
 | .tup xs,.tup ys,h=>by
  dsimp only[oI]at h;dsimp only[yr];exact rn xs ys h
 | .int _,.str _,h|.int _,.tup _,h|.str _,.int _,h|.str _,.tup _,h|.tup _,.int _,h|.tup _,.str _,h=>by cases h
theorem rn:∀xs ys:G0 T,ik xs ys=true->(nX xs ys).isSome=true
 | [],[],_=>rfl
 | [],_::_,_=>rfl
 | _::_,[],_=>rfl
 | x::xs,y::ys,h=>by
  dsimp only[ik]at h; simp only[G8]at h
  dsimp only[nX];split
  ·exact rn xs ys h.2
  ·exact vT x y h.1
end
def oJ:∀xs ys:G0 Hg,ik (xs.map T.int) (ys.map T.int)=true
 | [],_=>rfl
 | _::_,[]=>rfl
 | x::xs,y::ys=>by dsimp only[Qg,ik,oI]; simp[oJ xs ys]
def Cp (p q:Pt):oI (oG p) (oG q)=true:=by dsimp only[oG,oI,ik]; simp[oJ]
def rq:∀u v:Wd,ik (u.map oG) (v.map oG)=true
 | [],_=>rfl
 | _::_,[]=>rfl
 | p::u,q::v=>by dsimp only[Qg,ik]; simp[Cp,rq u v]
def Cq (u v:Wd):oI (dB u) (dB v)=true:=by dsimp only[dB,oI]; exact rq _ _
def lO (us:G0 Wd):jR (us.map dB)=true:=by
 unfold jR;rw[HC];intro x hx;obtain⟨u,_,rfl⟩:=Hz.mp hx;rw[HC];intro y hy;obtain⟨v,_,rfl⟩:=Hz.mp hy;exact vT _ _ (Cq u v)
def Cr (us:G0 Wd)(h:∀u∈us,u≠[]):(yt (us.map dB)).isSome=true:=by
 unfold yt;split
 ·rfl
 ·split
  ·rfl
  ·split
   ·rfl
   ·split
    ·rfl
    ·split
     ·rfl
     ·rename_i h5;exfalso;apply h5;rw[HC];intro x hx;obtain⟨u,hu,rfl⟩:=Hz.mp hx;cases u with
      | nil=>exact absurd rfl (h [] hu)
      | cons p u=>rfl
abbrev bx (bs:G0 Hg)(u:Wd)(i j:G9):Hg:=if j < i then((u.getD i (0,[])).2).getD j 0 else bs.getD (((u.getD j (0,[])).2).getD i 0).toNat 0
abbrev au (bs:G0 Hg)(u:Wd)(ps:G0 G9):Wd:=(Ho ps.length).map λk=>((u.getD (ps.getD k 0) (0,[])).1,(ps.take k).map λj=>bx bs u (ps.getD k 0) j)
abbrev az:G0 (G0 G9):=[[0,1,2],[0,2,1],[1,0,2],[1,2,0],[2,0,1],[2,1,0]]
abbrev ki (bs:G0 Hg)(u:Wd):Wd:=(az.map (au bs u)).getD (mK ((az.map (au bs u)).map dB)) []
abbrev aD (n:Hs)(b:Hg):W:=.tup [.str n,.int b]
structure GoodW (a n:G9)(u:Wd):Prop where
 mark:∀(k:G9) (p:Pt),u[k]?=gV p->0<=p.1/\p.1 < a
 len:∀(k:G9) (p:Pt),u[k]?=gV p->p.2.length=k
 way:∀(k:G9) (p:Pt),u[k]?=gV p->∀w∈p.2,0<=w/\w < n
abbrev GoodB (bs:G0 Hg):Prop:=bs=[0]\/bs=[0,1]\/bs=[1,0]\/bs=[0,1,2]\/bs=[1,0,2]\/bs=[0,2,1]
def GoodB.rng {bs:G0 Hg}(h:GoodB bs):∀k:G9,k < bs.length->∃b:Hg,bs[k]?=gV b/\0<=b/\b < bs.length:=by
 rcases h with rfl|rfl|rfl|rfl|rfl|rfl <;> intro k hk
 ·match k,hk with
  | 0,_=>exact#[0,rfl,#v[],#v[]]
 ·match k,hk with
  | 0,_=>exact#[0,rfl,#v[],#v[]]
  | 1,_=>exact#[1,rfl,#v[],#v[]]
 ·match k,hk with
  | 0,_=>exact#[1,rfl,#v[],#v[]]
  | 1,_=>exact#[0,rfl,#v[],#v[]]
 ·match k,hk with
  | 0,_=>exact#[0,rfl,#v[],#v[]]
  | 1,_=>exact#[1,rfl,#v[],#v[]]
  | 2,_=>exact#[2,rfl,#v[],#v[]]
 ·match k,hk with
  | 0,_=>exact#[1,rfl,#v[],#v[]]
  | 1,_=>exact#[0,rfl,#v[],#v[]]
  | 2,_=>exact#[2,rfl,#v[],#v[]]
 ·match k,hk with
  | 0,_=>exact#[0,rfl,#v[],#v[]]
  | 1,_=>exact#[2,rfl,#v[],#v[]]
  | 2,_=>exact#[1,rfl,#v[],#v[]]
def getD_some {α:Type}{xs:G0 α}{i:G9}{x d:α}(h:xs[i]?=gV x):xs.getD i d=x:=by simp[h]
def ar {α:Type}{xs:G0 α}{i:G9}{d:α}(h:i < xs.length):xs[i]?=gV (xs.getD i d):=by simp[h]
def kj {ns:G0 Hs}{bs:G0 Hg}{k:G9}{n:Hs}{b:Hg}(h1:ns[k]?=gV n)(h2:bs[k]?=gV b):(He aD ns bs)[k]?=gV (aD n b):=by
 rw[List.getElem?_zipWith,h1,h2]
abbrev aw (ps:G0 G9):G0 W:=ps.map λ(p:G9)=>W.int (p:Hg)
def jB {ps:G0 G9}{k p:G9}(h:ps[k]?=gV p):(aw ps)[k]?=gV (.int p):=by simp[aw,h]
def aV (bs:G0 Hg)(u:Wd)(ps:G0 G9):(au bs u ps).length=ps.length:=by unfold au; rw[G1,HG]
def cq {u:Wd}{i:G9}(hi:i < u.length):(u.map ag)[((i:G9):Hg).toNat]?=gV (ag (u.getD i (0,[]))):=by
 rw[Hr,Hc,ar hi]; rfl
section
variable{defs:G0 (Hs×Df)}{fuel d:G9}{S:aa}{r:G9}{Q:QW}
def vU {M:Hs->FF}{m0 b0:W}{ns:G0 Hs}{bs:G0 Hg}{a:G9}{u:Wd}{i j:G9}{Q:QO}(hb:GoodB bs)(hl:ns.length=bs.length)(hu:GoodW a bs.length u)(hi:i < u.length)(hj:j < u.length)(hij:i≠j)(k:Q (.rt (.int (bx bs u i j)),S)) :
  wZ M fuel dk [gV (.tup [m0,.tup (He aD ns bs),b0]),gV (ak u),gV (.int i),gV (.int j)] S Q:=by
 have hpi:=ar (d:=(0,[])) hi;have hpj:=ar (d:=(0,[])) hj;unfold bx at k;dsimp only[dk];nofun
 dsimp only[wS,wT,wE,wV,wG,zp,wO,wB,ak];show ae (Q0:=Q) (λh Q2 _ hr=>?_) (λh Q2 hn _=>?_)
 ·have hji:j < i:=by have:=ID h; omega
  rw[HE hji]at k;have hw:j < (u.getD i (0,[])).2.length:=by rw[hu.len i _ hpi]; exact hji
  show st ?_;dsimp only[wS,wE,wV,wG];show ac (Hf i) (cq hi) (ac #v[] rfl (ac (Hf j) ?_ (hr _ _ k)))
  rw[Hr,Hc,ar (d:=0) hw]; rfl
 ·have hji:¬ j < i:=by have:=JR h; omega
  rw[HX hji]at k;show aP (hn _ _ (hK _ _ ?_));clear hn hK;have hw:i < (u.getD j (0,[])).2.length:=by rw[hu.len j _ hpj]; omega
  have hg:=ar (d:=0) hw;obtain⟨g1,g2⟩:=hu.way j _ hpj _ (Hn hg);obtain⟨b,hb1,hb2,hb3⟩:=hb.rng ((u.getD j (0,[])).2.getD i 0).toNat ∅
  have hn:((u.getD j (0,[])).2.getD i 0).toNat < ns.length:=∅
  rw[getD_some hb1]at k;show st ?_;dsimp only[wS,wE,wV,wG];show ac #v[] rfl (ac (Hf j) (cq hj) (ac #v[] rfl (ac (Hf i) ?_ (ac g1 (kj (Hi hn) hb1) (ac #v[] rfl k)))))
  rw[Hr,Hc,hg]; rfl
def lP (G:Gen defs){m0 b0:W}{ns:G0 Hs}{bs:G0 Hg}{a:G9}{u:Wd}{i j:G9}(hb:GoodB bs)(hl:ns.length=bs.length)(hu:GoodW a bs.length u)(hi:i < u.length)(hj:j < u.length)(hij:i≠j)(k:Q (.int (bx bs u i j),S)) :
  wO (aF (am defs fuel (d+1)) "_law_between" 4 [.tup [m0,.tup (He aD ns bs),b0],ak u,.int i,.int j] S) Q:=
 aq G.between rfl rfl λQ' hR=>vU hb hl hu hi hj hij (hR _ _ k)
def vV (G:Gen defs){m0 b0:W}{ns:G0 Hs}{bs:G0 Hg}{a:G9}{u:Wd}{ps:G0 G9}(hb:GoodB bs)(hl:ns.length=bs.length)(hu:GoodW a bs.length u)(hps:∀p∈ps,p < u.length)(hnd:ps.Nodup)(hsz:ps.length < 1000)(k:∀S',Ka S S'->Q (ak (au bs u ps),S')) :
  wO (aF (am defs fuel (d+2)) "_law_part" 3 [.tup [m0,.tup (He aD ns bs),b0],ak u,.tup (aw ps)] S) Q:=by
 show aq G.part rfl rfl λQ' hR=>?_
 replace k:∀S',Ka S S'->Q' (.rt (ak (au bs u ps)),S'):=λS' a=>hR _ _ (k S' a)
 clear hR;change wZ _ _ dh [gV (.tup [m0,.tup (He aD ns bs),b0]),gV (ak u),gV (.tup (aw ps)),td,td,td] S Q';generalize hR0:W.tup [m0,.tup (He aD ns bs),b0]=R;dsimp only[dh];show st ?_;dsimp only[wS,wE,wA,Hh];nofun
 have nl:(aw ps).length=ps.length:=G1 ..;show bD (ps.length:Hg) (λk Z S'=>∃a4 a5,Z=[gV R,gV (ak u),gV (.tup (aw ps)),gV (.ref S.length),a4,a5]/\S'[S.length]?=gV (.lst (((au bs u ps).take k).map ag))/\Ka S S') rfl rfl ∅ ?_ ?_ ?_
 ·dsimp only[wE,wA,wV,wG];show aC ?_;rw[nl];exact#[rfl,td,td,rfl,aj,.push]
 ·rintro i Z S1 hi ⟨a4,a5,rfl,e1,k1⟩ Q2 hn _;clear hK;have hi':i < ps.length:=∅
  have hp:ps[i]?=gV ps[i]:=Hi hi';have hpu:ps[i] < u.length:=hps _ (Iu hi');show st ?_;dsimp only[wS,wE,wV,wG,Hh];show ac (Hf i) (by rw[Hr]; exact jB hp) ?_
  show st ?_;left;show#[dg e1,ac (Hf _) (cq hpu) (ac #v[] rfl ?_)]
  show mZ (aw (ps.take i)) (λj ys Z2 S2=>(∃a1,Z2=[td,a1,gV (.int ps[i]),gV R,gV (ak u)])/\ys=((ps.take i).take j).map (λq=>W.int (bx bs u ps[i] q))/\Ka S1 S2) rfl rfl rfl ?_ ?_ ?_
  ·dsimp only[wE,wP,wV,wG,wN];show ab (a:=(.tup (aw (ps.take i)),S1)) ?_ #[rfl,#[td,rfl],rfl,.refl];simp only[fE,cU];unfold aw;rw[Ks]
  ·rintro j w ys Z2 S2 hw ⟨⟨a1,rfl⟩,rfl,k2⟩;have hjl:j < (ps.take i).length:=by
    have:=(Hm.mp hw).1;unfold aw at this
    rwa [G1]at this
   have hq:(ps.take i)[j]?=gV (ps.take i)[j]:=Hi hjl;cases(jB hq).symm.trans hw;have hj:j < i:=by rw[HD]at hjl; omega
   have eq:(ps.take i)[j]=ps[j]'∅:=Kv
   generalize(ps.take i)[j]=q at hq eq ⊢;show ab (show fF (.nm 1) (.int (q:Hg)) [td,a1,gV (.int ps[i]),gV R,gV (ak u)] S2=gV ([td,gV (.int (q:Hg)),gV (.int ps[i]),gV R,gV (ak u)],S2)from rfl) ?_
   dsimp only[fA,wC,wE,wA,wV,wG];subst hR0;show#[λ_=>lP (d:=d) G hb hl hu hpu (by rw[eq]; exact hps _ (Iu _)) ?_ #[#[_,rfl],?_,k2],λz=>by cases z]
   ·rw[eq];intro h;have:=(Jy hnd).mp h;omega
   ·rw[Ig,hq];simp
  ·rintro ys Z2 S2 ⟨_,rfl,k2⟩;rw[show(aw (ps.take i)).length=(ps.take i).length from G1 ..,Il]
   show#[kU (by rw[G1,HD]; omega),d3 aj ?_]
   have e2:=ay (u:=O.lst ((ps.take i).map λq=>W.int (bx bs u ps[i] q))) (k2.get _ _ e1)
   show jl e2 (by rw[G1,HD]; omega) (aP (hn _ _ #[_,_,rfl,?_,((k1.trans k2).trans .push).late (Hj _)]))
   rw[bY e2];have ep:(au bs u ps)[i]?=gV ((u.getD ps[i] (0,[])).1,(ps.take i).map λq=>bx bs u ps[i] q):=by
    unfold au;rw[Hc,Jv hi',HR,getD_some hp]
   rw[Ig,ep];simp[ag,K9]
 ·rintro Z S1 ⟨a4,a5,rfl,e1,k1⟩;rw[Hr,<- aV bs u ps,Il]at e1;show hK _ _ (st ?_);left;exact d3 e1 (k _ k1)
def rs (G:Gen defs)(k:Q (.ref S.length,S++[.lst (az.map λt=>W.tup (aw t))])):wO (aF (am defs fuel (d+1)) "_law_turns" 0 [] S) Q:=by
 show aq G.turns rfl rfl λQ' hR=>?_
 dsimp only[fQ];show st ?_;dsimp only[wS,wE,wA];exact hR _ _ k
def eX (bt:G9->G9->HA):∀n:G9,argBest bt n<=n
 | 0=>Hj _
 | n+1=>by have:=eX bt n; simp only[argBest]; split <;> omega
def oK (G:Gen defs){m0 b0:W}{ns:G0 Hs}{bs:G0 Hg}{a:G9}{u:Wd}(hb:GoodB bs)(hl:ns.length=bs.length)(hu:GoodW a bs.length u)(h3:u.length=3)(k:∀S',Ka S S'->Q (ak (ki bs u),S')) :
  wO (aF (am defs fuel (d+3)) "_law_figure" 2 [.tup [m0,.tup (He aD ns bs),b0],ak u] S) Q:=by
 show aq G.figure rfl rfl λQ' hR=>?_
 replace k:∀S',Ka S S'->Q' (.rt (ak (ki bs u)),S'):=λS' a=>hR _ _ (k S' a)
 clear hR;change wZ _ _ dH [gV (.tup [m0,.tup (He aD ns bs),b0]),gV (ak u)] S Q';generalize hR0:W.tup [m0,.tup (He aD ns bs),b0]=R;dsimp only[dH];show st ?_;dsimp only[wS,wE,wA];show zw S.length (az.map λt=>W.tup (aw t)) (λi ys Z2 S2=>(∃a1,Z2=[td,a1,gV R,gV (ak u)])/\ys=((az.take i).map λt=>ak (au bs u t))/\Ka (S++[.lst (az.map λt=>W.tup (aw t))]) S2) rfl rfl rfl ?_ ?_ ?_ ?_
 ·dsimp only[wE,wA];exact rs (d:=d+1) G #[rfl,#[td,rfl],rfl,.refl]
 ·rintro i ys Z2 S2 ⟨_,_,k2⟩;exact k2.get _ _ aj
 ·rintro i w ys Z2 S2 hw ⟨⟨a1,rfl⟩,rfl,k2⟩;rw[Hc,G6]at hw;obtain⟨t,ht,rfl⟩:=hw;have ht3:(∀p∈t,p < 3)/\t.Nodup/\t.length < 1000:=by
   have:∀t∈az,(∀p∈t,p < 3)/\t.Nodup/\t.length < 1000:=by decide
   exact this t (Hn ht)
  show ab (show fF (.nm 1) (.tup (aw t)) [td,a1,gV R,gV (ak u)] S2=gV ([td,gV (.tup (aw t)),gV R,gV (ak u)],S2)from rfl) ?_
  dsimp only[fA,wC,wE,wA,wV,wG];subst hR0;show#[λ_=>vV (d:=d) G hb hl hu (λp hp=>by rw[h3]; exact ht3.1 p hp) ht3.2.1 ht3.2.2 λS3 k3=>#[#[_,rfl],?_,k2.trans k3],λz=>by cases z]
  rw[Ig,ht];simp
 ·rintro ys Z2 S2 ⟨_,rfl,k2⟩;have e:((az.take (az.map λt=>W.tup (aw t)).length).map λt=>ak (au bs u t))=(az.map (au bs u)).map ak:=by
   rw[G1,Il,IX]; rfl
  rw[e];show#[ii rfl,ab (a:=(ak (ki bs u),S2++[.lst ((az.map (au bs u)).map ak)])) ?_ (k _ ((Ka.push.trans k2).trans .push))]
  (dsimp only[Bi.fn,yw]; simp only[aG aj,Ax])
  rw[HE #[by have:=iY (az.map (au bs u)); unfold d8; omega,lO _]]
  unfold ki;have hlt:mK ((az.map (au bs u)).map dB) < (az.map (au bs u)).length:=LC (eX _ _) (by decide:5 < 6)
  rw[Hc,ar (d:=[]) hlt];rfl
end
abbrev al (xs:G0 Hg):G0 W:=xs.map W.int
abbrev im (us:G0 Wd):G0 Wd:=eE (Ag (us.map dB)) [] us
def vW {α β:Type}{lt:G9->G9->HA}{d:α}{d':β}{f:α->β}{us:G0 α}:eE lt d' (us.map f)=(eE lt d us).map f:=by
 unfold eE;rw[G1];split
 ·rfl
 ·rw[IX];show IG λi hi=>?_
  have hl:i < us.length:=mL ∅ i hi
  simp[hl]
def pT {S:aa}{x:W}{us:G0 Wd}(h:dX S x=gV (us.map ak))(h64:us.length < 64)(hne:∀u∈us,u≠[]):g9 [x] S=gV (.ref S.length,S++[.lst ((im us).map ak)]):=by
 have ok:mJ (us.map dB)=true:=by
  unfold mJ;simp only[G8,Jc,HM,G1];exact#[#[h64,by have:=iY us; unfold d8; omega],.inr #[Cr us hne,lO us]]
 simp only[g9,h,Ax];rw[HE ok,vW (d:=[])];rfl
abbrev eh (ms ns:G0 Hs)(bs:G0 Hg)(us:G0 Wd):W:=.tup [.tup (ms.map W.str),.tup (He aD ns bs),.tup (us.map ak)]
structure GoodN (ms ns:G0 Hs):Prop where
 name:∀y∈ms++ns,Name y
 nd:(pS++(ms++ns)).Nodup
def GoodW.nil {a n:G9}:GoodW a n []:=#[λk p h=>(by simp at h),λk p h=>(by simp at h),λk p h=>(by simp at h)]
def GoodW.snoc {a n:G9}{u:Wd}{m:Hg}{ws:G0 Hg}(h:GoodW a n u)(h1:0<=m/\m < a)(h2:ws.length=u.length)(h3:∀w∈ws,0<=w/\w < (n:Hg)):GoodW a n (u++[(m,ws)]):=by
 have key:∀(k:G9) (p:Pt),(u++[(m,ws)])[k]?=gV p->u[k]?=gV p\/(k=u.length/\p=(m,ws)):=λk p e=>by
  rcases NS k u.length with hk|hk
  ·rw[HV hk]at e; exact .inl e
  ·rw[Ik hk]at e;have:k - u.length=0:=by
    have:=(Hm.mp e).1;simp at this; omega
   rw[this]at e;cases e;exact .inr #[∅,rfl]
 show#[λk p e=>?_,λk p e=>?_,λk p e=>?_] <;> rcases key k p e with e|⟨rfl,rfl⟩
 ·exact h.mark k p e
 ·exact h1
 ·exact h.len k p e
 ·exact h2
 ·exact h.way k p e
 ·exact h3
def GoodB.inv {bs:G0 Hg}(h:GoodB bs):∀k:G9,k < bs.length->bs.getD (bs.getD k 0).toNat 0=k:=by
 rcases h with rfl|rfl|rfl|rfl|rfl|rfl <;> decide
def GoodB.at {bs:G0 Hg}(h:GoodB bs){x:Hg}(h0:0<=x)(h1:x < bs.length):bs[x.toNat]?=gV (bs.getD x.toNat 0)/\0<=bs.getD x.toNat 0/\bs.getD x.toNat 0 < bs.length:=by
 obtain⟨b,h2,h3⟩:=h.rng x.toNat ∅
 rw[getD_some h2];exact#[h2,h3]
def vX {S:aa}{x:W}{us:G0 Wd}{Q:QW}(h:dX S x=gV (us.map ak))(h64:us.length < 64)(hne:∀u∈us,u≠[])(q:Q (.ref S.length,S++[.lst ((im us).map ak)])):wO (Bi.sorted.fn [x] S) Q:=by
 show ab ?_ q;exact pT h h64 hne
abbrev vY:G0 (G9×G9):=[(1,1),(2,1),(3,1),(1,2),(1,2),(2,2),(2,2),(3,2),(1,3),(1,3),(2,3)]
def vZ:∀p∈vY,1<=p.1/\p.1<=3/\1<=p.2/\p.2<=3/\p.1*p.2<=6:=by decide
abbrev km:G9->G0 (G0 Hg)
 | 1=>[[0]]
 | 2=>[[0,1],[1,0]]
 | _=>[[0,1,2],[1,0,2],[0,2,1]]
def v6:∀n:G9,1<=n->n<=3->(∀b∈km n,GoodB b/\b.length=n)/\0 < (km n).length/\(km n).length<=3
 | 1,_,_=>#[λb h=>by cases Hk.mp h; exact#[.inl rfl,rfl],#v[],#v[]]
 | 2,_,_=>#[λb h=>by
   rcases HF.mp h with rfl|h
   ·exact#[.inr (.inl rfl),rfl]
   ·cases Hk.mp h; exact#[.inr (.inr (.inl rfl)),rfl],#v[],#v[]]
 | 3,_,_=>#[λb h=>by
   rcases HF.mp h with rfl|h
   ·exact#[.inr (.inr (.inr (.inl rfl))),rfl]
   ·rcases HF.mp h with rfl|h
    ·exact#[.inr (.inr (.inr (.inr (.inl rfl)))),rfl]
    ·cases Hk.mp h; exact#[.inr (.inr (.inr (.inr (.inr rfl)))),rfl],#v[],#v[]]
 | 0,h,_=>absurd h #v[]
 | n+4,_,h=>absurd h ∅
section
variable{defs:G0 (Hs×Df)}{fuel d:G9}{S:aa}{r:G9}{Q:QW}
def zC (G:Gen defs)(hf:Fl S r)(k:∀(a n:G9) S',1<=a->a<=3->1<=n->n<=3->a*n<=6->Fl S' r->Kp r S S'->Q (.tup [.int a,.int n],S')) :
  wO (aF (am defs fuel (d+2)) "_law_sizes" 1 [.ref r] S) Q:=by
 show aq G.sizes rfl rfl λQ' hR=>?_
 change wZ _ _ ee [gV (.ref r),td] S Q';dsimp only[ee];show st ?_;dsimp only[wS,wE,wA,Hh];show st ?_;left;show aL (d:=d) G.pick (hf.ka .push) #v[] #v[] λv S1 v0 v1 f1 k1=>?_
 have e:=k1.get _ _ (J0 hf.lt) aj;obtain⟨p,hp,ep⟩:=vM (f:=λp:G9×G9=>W.tup [.int p.1,.int p.2]) (xs:=vY) (i:=v.toNat) (by change v.toNat < 11; omega)
 obtain⟨a1,a3,n1,n3,an⟩:=vZ p hp;exact ij e v0 ep (hR _ _ (k _ _ _ a1 a3 n1 n3 an f1 (Kp.push.trans k1)))
def zD (G:Gen defs){n:G9}(hf:Fl S r)(h1:1<=n)(h3:n<=3)(k:∀(bs:G0 Hg) S',GoodB bs->bs.length=n->Fl S' r->Kp r S S'->Q (.tup (al bs),S')) :
  wO (aF (am defs fuel (d+2)) "_law_backs" 2 [.ref r,.int n] S) Q:=by
 show aq G.backs rfl rfl λQ' hR=>?_
 replace k:∀(bs:G0 Hg) S',GoodB bs->bs.length=n->Fl S' r->Kp r S S'->Q' (.rt (.tup (al bs)),S'):=λz S' a b c e=>hR _ _ (k z S' a b c e)
 clear hR;change wZ _ _ ec [gV (.ref r),gV (.int n),td] S Q';dsimp only[ec];nofun
 left;dsimp only[jk,bv];obtain⟨hg,g0,g3⟩:=v6 n h1 h3;have fin:∀(t:G9) (S1:aa),S.length<=t->S1[t]?=gV (.lst ((km n).map λb=>.tup (al b)))->Ka S S1->K [gV (.ref r),gV (.int n),gV (.ref t)] S1:=by
  intro t S1 ht et ka;show hK _ _ (st ?_);left;show rj et ?_;rw[G1];show aL (d:=d) G.pick (hf.ka ka) ∅ ∅ λv S2 v0 v1 f2 k2=>?_
  have e2:=k2.get _ _ (by have:=hf.lt; omega) et
  obtain⟨b,hb,eb⟩:=vM (f:=λb:G0 Hg=>W.tup (al b)) (xs:=km n) (i:=v.toNat) ∅
  exact ij e2 v0 eb (k b S2 (hg b hb).1 (hg b hb).2 f2 ((ka.kp r).trans k2))
 clear hK g0 g3 hg;rcases(show n=1\/n=2\/n=3 by omega)with rfl|rfl|rfl
 ·exact eL (i:=0) aj rfl (fin _ _ (Hj _) (ay (ay (ay aj))) (Ka.push.trans (Ka.push.trans (Ka.push.trans .push))))
 ·exact eL (i:=1) aj rfl (fin _ _ (by simp) (ay (ay aj)) (Ka.push.trans (Ka.push.trans (Ka.push.trans .push))))
 ·exact eL (i:=2) aj rfl (fin _ _ (by simp only[G3]; omega) (ay aj) (Ka.push.trans (Ka.push.trans (Ka.push.trans .push))))
def gf (hfu:20 < fuel)(G:Gen defs){a:G9}{bs:G0 Hg}{x:W}{us:G0 Wd}(hf:Fl S r)(ha:a<=3)(hb:bs.length<=3)(hx:∀S',Kp r S S'->dX S' x=gV (us.map ak))(h64:us.length < 64)(hne:∀u∈us,u≠[])
  (k:∀(ms ns:G0 Hs) S',ms.length=a->ns.length=bs.length->GoodN ms ns->Fl S' r->Kp r S S'->Q (eh ms ns bs (im us),S')) :
  wO (aF (am defs fuel (d+5)) "_law_rule_of" 4 [.ref r,.int a,.tup (al bs),x] S) Q:=by
 show aq G.rule_of rfl rfl λQ' hR=>?_
 replace k:∀(ms ns:G0 Hs) S',ms.length=a->ns.length=bs.length->GoodN ms ns->Fl S' r->Kp r S S'->Q' (.rt (eh ms ns bs (im us)),S'):=λz y S' a b c e f=>hR _ _ (k z y S' a b c e f)
 clear hR;change wZ _ _ dm [gV (.ref r),gV (.int a),gV (.tup (al bs)),gV x,td,td] S Q';have hbl:(al bs).length=bs.length:=G1 ..;dsimp only[dm];nofun
 left;show aC ?_;rw[hbl];dsimp only[cQ,bv];show zB (d:=d) (m:=a+bs.length) hfu G hf ∅ λys S1 q2 q3 q4 f1 k1=>hK _ _ ?_
 clear hK K;have hzl:(He aD (ys.drop a) bs).length=bs.length:=by
  rw[IT,Jp]; omega
 nofun
 dsimp only[wS,wE,wA,Hh];show eW (bs.length:Hg) (λk zs Z2 S2=>(∃a1,Z2=[td,a1,gV (.tup (al bs)),gV (.int a),gV (.tup (ys.map W.str))])/\zs=((He aD (ys.drop a) bs).take k)/\S2=S1) rfl rfl rfl ∅ ?_ ?_ ?_
 ·dsimp only[wE,wA,wV,wG];show aC ?_;rw[hbl];exact#[rfl,#[td,rfl],rfl,rfl]
 ·rintro i zs Z2 S2 hi ⟨⟨a1,rfl⟩,rfl,rfl⟩;clear hK;have hi':i < bs.length:=∅
  have h1:a+i < ys.length:=∅
  dsimp only[fA,wC,wE,wA,wV,wG,Hh,cQ,bv];show#[λ_=>ac ∅ (w:=.str ys[a+i]) ?_ (ac ∅ (w:=.int bs[i]) ?_ #[#[_,rfl],?_,rfl]),λz=>by cases z]
  ·rw[show((a:Hg)+(i:Hg)).toNat=a+i by omega,Hc,Hi h1]; rfl
  ·unfold al;rw[Hr,Hc,Hi hi']; rfl
  ·have ez:(He aD (ys.drop a) bs)[i]?=gV (aD ys[a+i] bs[i]):=kj (by rw[List.getElem?_drop]; exact Hi h1) (Hi hi')
   rw[Ig,ez];rfl
 ·rintro zs Z2 S2 ⟨_,rfl,rfl⟩;rw[Hr,<- hzl,Il];show#[kU ∅,d3 aj (hK _ _ ?_)]
  clear hK K;show st ?_;dsimp only[wS,wE,wA,wP,wV,wG,wN];have hs:fE (.tup (ys.map W.str)) td (gV (a:Hg)) (S2++[O.lst (He aD (ys.drop a) bs)])=gV (.tup ((ys.take a).map W.str),S2++[O.lst (He aD (ys.drop a) bs)]):=by
   simp only[fE,cU];rw[Ks]
  show ab hs (vX (hx _ (k1.trans .push)) h64 hne (d3 aj ?_));show k (ys.take a) (ys.drop a) _ ?_ ?_ #[?_,?_] ((f1.ka .push).ka .push) (k1.trans (Kp.push.trans .push))
  ·rw[HD]; omega
  ·rw[Jp]; omega
  ·rw[Ku]; exact q3
  ·rw[Ku]; exact q4
def kn (hfu:20 < fuel)(G:Gen defs){a:G9}{bs:G0 Hg}(hf:Fl S r)(ha:a<=3)(hb:bs.length<=3)
  (k:∀(ms ns:G0 Hs) S',ms.length=a->ns.length=bs.length->GoodN ms ns->Fl S' r->Kp r S S'->Q (eh ms ns bs [],S')) :
  wO (aF (am defs fuel (d+5)) "_law_rule_of" 4 [.ref r,.int a,.tup (al bs),.tup []] S) Q:=
 gf hfu G hf ha hb (us:=[]) (λ_ _=>rfl) #v[] (λ_ h=>nomatch h) k
def draws {M:Hs->FF}{Z:Fm}{elt e:E}{cap:G0 (G7 G9)}{n i:G9}{R:Fm}(oe:dD elt=true)(oi:dD e=true)(h1:i<=1000)(hc:eG cap Z=td::td::R)(hf:Fl S r)(he:∀Q:QW,Q (.int i,S)->wE M e Z S Q)
  (hp:∀(a:G7 W) (S1:aa) (Q:QW),Fl S1 r->(∀v S',0<=v->v < (n:Hg)->Fl S' r->Kp r S1 S'->Q (.int v,S'))->wE M elt (td::a::R) S1 Q)
  (k:∀(vs:G0 Hg) S',vs.length=i->(∀w∈vs,0<=w/\w < (n:Hg))->Fl S' r->Kp r S S'->Q (.ref S'.length,S'++[.lst (al vs)])) :
  Wp (aA M (.comp elt (.nm 1) (.rng #v[e]) .nil cap) Z S) Q:=by
 show eW (i:Hg) (λj ys Z2 S3=>(∃a1,Z2=td::a1::R)/\(∃vs:G0 Hg,ys=al vs/\vs.length=j/\∀w∈vs,0<=w/\w < (n:Hg))/\Fl S3 r/\Kp r S S3) oi oe rfl ∅ (he _ #[rfl,#[td,hc],#[[],rfl,rfl,λ_ h=>nomatch h],hf,.refl]) ?_ ?_
 ·rintro j ys Z2 S3 hj ⟨⟨a1,rfl⟩,⟨vs,rfl,hvl,hv⟩,f3,k3⟩;show#[λ_=>hp _ _ _ f3 λv S4 v0 v1 f4 k4=>#[#[_,rfl],#[vs++[v],(Hy (l₁:=vs) (l₂:=[v])).symm,by rw[G3,hvl]; rfl,λw hw=>?_],f4,k3.trans k4],λz=>by cases z]
  rcases HI.mp hw with h|h
  ·exact hv w h
  ·rw[Hk.mp h]; exact#[v0,v1]
 ·rintro ys Z2 S3 ⟨_,⟨vs,rfl,hvl,hv⟩,f3,k3⟩;rw[Hr]at hvl;exact#[kU (by rw[show(al vs).length=vs.length from G1 ..]; omega),k vs S3 hvl hv f3 k3]
def m4 (G:Gen defs){a n:G9}(hf:Fl S r)(ha:0 < a)(ha3:a<=3)(hn:0 < n)(hn3:n<=3)(k:∀(u:Wd) S',u.length=3->GoodW a n u->Fl S' r->Kp r S S'->Q (ak u,S')) :
  wO (aF (am defs fuel (d+2)) "_law_free_three" 3 [.ref r,.int a,.int n] S) Q:=by
 show aq G.free_three rfl rfl λQ' hR=>?_
 replace k:∀(u:Wd) S',u.length=3->GoodW a n u->Fl S' r->Kp r S S'->Q' (.rt (ak u),S'):=λz S' a b c e=>hR _ _ (k z S' a b c e)
 clear hR;change wZ _ _ b9 [gV (.ref r),gV (.int a),gV (.int n),td,td] S Q';dsimp only[b9];have hrt:=hf.lt;show st ?_;dsimp only[wS,wE,wA,Hh];nofun
 show bD 3 (λk Z S'=>∃a4 u,Z=[gV (.ref r),gV (.int a),gV (.int n),gV (.ref S.length),a4]/\S'[S.length]?=gV (.lst (u.map ag))/\u.length=k/\GoodW a n u/\Fl S' r/\Kp r S S') rfl rfl #v[] #[rfl,td,[],rfl,aj,rfl,.nil,hf.ka .push,.push] ?_ ?_
 ·rintro i Z S1 hi ⟨a4,u,rfl,e1,hul,hu,f1,k1⟩ Q2 hn' _;clear hK;show st ?_;left;show#[dg e1,aL (d:=d) G.pick f1 ∅ ∅ λv S2 v0 v1 f2 k2=>?_]
  have e2:=k2.get _ _ ∅ e1
  show draws (n:=n) (i:=i) (R:=[gV (.ref r),gV (.int n)]) rfl rfl ∅ rfl f2 (λQ q=>q) (λa S1 Q f q=>aL (d:=d) G.pick f ∅ ∅ q) λvs S3 hvl hv f3 k3=>?_
  have e3:=ay (u:=O.lst (al vs)) (k3.get _ _ ∅ e2)
  show d3 aj (jl e3 (by rw[G1]; omega) (aP (hn' _ _ #[_,u++[(v,vs)],rfl,?_,by rw[G3,hul]; rfl,hu.snoc #[v0,v1] (hvl.trans hul.symm) hv,(f3.ka .push).own hrt,(k1.trans (k2.trans (k3.trans .push))).late (Hj _)])))
  rw[bY e3,Hy]; rfl
 ·rintro Z S1 ⟨a4,u,rfl,e1,hul,hu,f1,k1⟩;show hK _ _ (st ?_);left;exact d3 e1 (k u _ hul hu f1 k1)
end
abbrev d6 (n:G9):G0 Hg:=(Ho n).map λ(k:G9)=>(k:Hg)
abbrev oM (a n:G9):G0 Wd:=(d6 a).flatMap λm0=>(d6 a).flatMap λm1=>(d6 a).flatMap λm2=>(d6 n).flatMap λw1=>(d6 n).flatMap λw2=>(d6 n).map λw3=>[(m0,[]),(m1,[w1]),(m2,[w2,w3])]
abbrev aR (a:G9)(bs:G0 Hg):G0 Wd:=((oM a bs.length).map (ki bs)).eraseDups
def cV {n:G9}{x:Hg}(h0:0<=x)(h1:x < n):x∈d6 n:=Hz.mpr #[x.toNat,Hu.mpr ∅,∅]
def sP {a n:G9}{u:Wd}(h:GoodW a n u)(h3:u.length=3):u∈oM a n:=by
 match u,h3 with
 | [(m0,w0),(m1,w1),(m2,w2)],_=>
  have l0:=h.len 0 _ rfl;have l1:=h.len 1 _ rfl;have l2:=h.len 2 _ rfl;simp only at l0 l1 l2
  match w0,l0 with
  | [],_=>
   match w1,l1 with
   | [x],_=>
    match w2,l2 with
    | [y,z],_=>
     have a0:=h.mark 0 _ rfl;have a1:=h.mark 1 _ rfl;have a2:=h.mark 2 _ rfl;have b1:=h.way 1 _ rfl x (by simp)
     have b2:=h.way 2 _ rfl y (by simp)
     have b3:=h.way 2 _ rfl z (by simp)
     unfold oM;simp only[IM,Hz];exact#[m0,cV a0.1 a0.2,m1,cV a1.1 a1.2,m2,cV a2.1 a2.2,x,cV b1.1 b1.2,y,cV b2.1 b2.2,z,cV b3.1 b3.2,rfl]
def zE {a:G9}{bs:G0 Hg}{u:Wd}(h:GoodW a bs.length u)(h3:u.length=3):ki bs u∈aR a bs:=by
 unfold aR;rw[LD];exact Hz.mpr #[u,sP h h3,rfl]
structure SizeOk (a:G9)(bs:G0 Hg):Prop where
 pos:0 < a
 good:GoodB bs
 most:a*bs.length<=6
 a3:a<=3
def Ga:(aR 1 [0]).length < 64/\(aR 2 [0]).length < 64/\(aR 3 [0]).length < 64:=by decide +kernel
def E4:(aR 1 [0,1]).length < 64/\(aR 2 [0,1]).length < 64/\(aR 1 [1,0]).length < 64/\(aR 2 [1,0]).length < 64:=by decide +kernel
def Gb:(aR 1 [0,1,2]).length < 64/\(aR 1 [1,0,2]).length < 64/\(aR 1 [0,2,1]).length < 64:=by decide +kernel
def Gc:(aR 3 [0,1]).length < 64:=by decide +kernel
def Gd:(aR 3 [1,0]).length < 64:=by decide +kernel
def Ge:(aR 2 [0,1,2]).length < 64:=by decide +kernel
def Gf:(aR 2 [1,0,2]).length < 64:=by decide +kernel
def Gg:(aR 2 [0,2,1]).length < 64:=by decide +kernel
def m5 {a:G9}{bs:G0 Hg}(h:SizeOk a bs):(aR a bs).length < 64:=by
 obtain⟨h0,hb,hm,h3⟩:=h;have ha:a=1\/a=2\/a=3:=∅
 rcases hb with rfl|rfl|rfl|rfl|rfl|rfl <;> rcases ha with rfl|rfl|rfl
 ·exact Ga.1
 ·exact Ga.2.1
 ·exact Ga.2.2
 ·exact E4.1
 ·exact E4.2.1
 ·exact Gc
 ·exact E4.2.2.1
 ·exact E4.2.2.2
 ·exact Gd
 ·exact Gb.1
 ·exact Ge
 ·simp at hm
 ·exact Gb.2.1
 ·exact Gf
 ·simp at hm
 ·exact Gb.2.2
 ·exact Gg
 ·simp at hm
def v8 (bs:G0 Hg)(u:Wd):∃t∈az,ki bs u=au bs u t:=by
 have h7:(az.map (au bs u)).length=6:=by rw[G1]; rfl
 have h8:((az.map (au bs u)).map dB).length=6:=by rw[G1,h7]
 have hlt:mK ((az.map (au bs u)).map dB) < (az.map (au bs u)).length:=by
  unfold mK;have h6:=eX (Ag ((az.map (au bs u)).map dB)) (((az.map (au bs u)).map dB).length - 1);rw[h7]; omega
 unfold ki;rw[getD_some (Hi hlt)];obtain⟨t,ht,e⟩:=Hz.mp (Iu hlt);exact#[t,ht,e.symm]
def zF (bs:G0 Hg)(u:Wd):ki bs u≠[]:=by
 obtain⟨t,ht,e⟩:=v8 bs u;rw[e];have:∀t∈az,t≠[]:=by decide
 have h:=this t ht;intro z;have hl:(au bs u t).length=t.length:=by simp[au]
 rw[z]at hl;exact h (Kg.mp hl.symm)
def oN:∀ {xs ys:G0 Hg},xs.map T.int=ys.map T.int->xs=ys
 | [],[],_=>rfl
 | [],_::_,h=>by cases h
 | _::_,[],h=>by cases h
 | x::xs,y::ys,h=>by
  rw[IK,IK]at h;injection h with h1 h2
  injection h1 with h1
  rw[h1,oN h2]
def zG {p q:Pt}(h:oG p=oG q):p=q:=by
 unfold oG at h;injection h with h
 injection h with h1 h2
 injection h1 with h1
 injection h2 with h2 _
 injection h2 with h2
 exact OE h1 (oN h2)
def m6 {u v:Wd}(h:dB u=dB v):u=v:=by
 unfold dB at h;injection h with h
 have inj:∀ {u v:Wd},u.map oG=v.map oG->u=v:=by
  intro u
  induction u with
  | nil=>intro v h; cases v with
   | nil=>rfl
   | cons _ _=>cases h
  | cons p u ih=>intro v h; cases v with
   | nil=>cases h
   | cons q v=>
    rw[IK,IK]at h;injection h with h1 h2
    rw[zG h1,ih h2]
 exact inj h
def iZ {U:G0 (T×W)}{k:T}{v:W}:(gw U k v).map (·.1)=if k∈U.map (·.1)then U.map (·.1)else U.map (·.1)++[k]:=by
 have hany:(U.any λp=>decide (p.1=k))=decide (k∈U.map (·.1)):=by
  induction U with
  | nil=>rfl
  | cons p U ih=>
   rw[JO,ih,IK]
   by_cases e:p.1=k
   ·subst e; simp
   ·rw[HQ e,Ng];have:(k∈p.1::U.map (·.1))=(k∈U.map (·.1)):=by simp[Ne.symm e]
    simp only[this]
 unfold gw;rw[hany]
 by_cases h:k∈U.map (·.1)
 ·rw[HE h,HE (IL h),IX];show IG λp _=>?_
  show(if p.1=k then(p.1,v)else p).1=p.1
  split <;> rfl
 ·rw[HX h,HX (by simpa using h),Hy]
  rfl
structure FigD (L:G0 Wd)(U:G0 (T×W))(fs:G0 Wd):Prop where
 keys:U.map (·.1)=fs.map dB
 nd:fs.Nodup
 mem:∀f∈fs,f∈L
def FigD.nil {L:G0 Wd}:FigD L [] []:=#[rfl,MS,λ_ h=>nomatch h]
def FigD.len {L:G0 Wd}{U:G0 (T×W)}{fs:G0 Wd}(h:FigD L U fs):U.length=fs.length/\fs.length<=L.length:=by
 have:=congrArg Ps h.keys;rw[G1,G1]at this;exact#[this,m3 fs L h.nd h.mem]
def FigD.put {L:G0 Wd}{U:G0 (T×W)}{fs:G0 Wd}{f:Wd}{v:W}(h:FigD L U fs)(hf:f∈L):∃fs',FigD L (gw U (dB f) v) fs':=by
 by_cases hm:f∈fs
 ·show#[fs,?_,h.nd,h.mem];rw[iZ,HE (by rw[h.keys]; exact Hz.mpr #[f,hm,rfl]),h.keys]
 ·show#[fs++[f],?_,?_,λg hg=>?_]
  ·rw[iZ,HX,h.keys,Hy]
   ·rfl
   ·rw[h.keys];intro z;obtain⟨g,hg,e⟩:=Hz.mp z;exact hm (m6 e ▸ hg)
  ·rw[LS];show#[h.nd,by simp,λa ha b hb e=>?_]
   rw[Hk.mp hb]at e;exact hm (e ▸ ha)
  ·rcases HI.mp hg with h'|h'
   ·exact h.mem g h'
   ·rw[Hk.mp h']; exact hf
def FigD.items {S:aa}{t:G9}{L:G0 Wd}{U:G0 (T×W)}{fs:G0 Wd}(h:FigD L U fs)(e:S[t]?=gV (.dic U)):dX S (.ref t)=gV (fs.map ak):=by
 simp only[dX,zu e,eU e,HR];congr 1;have:(U.map (·.1)).map T.w=(fs.map dB).map T.w:=by rw[h.keys]
 rw[IX,IX]at this
 calc U.map (λp=>p.1.w)=U.map (T.w∘λx=>x.1):=rfl
  _=fs.map (T.w∘dB):=this
  _=fs.map ak:=by
   show IG λf _=>?_
   exact vP f
def oO {a:G9}{bs:G0 Hg}{f:Wd}(h:f∈aR a bs):f≠[]:=by
 unfold aR at h;rw[LD]at h;obtain⟨u,_,rfl⟩:=Hz.mp h;exact zF bs u
def wa {S:aa}{t:G9}{U:G0 (T×W)}{u:Wd}{v:W}(h:S[t]?=gV (.dic U))(hl:U.length < sizeLine):jt (.ref t) (ak u) v S=gV (S.set t (.dic (gw U (dB u) v))):=by
 have hk:=gO u;unfold ak at hk ⊢
 (dsimp only[jt,nQ]; simp only[h,hk])
 rw[HE hl]
structure RuleAt (a:G9)(bs:G0 Hg)(ms ns:G0 Hs)(gs:G0 Wd):Prop where
 size:SizeOk a bs
 ml:ms.length=a
 nl:ns.length=bs.length
 nm:GoodN ms ns
 nd:gs.Nodup
 mem:∀g∈gs,g∈aR a bs
abbrev eY (w:W):Prop:=∃a bs ms ns gs,w=eh ms ns bs (im gs)/\RuleAt a bs ms ns gs
section
variable{M:Hs->FF}{fuel:G9}{Z:Fm}{S:aa}{K:Fm->aa->Prop}{Q:QO}
def oP {i0:G9}{e:E}{b:Ss}(oe:dD e=true)(ok:gM b=true)(he:wE M e Z S λp=>∃(j:Hg) (I:G9->Fm->aa->Prop),p.1=.int j/\(-(2 ^ 62)<=j/\j < 2 ^ 62)/\I 0 Z p.2/\
  (∀(i:G9) (Z:Fm) (S:aa),(i:Hg) < j->I i Z S->zv M fuel b (Z.set i0 (gV (.int i))) S (I (i+1)) Q)/\∀Z S,I j.toNat Z S->K Z S):Wp (fD M fuel (.loop (.nm i0) (.rng #v[e]) b) Z S) (pR K Q):=by
 obtain⟨w,S1,e1,j,I,rfl,hj,h0,hs,hend⟩:=bZ oe he;have hl:(da 0 j.toNat).length=j.toNat:=by simp[da]
 show gN (mi:=.its (da 0 j.toNat)) (S1:=S1) (xs:=da 0 j.toNat) I ok ?_ (λ_ _ _ _=>rfl) rfl h0 (λi w Z S hw hI=>?_) λZ S hI=>hend Z S (hl ▸ hI)
 ·(dsimp only[ju,cJ,dC,hG,pK]; simp only[e1])
  rw[HE hj]
 ·rw[dY]at hw;split at hw
  ·rename_i hk;cases hw;rw[Lu];exact hs i Z S ∅ hI
  ·cases hw
def eM {tg:Tg}{e:E}{b:Ss}(oe:dD e=true)(ok:gM b=true)(he:wE M e Z S λp=>∃(t:G9) (xs:G0 W) (I:G9->Fm->aa->Prop),p.1=.ref t/\I 0 Z p.2/\(∀i Z S,I i Z S->S[t]?=gV (.lst xs))/\
  (∀(i:G9) (w:W) (Z:Fm) (S:aa),xs[i]?=gV w->I i Z S->wO (fF tg w Z S) λq=>zv M fuel b q.1 q.2 (I (i+1)) Q)/\∀Z S,I xs.length Z S->K Z S):Wp (fD M fuel (.loop tg (.seq e) b) Z S) (pR K Q):=by
 obtain⟨w,S1,e1,t,xs,I,rfl,h0,hat,hs,hend⟩:=bZ oe he;exact gN (mi:=.live t) (S1:=S1) I ok (by simp only[ju,fu,e1,aG (hat _ _ _ h0)]) (λi Z S h=>by simp only[MI.at,aG (hat _ _ _ h)]) (by simp only[MI.len,aG (hat _ _ _ h0),HR]) h0 hs hend
end
section
variable{defs:G0 (Hs×Df)}{fuel d:G9}{S:aa}{r:G9}{Q:QW}
def Ay {q:G9}{a:G9}{bs:G0 Hg}{ms ns:G0 Hs}{fs0:G0 Wd}{U:G0 (T×W)}{fs:G0 Wd}(h3:S[q]?=gV (.dic U))(h4:FigD (aR a bs) U fs)(hs:SizeOk a bs)(hml:ms.length=a)(hnl:ns.length=bs.length)(hnm:GoodN ms ns)(k:∀w S',eY w->Ka S S'->Q (w,S')) :
  wO (g8 (eh ms ns bs fs0) (.int 0) S) λp=>wO (g8 (eh ms ns bs fs0) (.int 1) p.2) λq'=>wO (Bi.sorted.fn [.ref q] q'.2) λs=>wO (Bi.tuple.fn [s.1] s.2) λz=>Q (.tup [p.1,q'.1,z.1],z.2):=by
 show ac #v[] rfl (ac #v[] rfl ?_)
 have hl:=h4.len;exact vX (h4.items h3) (by have:=m5 hs; omega) (λf hf=>oO (h4.mem f hf)) (d3 aj (k _ _ #[a,bs,ms,ns,fs,rfl,hs,hml,hnl,hnm,h4.nd,h4.mem] .push))
def Az {q:G9}{a:G9}{bs:G0 Hg}{u:Wd}{U:G0 (T×W)}{fs:G0 Wd}{Q:aa->Prop}(h3:S[q]?=gV (.dic U))(h4:FigD (aR a bs) U fs)(hs:SizeOk a bs)(hu:GoodW a bs.length u)(hu3:u.length=3)
  (k:∀o,(∃U fs,(S.set q o)[q]?=gV (.dic U)/\FigD (aR a bs) U fs)->Q (S.set q o)):wO (jt (.ref q) (ak (ki bs u)) (.bl true) S) Q:=by
 have hl:=h4.len;have:=m5 hs;obtain⟨fs',h5⟩:=h4.put (v:=.bl true) (zE hu hu3);exact ab (wa h3 (by rw[IE]; omega)) (k _ #[_,fs',bY h3,h5])
def pU (hfu:20 < fuel)(G:Gen defs)(hf:Fl S r)(k:∀w S',eY w->Fl S' r->Kp r S S'->Q (w,S')):wO (aF (am defs fuel (d+6)) "_law_any_rule" 1 [.ref r] S) Q:=by
 show aq G.any_rule rfl rfl λQ' hR=>?_
 replace k:∀w S',eY w->Fl S' r->Kp r S S'->Q' (.rt w,S'):=λz S' a b c=>hR _ _ (k z S' a b c)
 clear hR;change wZ _ _ cR [gV (.ref r),td,td,td,td,td] S Q';dsimp only[cR];nofun
 left;show zC (d:=d+3) G hf λa n S1 a1 a3 n1 n3 an f1 k1=>?_
 dsimp only[wU];show ab (show cF [1,2] [.int a,.int n] [gV (.ref r),td,td,td,td,td]=gV [gV (.ref r),gV (.int a),gV (.int n),td,td,td]from rfl) (hK _ _ ?_)
 clear hK K;nofun
 left;show zD (d:=d+3) G f1 n1 n3 λbs S2 hb hbl f2 k2=>?_
 have hsz:SizeOk a bs:=#[∅,hb,by rw[hbl]; exact an,a3]
 show kn (d:=d) hfu G f2 a3 ∅ λms ns S3 hml hnl hnm f3 k3=>hK _ _ ?_
 clear hK K;have hrt:=f3.lt;replace k3:Kp r S S3:=k1.trans (k2.trans k3);clear k1 k2 f1 f2;show st ?_;dsimp only[wS,wE,Hh];nofun
 show oP rfl rfl ?_;dsimp only[wE,wA,wV,wG];show aL (d:=d+4) G.pick (f3.ka .push) #v[] #v[] λv S4 v0 v9 f4 k4=>?_
 show#[v,λk Z S'=>(∃a5,Z=[gV (.ref r),gV (.int a),gV (.int n),gV (eh ms ns bs []),gV (.ref S3.length),a5])/\(∃U fs,S'[S3.length]?=gV (.dic U)/\FigD (aR a bs) U fs)/\Fl S' r/\Kp r S S',rfl,∅,#[#[td,rfl],#[[],[],k4.get _ _ ∅ aj,.nil],f4,(k3.trans .push).trans k4],?_,?_]
 ·rintro i Z S5 hi ⟨⟨a5,rfl⟩,⟨U,fs,e5,hd⟩,f5,k5⟩ Q2 hn _;clear hK;show st ?_;left;show m4 (d:=d+3) G f5 ∅ a3 ∅ n3 λu S6 hu3 hu f6 k6=>?_
  have hu:GoodW a bs.length u:=hbl.symm ▸ hu;show oK (d:=d+2) G hb hnl hu hu3 λS7 k7=>?_
  have e7:=k7.get _ _ (k6.get _ _ ∅ e5)
  exact Az e7 hd hsz hu hu3 λo ho=>aP (hn _ _ #[#[_,rfl],ho,(f6.ka k7).own hrt,((k5.trans k6).trans (k7.kp r)).late k3.len])
 ·rintro Z S5 ⟨⟨a5,rfl⟩,⟨U,fs,e5,hd⟩,f5,k5⟩;show hK _ _ (st ?_);left;exact Ay (Q:=λp=>Q' (.rt p.1,p.2)) e5 hd hsz hml hnl hnm λw S6 hw k6=>k w S6 hw (f5.ka k6) (k5.trans (k6.kp r))
end
abbrev gA (t:Hg×Hg×Hg):W:=.tup [.int t.1,.int t.2.1,.int t.2.2]
abbrev oQ (a:G9)(t:Hg×Hg×Hg):Prop:=(0<=t.1/\t.1 < a)/\(0<=t.2.1/\t.2.1 < a)/\(0<=t.2.2/\t.2.2 < a)
abbrev wb (k:Hg):Wd:=[(k,[]),(k,[0]),(k,[0,0])]
def Gh:∀k∈d6 1,wb k∈aR 1 [0]:=by decide +kernel
def Gi:∀k∈d6 2,wb k∈aR 2 [0]:=by decide +kernel
def Gj:∀k∈d6 3,wb k∈aR 3 [0]:=by decide +kernel
def zH {a:G9}{k:Hg}(h0:1<=a)(h3:a<=3)(hk:0<=k)(hk2:k < a):wb k∈aR a [0]:=by
 have ha:a=1\/a=2\/a=3:=∅
 rcases ha with rfl|rfl|rfl
 ·exact Gh k (cV hk hk2)
 ·exact Gi k (cV hk hk2)
 ·exact Gj k (cV hk hk2)
def zI {a b:Hg}(h:wb a=wb b):a=b:=by
 unfold wb at h;injection h with h1 h2
 injection h1
def io:GoodB [0]:=.inl rfl
def AA {S:aa}{i j:G9}{xs:G0 W}(h1:S[i]?=gV (.lst xs))(h2:S[j]?=gV (.lst [])):aJ .eq (.ref i) (.ref j) S=gV (.bl xs.isEmpty,S):=by
 show(iJ S (19+1) (.ref i) (.ref j)).map _=_
 (dsimp only[iJ]; simp only[bU h1,bU h2])
 cases xs with
 | nil=>rfl
 | cons x xs=>rfl
section
variable{M:Hs->FF}{fuel:G9}{Z:Fm}{S:aa}{K:Fm->aa->Prop}{Q:QO}
def cr {i0:G9}{a b:E}{bd:Ss}(i j:Hg)(I:G9->Fm->aa->Prop)(oa:dD a=true)(ob:dD b=true)(ok:gM bd=true)(hj : -(2 ^ 62)<=i/\i < 2 ^ 62/\-(2 ^ 62)<=j/\j < 2 ^ 62)(he:wE M a Z S λp=>p.1=.int i/\wE M b Z p.2 λq=>q.1=.int j/\I 0 Z q.2)
  (hstep:∀(k:G9) (Z:Fm) (S:aa),(k:Hg) < j - i->I k Z S->zv M fuel bd (Z.set i0 (gV (.int (i+k)))) S (I (k+1)) Q) (hend:∀Z S,I (j - i).toNat Z S->K Z S):Wp (fD M fuel (.loop (.nm i0) (.rng2 #v[a,b]) bd) Z S) (pR K Q):=by
 obtain⟨w,S1,e1,rfl,h1⟩:=bZ oa he;obtain⟨w,S2,e2,rfl,h0⟩:=bZ ob h1;have hl:(da i (j - i).toNat).length=(j - i).toNat:=by simp[da]
 show gN (mi:=.its (da i (j - i).toNat)) (S1:=S2) (xs:=da i (j - i).toNat) I ok ?_ (λ_ _ _ _=>rfl) rfl h0 (λk w Z S hw hI=>?_) λZ S hI=>hend Z S (hl ▸ hI)
 ·simp only[ju,cJ,dC,hG,iRng2,e1,e2];rw[HE hj]
 ·rw[dY]at hw;split at hw
  ·rename_i hk;cases hw;exact hstep k Z S ∅ hI
  ·cases hw
def wc {elt a b:E}{i0:G9}{cs:Es}{cap:G0 (G7 G9)}{Q:QW}(i j:Hg)(I:G9->G0 W->Fm->aa->Prop)(oa:dD a=true)(ob:dD b=true)(oe:dD elt=true)(oc:kS cs=true)(hj : -(2 ^ 62)<=i/\i < 2 ^ 62/\-(2 ^ 62)<=j/\j < 2 ^ 62)(he:wE M a Z S λp=>p.1=.int i/\wE M b Z p.2 λq=>q.1=.int j/\I 0 [] (eG cap Z) q.2)
  (hstep:∀(k:G9) (ys:G0 W) (Z:Fm) (S:aa),(k:Hg) < j - i->I k ys Z S->fA M elt cs (Z.set i0 (gV (.int (i+k)))) S (λy=>I (k+1) (ys++[y])) (I (k+1) ys))
  (hend:∀ys Z S,I (j - i).toNat ys Z S->ys.length<=sizeLine/\Q (.ref S.length,S++[.lst ys])):Wp (aA M (.comp elt (.nm i0) (.rng2 #v[a,b]) cs cap) Z S) Q:=by
 obtain⟨w,S1,e1,rfl,h1⟩:=bZ oa he;obtain⟨w,S2,e2,rfl,h0⟩:=bZ ob h1;have hl:(da i (j - i).toNat).length=(j - i).toNat:=by simp[da]
 show ke (mi:=.its (da i (j - i).toNat)) (S1:=S2) (xs:=da i (j - i).toNat) I oe oc ?_ (λ_ _ _ _ _=>rfl) rfl h0 (λk w ys Z S hw hI=>?_) λys Z S hI=>hend ys Z S (hl ▸ hI)
 ·simp only[ju,cJ,dC,hG,iRng2,e1,e2];rw[HE hj]
 ·rw[dY]at hw;split at hw
  ·rename_i hk;cases hw;exact hstep k ys Z S ∅ hI
  ·cases hw
end
section
variable{defs:G0 (Hs×Df)}{fuel d:G9}{S:aa}{r:G9}{Q:QW}
def we (G:Gen defs){a:G9}(ha:a<=3)(k:∀(q:G9) (ts:G0 (Hg×Hg×Hg)) (S':aa),S'[q]?=gV (.lst (ts.map gA))->(∀t∈ts,oQ a t)->S.length<=q->Ka S S'->Q (.ref q,S')) :
  wO (aF (am defs fuel (d+1)) "_law_rising" 1 [.int a] S) Q:=by
 show aq G.rising rfl rfl λQ' hR=>?_
 replace k:∀(q:G9) (ts:G0 (Hg×Hg×Hg)) (S':aa),S'[q]?=gV (.lst (ts.map gA))->(∀t∈ts,oQ a t)->S.length<=q->Ka S S'->Q' (.rt (.ref q),S'):=λq ts S' a b c e=>hR _ _ (k q ts S' a b c e)
 clear hR;change wZ _ _ dI [gV (.int a),td,td,td] S Q';dsimp only[dI];show st ?_;dsimp only[wS,wE,wA,Hh];nofun
 show bD (a:Hg) (λi Z S'=>∃(q:G9) (ts:G0 (Hg×Hg×Hg)) (a2 a3:G7 W),Z=[gV (.int a),gV (.ref q),a2,a3]/\S'[q]?=gV (.lst (ts.map gA))/\(∀t∈ts,oQ a t)/\S.length<=q/\ts.length<=9*i/\Ka S S') rfl rfl ∅ #[rfl,_,[],_,_,rfl,aj,λ_ h=>(nomatch h),Hj _,IS _,.push] ?_ ?_
 ·rintro i Z S1 hi ⟨q,ts,a2,a3,rfl,e1,ht,hq,hl,k1⟩ Q2 hn _;clear hK k;nofun
  show cr (i:Hg) (a:Hg) (λj Z S'=>∃(q:G9) (ts:G0 (Hg×Hg×Hg)) (a3:G7 W),Z=[gV (.int a),gV (.ref q),gV (.int i),a3]/\S'[q]?=gV (.lst (ts.map gA))/\(∀t∈ts,oQ a t)/\S.length<=q/\ts.length<=9*i+3*j/\Ka S S') rfl rfl rfl ∅ #[rfl,rfl,q,ts,a3,rfl,e1,ht,hq,∅,k1] ?_ ?_
  ·rintro j Z S2 hj ⟨q,ts,a3,rfl,e2,ht,hq,hl,k2⟩ Q3 hn3 _;clear hK hn;show st ?_;dsimp only[wS,wE,wV,wG,Hh];show wc ((i:Hg)+j) (a:Hg) (λm ys Z2 S3=>(∃a1,Z2=[td,a1,gV (.int i),gV (.int ((i:Hg)+j))])/\(∃us:G0 (Hg×Hg×Hg),ys=us.map gA/\us.length=m/\∀t∈us,oQ a t)/\S3=S2) rfl rfl rfl rfl ∅ #[rfl,rfl,#[td,rfl],#[[],rfl,rfl,λ_ h=>nomatch h],rfl] ?_ ?_
   ·rintro m ys Z2 S3 hm ⟨⟨a1,rfl⟩,⟨us,rfl,hul,hu⟩,rfl⟩;show#[λ_=>#[#[_,rfl],#[us++[((i:Hg),(i:Hg)+j,(i:Hg)+j+m)],by rw[Hy]; rfl,by rw[G3,hul]; rfl,λt h=>?_],rfl],λz=>by cases z]
    rcases HI.mp h with h|h
    ·exact hu t h
    ·rw[Hk.mp h];exact#[#[∅,∅],#[by dsimp only; omega,by dsimp only; omega],#[by dsimp only; omega,by dsimp only; omega]]
   ·rintro ys Z2 S3 ⟨_,⟨us,rfl,hul,hu⟩,rfl⟩;show#[kU (by rw[G1]; omega),ab (kb (ay e2) aj ?_) (aP (hn3 _ _ #[_,ts++us,_,rfl,?_,λt h=>(HI.mp h).elim (ht t) (hu t),?_,?_,k2.trans (Ka.push.trans .push)]))]
    ·show kU ?_;rw[G3,G1,G1];omega
    ·rw[Hy]; exact aj
    ·have:=k2.len;simp only[G3]; omega
    ·rw[G3]; omega
  ·rintro Z S2 ⟨q,ts,a3,rfl,e2,ht,hq,hl,k2⟩;exact hK _ _ (aP (hn _ _ #[q,ts,_,_,rfl,e2,ht,hq,∅,k2]))
 ·rintro Z S1 ⟨q,ts,a2,a3,rfl,e1,ht,hq,hl,k1⟩;show hK _ _ (st ?_);exact k q ts S1 e1 ht hq k1
def sQ (hfu:20 < fuel)(G:Gen defs)(hf:Fl S r)(k:∀w S',eY w->Fl S' r->Kp r S S'->Q (w,S')):wO (aF (am defs fuel (d+6)) "_law_one_way_rule" 1 [.ref r] S) Q:=by
 show aq G.one_way_rule rfl rfl λQ' hR=>?_
 replace k:∀w S',eY w->Fl S' r->Kp r S S'->Q' (.rt w,S'):=λz S' a b c=>hR _ _ (k z S' a b c)
 clear hR;change wZ _ _ bL [gV (.ref r),td,td] S Q';dsimp only[bL];nofun
 left;show aL (d:=d+4) G.pick hf #v[] #v[] λv S1 v0 v3 f1 k1=>?_
 dsimp only[cQ,bv];obtain⟨a,ea⟩ : ∃a:G9,1+v=a:=#[(1+v).toNat,∅]
 rw[ea];show hK _ _ ?_;clear hK K;nofun
 dsimp only[wS,wE,Hh];show eW (a:Hg) (λk zs Z2 S2=>(∃a1,Z2=[td,a1,gV (.ref r)])/\(∃ks:G0 Hg,zs=(ks.map wb).map ak/\ks.Pairwise (·≠·)/\ks.length<=k/\∀x∈ks,0<=x/\x < k)/\Fl S2 r/\Kp r S1 S2) rfl rfl rfl ∅ #[rfl,#[td,rfl],#[[],rfl,.nil,Hj _,λ_ h=>(nomatch h)],f1,.refl] ?_ ?_
 ·rintro i zs Z2 S2 hi ⟨⟨a1,rfl⟩,⟨ks,rfl,hkp,hkl,hks⟩,f2,k2⟩;clear hK k;dsimp only[fA,wC,wT,wE,wA,wV,wG,Hh];show aL (d:=d+4) G.pick f2 #v[] #v[] λv S3 _ _ f3 k3=>?_
  dsimp only[ie,bv,wB];show#[λ_=>#[#[_,rfl],#[ks++[(i:Hg)],by simp[wb,ak,ag],?_,by rw[G3]; exact N9 hkl,λx hx=>?_],f3,k2.trans k3],λ_=>#[#[_,rfl],#[ks,rfl,hkp,∅,λx hx=>#[(hks x hx).1,by have:=(hks x hx).2; omega]],f3,k2.trans k3]]
  ·rw[List.pairwise_append];show#[hkp,by simp,λx hx y hy e=>?_]
   have:=(hks x hx).2;rw[Hk.mp hy]at e;omega
  ·rcases HI.mp hx with h|h
   ·exact#[(hks x h).1,by have:=(hks x h).2; omega]
   ·rw[Hk.mp h]; omega
 ·rintro zs Z2 S2 ⟨_,⟨ks,rfl,hkp,hkl,hks⟩,f2,k2⟩;rw[Hr]at hkl hks;show#[kU (by rw[G1,G1]; omega),hK _ _ (st ?_)]
  clear hK K;left;have hlt:=f2.lt;show gf (d:=d) (a:=a) (bs:=[0]) (us:=ks.map wb) hfu G (f2.ka .push) ∅ #v[] (λS' kk=>?_) (by rw[G1]; omega) (λu hu=>by obtain⟨x,_,rfl⟩:=Hz.mp hu; exact List.cons_ne_nil _ _) λms ns S3 hml hnl hnm f3 k3=>?_
  ·simp only[dX,aG (kk.get _ _ ∅ aj)]
  show k _ _ #[a,[0],ms,ns,ks.map wb,rfl,#[#[∅,io,by simp; omega,∅],hml,hnl,hnm,?_,λg hg=>?_]] f3 (k1.trans (k2.trans (Kp.push.trans k3)))
  ·unfold P1;rw[LU];exact hkp.imp λh e=>h (zI e)
  ·obtain⟨x,hx,rfl⟩:=Hz.mp hg;exact zH ∅ ∅ (hks x hx).1 (hks x hx).2
end
def wf {U:G0 (T×W)}{k:T}{v:W}(h:bW U k=gV v):(k,v)∈U:=by
 unfold bW at h;rw[G6]at h;obtain⟨p,h1,rfl⟩:=h;have:=MB h1;rw[<- ID this];exact List.mem_of_find?_eq_some h1
def zJ {U:G0 (T×W)}{p:T×W}(h:p∈U):∃v,bW U p.1=gV v:=by
 unfold bW;cases e:U.find? λq=>decide (q.1=p.1)with
 | some q=>exact#[q.2,rfl]
 | none=>exact absurd (JS.mp e p h) (by simp)
section
variable{defs:G0 (Hs×Df)}{fuel d:G9}{S:aa}{r:G9}{Q:QW}
def Ex {i n:G9}{x:W}(h:S[i]?=gV (.lst [x]))(hn:n<=1000)(q:Q (.ref S.length,S++[.lst (Iq n x)])):wO (iD .mul (.ref i) (.int (n:Hg)) S) Q:=by
 show ab ?_ q;have:n<=sizeLine:=kU hn;simp only[iD,ya,bU h];rw[HE #[∅,∅,by simpa using this]]
 unfold kO;simp[this]
def wg {xs:G0 Hg}{i:G9}(h:i < xs.length):xs.getD i 0∈xs:=Hn (ar (d:=0) h)
end
abbrev CU (k:Hg):Wd:=[(0,[]),(0,[k]),(0,[k,k])]
def zK:∀g∈[CU 0,CU 1],g∈aR 1 [0,1]:=by decide +kernel
abbrev wj (a k:Hg):Wd:=[(0,[]),(k,[0]),(a - 1,[0,0])]
def wm:∀k∈d6 2,wj 2 k∈aR 2 [0]:=by decide +kernel
def wn:∀k∈d6 3,wj 3 k∈aR 3 [0]:=by decide +kernel
def zL {a x y:Hg}(h:wj a x=wj a y):x=y:=by
 unfold wj at h;injection h with _ h
 injection h with h _
 injection h
def Ey {a n:G9}{m0 m1 m2 x y z:Hg}(h0:0<=m0/\m0 < a)(h1:0<=m1/\m1 < a)(h2:0<=m2/\m2 < a)(hx:0<=x/\x < n)(hy:0<=y/\y < n)(hz:0<=z/\z < n):GoodW a n [(m0,[]),(m1,[x]),(m2,[y,z])]:=by
 show#[λk p h=>?_,λk p h=>?_,λk p h=>?_] <;> match k,h with
 | 0,h=>cases h; first|exact h0|rfl|(intro w hw; cases hw)
 | 1,h=>cases h; first|exact h1|rfl|(intro w hw; rw[Hk.mp hw]; exact hx)
 | 2,h=>cases h; first|exact h2|rfl|(intro w hw; rcases HF.mp hw with e|hw <;> first|exact e ▸ hy|(rw[Hk.mp hw]; exact hz))
 | n+3,h=>simp at h
section
variable{defs:G0 (Hs×Df)}{fuel d:G9}{S:aa}{r:G9}{Q:QW}
def pV (hfu:20 < fuel)(G:Gen defs)(hun:Is defs ("_law_unlaying_rule" : Hs) 1 10 bc)(hf:Fl S r)(k:∀w S',eY w->Fl S' r->Kp r S S'->Q (w,S')):wO (aF (am defs fuel (d+6)) "_law_unlaying_rule" 1 [.ref r] S) Q:=by
 show aq hun rfl rfl λQ' hR=>?_
 replace k:∀w S',eY w->Fl S' r->Kp r S S'->Q' (.rt w,S'):=λz S' a b c=>hR _ _ (k z S' a b c)
 clear hR;change wZ _ _ bc [gV (.ref r),td,td,td,td,td,td,td,td,td] S Q';unfold bc;nofun
 left;show aL (d:=d+4) G.pick hf #v[] #v[] λv S1 v0 v7 f1 k1=>hK _ _ ?_
 clear hK K;have hlt:=f1.lt;nofun
 dsimp only[wS,wT,wE,wV,wG,ie,bv,wB];show ae (Q0:=Q') (λ_ Q2 _ hr=>?_) (λ_ Q2 hn _=>aP (hn _ _ (hK _ _ ?_)))
 ·
  show st ?_;left;show eW 2 (λi zs Z2 S2=>(∃a1,Z2=[td,a1])/\zs=([CU 0,CU 1].take i).map ak/\S2=S1) rfl rfl rfl #v[] #[rfl,#[td,rfl],rfl,rfl] ?_ ?_
  ·rintro i zs Z2 S2 hi ⟨⟨a1,rfl⟩,rfl,rfl⟩;clear k hr hK;dsimp only[fA,wC,wE,wA,wV,wG,Hh];show#[λ_=>#[#[_,rfl],?_,rfl],λz=>by cases z]
   rcases(show i=0\/i=1 by omega)with h|h
   ·subst h; rfl
   ·subst h; rfl
  ·rintro zs Z2 S2 ⟨_,rfl,rfl⟩;show#[ii rfl,?_];show gf (d:=d) (a:=1) (bs:=[0,1]) (us:=[CU 0,CU 1]) hfu G (f1.ka .push) #v[] #v[] (λS' kk=>?_) #v[] #v[] λms ns S3 hml hnl hnm f3 k3=>?_
   ·simp only[dX,aG (kk.get _ _ ∅ aj)]; rfl
   exact hr _ _ (k _ _ #[1,[0,1],ms,ns,_,rfl,#[#[#v[],.inr (.inl rfl),#v[],#v[]],hml,hnl,hnm,#v[],zK]] f3 (k1.trans (Kp.push.trans k3)))
 clear hK K hn;nofun
 dsimp only[wS,wT,wE,wV,wG,ie,bv,wB];show ae (Q0:=Q') (λ_ Q2 _ hr=>?_) (λ_ Q2 hn _=>aP (hn _ _ (hK _ _ ?_)))
 ·
  clear hK;nofun
  left;show kn (d:=d) (a:=2) (bs:=[0,1]) hfu G f1 #v[] #v[] λms ns S3 hml hnl hnm f3 k3=>hK _ _ ?_
  clear hK K;have hsz:SizeOk 2 [0,1]:=#[#v[],.inr (.inl rfl),#v[],#v[]]
  have hrt:=f3.lt;have kk:Kp r S S3:=k1.trans k3;show st ?_;dsimp only[wS,wE,Hh];nofun
  show eM rfl rfl ?_;dsimp only[wE,wA,wV,wG];show we (d:=d+4) G (a:=2) #v[] λq ts S4 e4 ht hq k4=>?_
  have hq':S3.length < q:=by simp only[G3,Ih,Jk]at hq; omega
  show#[q,ts.map gA,(λ_ Z S'=>(∃x4 x5 x6 x7 x8 x9,Z=[gV (.ref r),gV (.int v),gV (eh ms ns [0,1] []),gV (.ref S3.length),x4,x5,x6,x7,x8,x9])/\(∃U fs,S'[S3.length]?=gV (.dic U)/\FigD (aR 2 [0,1]) U fs)/\S'[q]?=gV (.lst (ts.map gA))/\Fl S' r/\Kp r S S'),rfl,#[#[_,_,_,_,_,_,rfl],#[[],[],k4.get _ _ aj,.nil],e4,(f3.ka .push).ka k4,(kk.trans .push).trans (k4.kp r)],λi Z S' h=>h.2.2.1,?_,?_]
  ·rintro i w Z S5 hw ⟨⟨x4,x5,x6,x7,x8,x9,rfl⟩,⟨U,fs,e5,hd⟩,hq5,f5,k5⟩;clear hK;rw[Hc,G6]at hw;obtain⟨⟨tr1,tr2,tr3⟩,htt,rfl⟩:=hw;obtain⟨t1,t2,t3⟩:=ht _ (Hn htt);have h53:S3.length < S5.length:=cp e5;have hq5l:q < S5.length:=cp hq5;show ab (show fF (.nm 4) (gA (tr1,tr2,tr3)) [gV (.ref r),gV (.int v),gV (eh ms ns [0,1] []),gV (.ref S3.length),x4,x5,x6,x7,x8,x9] S5=gV ([gV (.ref r),gV (.int v),gV (eh ms ns [0,1] []),gV (.ref S3.length),gV (gA (tr1,tr2,tr3)),x5,x6,x7,x8,x9],S5)from rfl) λQ3 hn3 _=>?_
   nofun
   show eM rfl rfl ?_;dsimp only[wE,wA,wV,wG];show#[S5.length,[(1,1,0),(1,1,1),(1,0,1),(0,1,1)].map gA,(λ_ Z S'=>(∃x5 x6 x7 x8 x9,Z=[gV (.ref r),gV (.int v),gV (eh ms ns [0,1] []),gV (.ref S3.length),gV (gA (tr1,tr2,tr3)),x5,x6,x7,x8,x9])/\(∃U fs,S'[S3.length]?=gV (.dic U)/\FigD (aR 2 [0,1]) U fs)/\S'[q]?=gV (.lst (ts.map gA))/\S'[S5.length]?=gV (.lst ([(1,1,0),(1,1,1),(1,0,1),(0,1,1)].map gA))/\Fl S' r/\Kp r S S'),rfl,#[#[_,_,_,_,_,rfl],#[U,fs,ay e5,hd],ay hq5,aj,f5.ka .push,k5.trans .push],λi Z S' h=>h.2.2.2.1,?_,?_]
   ·rintro i w Z S6 hw ⟨⟨x5,x6,x7,x8,x9,rfl⟩,⟨U,fs,e6,hd⟩,hq6,hl6,f6,k6⟩;clear hK hn3;rw[Hc,G6]at hw;obtain⟨⟨y1,y2,y3⟩,hy,rfl⟩:=hw;have hy':(0<=y1/\y1 < 2)/\(0<=y2/\y2 < 2)/\(0<=y3/\y3 < 2):=by
     have:∀p∈([(1,1,0),(1,1,1),(1,0,1),(0,1,1)]:G0 (Hg×Hg×Hg)),(0<=p.1/\p.1 < 2)/\(0<=p.2.1/\p.2.1 < 2)/\(0<=p.2.2/\p.2.2 < 2):=by decide
     exact this _ (Hn hy)
    show ab (show fF (.tp [5,6,7]) (gA (y1,y2,y3)) [gV (.ref r),gV (.int v),gV (eh ms ns [0,1] []),gV (.ref S3.length),gV (gA (tr1,tr2,tr3)),x5,x6,x7,x8,x9] S6=gV ([gV (.ref r),gV (.int v),gV (eh ms ns [0,1] []),gV (.ref S3.length),gV (gA (tr1,tr2,tr3)),gV (.int y1),gV (.int y2),gV (.int y3),x8,x9],S6)from rfl) λQ4 hn4 _=>?_
    nofun
    left;show ac #v[] rfl (ac #v[] rfl (hK _ _ ?_))
    clear hK K;have hu:GoodW 2 2 [(tr1,[]),(tr2,[y1]),(tr3,[y2,y3])]:=Ey t1 t2 t3 hy'.1 hy'.2.1 hy'.2.2;show st ?_;left;show ac #v[] rfl (ab (aQ (ii rfl)) ?_)
    show oK (d:=d+2) (m0:=.tup (ms.map W.str)) (b0:=.tup []) (bs:=[0,1]) (u:=[(tr1,[]),(tr2,[y1]),(tr3,[y2,y3])]) G (.inr (.inl rfl)) hnl hu rfl λS7 k7=>?_
    have e7:=k7.get _ _ e6;exact Az e7 hd hsz hu rfl λo ho=>aP (hn4 _ _ #[#[_,_,_,_,_,rfl],ho,by rw[cg ∅]; exact k7.get _ _ hq6,by rw[cg ∅]; exact k7.get _ _ hl6,(f6.ka k7).own hrt,(k6.trans (k7.kp r)).late kk.len])
   ·rintro Z S6 ⟨⟨x5,x6,x7,x8,x9,rfl⟩,hdd,hq6,hl6,f6,k6⟩;exact hK _ _ (aP (hn3 _ _ #[#[_,_,_,_,_,_,rfl],hdd,hq6,f6,k6]))
  ·rintro Z S5 ⟨⟨x4,x5,x6,x7,x8,x9,rfl⟩,⟨U,fs,e5,hd⟩,hq5,f5,k5⟩;show hK _ _ (st ?_);left;exact Ay (Q:=λp=>Q2 (.rt p.1,p.2)) e5 hd hsz hml hnl hnm λw S8 hw k8=>hr _ _ (k w S8 hw (f5.ka k8) (k5.trans (k8.kp r)))
 clear hK K hn;nofun
 left;show aL (d:=d+4) G.pick f1 #v[] #v[] λv2 S2 v20 v22 f2 k2=>?_
 dsimp only[cQ,bv];obtain⟨a,ea⟩ : ∃a:G9,2+v2=a:=#[(2+v2).toNat,∅]
 rw[ea];have ha:a=2\/a=3:=∅
 show hK _ _ ?_;clear hK K;nofun
 dsimp only[wS,wE,Hh];show eW (a:Hg) (λi zs Z2 S3=>(∃a1,Z2=[td,a1,gV (.int a)])/\zs=((d6 i).map (wj a)).map ak/\S3=S2) rfl rfl rfl ∅ #[rfl,#[td,rfl],rfl,rfl] ?_ ?_
 ·rintro i zs Z2 S3 hi ⟨⟨a1,rfl⟩,rfl,rfl⟩;dsimp only[fA,wC,wE,wA,wV,wG,Hh,jk,bv];show#[λ_=>#[#[_,rfl],?_,rfl],λz=>by cases z]
  simp[d6,Jd,wj,ak,ag]
 ·rintro zs Z2 S3 ⟨_,rfl,rfl⟩;rw[Hr];have hul:(d6 a).length=a:=by simp[d6]
  show#[kU (by rw[G1,G1,hul]; omega),hK _ _ (st ?_)]
  clear hK K;dsimp only[wS,wE,wA,wP,wV,wG];show aL (d:=d+4) G.pick (f2.ka .push) ∅ ∅ λv4 S4 v40 v4a f4 k4=>?_
  dsimp only[cQ,bv,wN];obtain⟨mm,em⟩ : ∃mm:G9,1+v4=mm:=#[(1+v4).toNat,∅]
  rw[em];have hlt2:=f2.lt;have e4:S4[S3.length]?=gV (.lst (((d6 a).map (wj a)).map ak)):=k4.get _ _ ∅ aj
  have hsl:fE (.ref S3.length) td (gV (mm:Hg)) S4=gV (.ref S4.length,S4++[.lst ((((d6 a).map (wj a)).take mm).map ak)]):=by
   simp only[fE,aG e4,cU,Ks]
  show ab hsl ?_;have hlt4:=f4.lt;have hmem:∀g∈((d6 a).map (wj a)).take mm,g∈aR a [0]:=λg hg=>by
   obtain⟨x,hx,rfl⟩:=Hz.mp (J4 hg);rcases ha with rfl|rfl
   ·exact wm x hx
   ·exact wn x hx
  show gf (d:=d) (a:=a) (bs:=[0]) (us:=((d6 a).map (wj a)).take mm) hfu G (f4.ka .push) ∅ #v[] (λS' kk=>?_) (by rw[HD,G1,hul]; omega) (λu hu=>oO (hmem u hu)) λms ns S5 hml hnl hnm f5 k5=>?_
  ·simp only[dX,aG (kk.get _ _ ∅ aj)]
  show k _ _ #[a,[0],ms,ns,_,rfl,#[#[∅,io,by simp; omega,∅],hml,hnl,hnm,?_,hmem]] f5 (k1.trans (k2.trans (Kp.push.trans (k4.trans (Kp.push.trans k5)))))
  show P2 (NJ _ _) ?_;unfold P1 d6;rw[LU,LU];exact(Og (n:=a)).imp λh e=>h (by have:=zL e; omega)
end
abbrev rz:Ss:=
 #v[.ite (.cmp .gt (.v 2) (.v 3)) #v[.ret (.ix (.ix (.ix (.v 1) (.v 2)) (.c (.int 1))) (.v 3))] .nil,.ret (.ix (.ix (.ix (.v 0) (.c (.int 1))) (.ix (.ix (.ix (.v 1) (.v 3)) (.c (.int 1))) (.v 2))) (.c (.int 1)))]
abbrev gP:Ss:=
 #v[.ret (.bi .tuple #v[.comp (.own "point_over" 4 #v[.v 4,.v 5,.sl (.v 3) .no (.yes (.v 1)),.v 2]) (.tp [1,2]) (.enu #v[.v 2]) .nil [td,td,td,gV 2,gV 0,gV 1]])]
abbrev dJ:Ss:=
 #v[.ret (.tup #v[.ix (.ix (.v 1) (.v 3)) (.c (.int 0)),.bi .tuple #v[.comp (.own "way" 4 #v[.v 3,.v 4,.v 2,.v 1]) (.nm 1) (.seq (.v 2)) .nil [td,td,gV 3,gV 0,gV 1]]])]
section
variable{defs:G0 (Hs×Df)}{fuel d:G9}{S:aa}{r:G9}{Q:QW}
def wo {M:Hs->FF}{m0 b0:W}{ns:G0 Hs}{bs:G0 Hg}{a:G9}{u:Wd}{i j:G9}{Q:QO}(hb:GoodB bs)(hl:ns.length=bs.length)(hu:GoodW a bs.length u)(hi:i < u.length)(hj:j < u.length)(hij:i≠j)(k:Q (.rt (.int (bx bs u i j)),S)) :
  wZ M fuel rz [gV (.tup [m0,.tup (He aD ns bs),b0]),gV (ak u),gV (.int i),gV (.int j)] S Q:=by
 have hpi:=ar (d:=(0,[])) hi;have hpj:=ar (d:=(0,[])) hj;unfold bx at k;dsimp only[rz];nofun
 dsimp only[wS,wT,wE,wV,wG,zq,wO,wB,ak];show ae (Q0:=Q) (λh Q2 _ hr=>?_) (λh Q2 hn _=>?_)
 ·have hji:j < i:=by have:=ID h; omega
  rw[HE hji]at k;have hw:j < (u.getD i (0,[])).2.length:=by rw[hu.len i _ hpi]; exact hji
  show st ?_;dsimp only[wS,wE,wV,wG];show ac (Hf i) (cq hi) (ac #v[] rfl (ac (Hf j) ?_ (hr _ _ k)))
  rw[Hr,Hc,ar (d:=0) hw]; rfl
 ·have hji:¬ j < i:=by have:=JR h; omega
  rw[HX hji]at k;show aP (hn _ _ (hK _ _ ?_));clear hn hK;have hw:i < (u.getD j (0,[])).2.length:=by rw[hu.len j _ hpj]; omega
  have hg:=ar (d:=0) hw;obtain⟨g1,g2⟩:=hu.way j _ hpj _ (Hn hg);obtain⟨b,hb1,hb2,hb3⟩:=hb.rng ((u.getD j (0,[])).2.getD i 0).toNat ∅
  have hn:((u.getD j (0,[])).2.getD i 0).toNat < ns.length:=∅
  rw[getD_some hb1]at k;show st ?_;dsimp only[wS,wE,wV,wG];show ac #v[] rfl (ac (Hf j) (cq hj) (ac #v[] rfl (ac (Hf i) ?_ (ac g1 (kj (Hi hn) hb1) (ac #v[] rfl k)))))
  rw[Hr,Hc,hg]; rfl
structure Parts (defs:G0 (Hs×Df)):Prop where
 way:Is defs ("way" : Hs) 4 4 rz
 over:Is defs ("point_over" : Hs) 4 4 dJ
def Ez (P:Parts defs){m0 b0:W}{ns:G0 Hs}{bs:G0 Hg}{a:G9}{u:Wd}{i j:G9}(hb:GoodB bs)(hl:ns.length=bs.length)(hu:GoodW a bs.length u)(hi:i < u.length)(hj:j < u.length)(hij:i≠j)(k:Q (.int (bx bs u i j),S)) :
  wO (aF (am defs fuel (d+1)) "way" 4 [.tup [m0,.tup (He aD ns bs),b0],ak u,.int i,.int j] S) Q:=
 aq P.way rfl rfl λQ' hR=>wo hb hl hu hi hj hij (hR _ _ k)
def Cs (P:Parts defs){m0 b0:W}{ns:G0 Hs}{bs:G0 Hg}{a:G9}{u:Wd}{ps:G0 G9}{i:G9}(hb:GoodB bs)(hl:ns.length=bs.length)(hu:GoodW a bs.length u)(hps:∀p∈ps,p < u.length/\i≠p)(hi:i < u.length)(hsz:ps.length<=1000)(k:∀S',Ka S S'->Q (ag ((u.getD i (0,[])).1,ps.map λq=>bx bs u i q),S')) :
  wO (aF (am defs fuel (d+2)) "point_over" 4 [.tup [m0,.tup (He aD ns bs),b0],ak u,.tup (aw ps),.int i] S) Q:=by
 show aq P.over rfl rfl λQ' hR=>?_
 replace k:∀S',Ka S S'->Q' (.rt (ag ((u.getD i (0,[])).1,ps.map λq=>bx bs u i q)),S'):=λS' a=>hR _ _ (k S' a)
 clear hR;change wZ _ _ dJ [gV (.tup [m0,.tup (He aD ns bs),b0]),gV (ak u),gV (.tup (aw ps)),gV (.int i)] S Q';generalize hR0:W.tup [m0,.tup (He aD ns bs),b0]=R;dsimp only[dJ];show st ?_;left;show ac (Hf i) (cq hi) (ac #v[] rfl ?_)
 show mZ (aw ps) (λj ys Z2 S2=>(∃a1,Z2=[td,a1,gV (.int i),gV R,gV (ak u)])/\ys=(ps.take j).map (λq=>W.int (bx bs u i q))/\Ka S S2) rfl rfl rfl #[rfl,#[td,rfl],rfl,.refl] ?_ ?_
 ·rintro j w ys Z2 S2 hw ⟨⟨a1,rfl⟩,rfl,k2⟩;unfold aw at hw;rw[Hc,G6]at hw;obtain⟨q,hq,rfl⟩:=hw;obtain⟨hqu,hqi⟩:=hps q (Hn hq);show ab (show fF (.nm 1) (.int (q:Hg)) [td,a1,gV (.int i),gV R,gV (ak u)] S2=gV ([td,gV (.int (q:Hg)),gV (.int i),gV R,gV (ak u)],S2)from rfl) ?_
  dsimp only[fA,wC,wE,wA,wV,wG];subst hR0;show#[λ_=>Ez (d:=d) P hb hl hu hi hqu hqi #[#[_,rfl],?_,k2],λz=>by cases z]
  rw[Ig,hq];simp
 ·rintro ys Z2 S2 ⟨_,rfl,k2⟩;rw[show(aw ps).length=ps.length from G1 ..,Il]
  show#[kU (by rw[G1]; exact hsz),d3 aj ?_]
  have:=k _ (k2.trans (Ka.push (o:=O.lst (ps.map λq=>W.int (bx bs u i q)))))
  unfold ag at this;rw[IX]at this;exact this
def EA (P:Parts defs)(hp:Is defs ("part" : Hs) 3 3 gP){m0 b0:W}{ns:G0 Hs}{bs:G0 Hg}{a:G9}{u:Wd}{ps:G0 G9}(hb:GoodB bs)(hl:ns.length=bs.length)(hu:GoodW a bs.length u)(hps:∀p∈ps,p < u.length)(hnd:ps.Nodup)(hsz:ps.length<=1000)(k:∀S',Ka S S'->Q (ak (au bs u ps),S')) :
  wO (aF (am defs fuel (d+3)) "part" 3 [.tup [m0,.tup (He aD ns bs),b0],ak u,.tup (aw ps)] S) Q:=by
 show aq hp rfl rfl λQ' hR=>?_
 replace k:∀S',Ka S S'->Q' (.rt (ak (au bs u ps)),S'):=λS' a=>hR _ _ (k S' a)
 clear hR;change wZ _ _ gP [gV (.tup [m0,.tup (He aD ns bs),b0]),gV (ak u),gV (.tup (aw ps))] S Q';generalize hR0:W.tup [m0,.tup (He aD ns bs),b0]=R;dsimp only[gP];show st ?_;dsimp only[wS,wE,wA];show rh (aw ps) (λj ys Z2 S2=>(∃a1 a2,Z2=[td,a1,a2,gV (.tup (aw ps)),gV R,gV (ak u)])/\ys=((au bs u ps).take j).map ag/\Ka S S2) rfl rfl rfl #[rfl,#[td,td,rfl],rfl,.refl] ?_ ?_
 ·rintro j w ys Z2 S2 hw ⟨⟨a1,a2,rfl⟩,rfl,k2⟩;unfold aw at hw;rw[Hc,G6]at hw;obtain⟨q,hq,rfl⟩:=hw;have hj:j < ps.length:=(Hm.mp hq).1;have eq:q=ps[j]:=(Hm.mp hq).2.symm;show ab (show fF (.tp [1,2]) (.tup [.int (j:Hg),.int (q:Hg)]) [td,a1,a2,gV (.tup (aw ps)),gV R,gV (ak u)] S2=gV ([td,gV (.int (j:Hg)),gV (.int (q:Hg)),gV (.tup (aw ps)),gV R,gV (ak u)],S2)from rfl) ?_
  dsimp only[fA,wC,wE,wA,wP,wV,wG,wN];show#[λ_=>ab (a:=(.tup (aw (ps.take j)),S2)) ?_ ?_,λz=>by cases z]
  ·simp only[fE,cU];unfold aw;rw[Ks]
  ·subst hR0;show Cs (d:=d) P hb hl hu (λp hp=>#[hps p (J4 hp),?_]) (hps q (Hn hq)) (by rw[HD]; omega) λS3 k3=>#[#[_,_,rfl],?_,k2.trans k3]
   ·obtain⟨m,hm,e⟩:=KA.mp hp;rw[HD]at hm;rw[Kv]at e;rw[eq,<- e];intro z;have:=(Jy hnd).mp z;omega
   ·have ep:(au bs u ps)[j]?=gV ((u.getD q (0,[])).1,(ps.take j).map λq'=>bx bs u q q'):=by
     unfold au;rw[Hc,Jv hj,HR,getD_some hq]
    rw[Ig,ep];simp
 ·rintro ys Z2 S2 ⟨_,rfl,k2⟩;rw[show(aw ps).length=ps.length from G1 ..,<- aV bs u ps,Il]
  exact#[kU (by rw[G1,aV]; exact hsz),d3 aj (k _ (k2.trans .push))]
end
section
variable{S:aa}{Q:QW}
def oR:∀(xs:G0 G9) (i:G9),(aw xs).eraseIdx i=aw (xs.eraseIdx i)
 | [],i=>by cases i <;> rfl
 | x::xs,0=>rfl
 | x::xs,i+1=>by
  change W.int (x:G9)::(aw xs).eraseIdx i=W.int (x:G9)::aw (xs.eraseIdx i);rw[oR xs i]
def sR (n:G9):yp 0 ((n:Hg) - 0).toNat=aw (Ho n):=by
 unfold yp aw;rw[show((n:Hg) - 0).toNat=n by omega]
 exact IG λk _=>by rw[Lu]
def zM {i n:G9}(h:S[i]?=gV (.rng 0 n))(hn:n<=1000)(q:Q (.ref S.length,S++[.lst (aw (Ho n))])):wO (Bi.list.fn [.ref i] S) Q:=by
 show ab ?_ q;have h1:uC S i=gV (0,(n:Hg)):=by simp[uC,h]
 have h2:jf [.ref i] S=gV (.ref S.length,S++[.lst (aw (Ho n))]):=by
  (dsimp only[jf]; simp only[h1])
  rw[HE #[∅,∅,∅,∅,by rw[IE]; omega],sR]
 simp only[Bi.fn,B3,h2]
def EB {t:G9}{xs:G0 W}{v:Hg}{w:W}(h:S[t]?=gV (.lst xs))(h0:0<=v)(hw:xs[v.toNat]?=gV w)(hl:xs.length<=1000)(q:Q (w,S.set t (.lst (xs.eraseIdx v.toNat)))):wO (Me.pop.fn (.ref t) [.int v] S) Q:=by
 show ab ?_ q;have hv:=(Hm.mp hw).1;have hs:seqIndex? v xs.length=gV v.toNat:=by
  unfold seqIndex?;rw[HX (show ¬ v < 0 by omega)]
  exact HE (by rw[G8]; exact#[IL h0,IL ∅])
 (dsimp only[Me.fn,yo]; simp only[bU h])
 rw[HE #[∅,∅]]
 simp only[hs,hw]
end
section
variable{defs:G0 (Hs×Df)}{fuel d:G9}{S:aa}{r:G9}{Q:QW}
def EC {t l:G9}{xs ys:G0 W}(h:S[t]?=gV (.lst xs))(h2:S[l]?=gV (.lst ys))(hl:xs.length+ys.length<=1000)(q:Q (.non,S.set t (.lst (xs++ys)))):wO (Me.extend.fn (.ref t) [.ref l] S) Q:=by
 show ab ?_ q
 (dsimp only[Me.fn,gZ]; simp only[bU h,bU h2])
 rw[HE (kU hl)]
end
abbrev rA (bs:G0 Hg)(v:Wd)(ps:G0 G9)(i:G9):Pt:=((v.getD i (0,[])).1,ps.map λq=>bx bs v i q)
abbrev fR (n:G9)(os:G0 (G0 G9)):G0 (G0 G9):=os.flatMap λo=>((Ho n).filter λp=>decide (p∉o)).map λp=>o++[p]
def lQ (bs:G0 Hg)(v:Wd)(o:G0 G9)(p:G9):au bs v (o++[p])=au bs v o++[rA bs v o p]:=by
 unfold au rA;rw[G3,HS,Jd,Hy];congr 1
 ·show IG λk hk=>?_
  have hk:=Hu.mp hk;rw[show(o++[p]).getD k 0=o.getD k 0 by simp[HV hk],List.take_append_of_le_length ∅]
 ·simp
def oS {n:G9}:∀os:G0 (G0 G9),(fR n os).length<=os.length*n
 | []=>by simp[fR]
 | o::os=>by
  have ih:=oS (n:=n) os;unfold fR at ih ⊢;rw[J5,G3,G1,Ih,Ml];have:=Jg (λp=>decide (p∉o)) (Ho n)
  rw[HG]at this;omega
def sS {n:G9}{os:G0 (G0 G9)}{i:G9}:(fR n (os.take i)).length<=os.length*n:=by
 show HK (oS _) (MT _ ?_);rw[HD]; omega
def i3 {S:aa}{d:G9}:∀xs ys:G0 Hg,jq (iJ S d) (xs.map W.int) (ys.map W.int)=gV (decide (xs=ys))
 | [],[]=>rfl
 | [],_::_=>rfl
 | _::_,[]=>rfl
 | x::xs,y::ys=>by
  have e:iJ S d (.int x) (.int y)=gV (x==y):=by cases d <;> rfl
  simp only[IK,jq,e,i3 xs ys]
  by_cases h:x=y
  ·subst h; by_cases h2:xs=ys <;> simp[h2]
  ·have h':(x==y)=false:=by simpa using h
   simp[h,h']
def Ct {S:aa}{d:G9}(p q:Pt):iJ S (d+2) (ag p) (ag q)=gV (decide (p=q)):=by
 obtain⟨m,ws⟩:=p;obtain⟨m',ws'⟩:=q;change jq (iJ S (d+1)) [.int m,.tup (ws.map W.int)] [.int m',.tup (ws'.map W.int)]=_;have e:iJ S (d+1) (.int m) (.int m')=gV (m==m'):=rfl;have e2:iJ S (d+1) (.tup (ws.map W.int)) (.tup (ws'.map W.int))=gV (decide (ws=ws')):=i3 ws ws';simp only[jq,e,e2]
 by_cases h:m=m'
 ·subst h; by_cases h2:ws=ws' <;> simp[h2]
 ·have h':(m==m')=false:=by simpa using h
  simp[h,h']
def ED {S:aa}{p q:Pt}:aJ .eq (ag p) (ag q) S=gV (.bl (decide (p=q)),S):=by
 show(iJ S (18+2) (ag p) (ag q)).map _=_;rw[Ct]; rfl
def oT {p:G9}:∀ps:G0 G9,((aw ps).any λz=>nJ z (.int p))=decide (p∈ps)
 | []=>rfl
 | q::ps=>by
  show((q:Hg)==(p:Hg)||(aw ps).any _)=_
  rw[oT ps]
  by_cases h:q=p
  ·subst h; simp
  ·have h1:((q:Hg)==(p:Hg))=false:=by simp; omega
   have h2:¬ p=q:=λe=>h e.symm
   rw[h1]; simp[h2]
def sT (ps:G0 G9):(aw ps).all bX=true:=by
 rw[HC];intro x hx;obtain⟨p,_,rfl⟩:=Hz.mp hx;rfl
def wp {S:aa}{p:G9}{ps:G0 G9}:aJ .notin (.int p) (.tup (aw ps)) S=gV (.bl (decide (p∉ps)),S):=by
 change dF .notin (.int p) (.tup (aw ps)) S=_;have hf:(bX (.int p)&&(aw ps).all bX)=true:=by rw[sT]; rfl
 simp only[dF,r9,Bx,fH,hf,Ki,HR,oT];congr 3
 by_cases h:p∈ps <;> simp[h]
def iq {xs:G0 W}:jr xs td (gV (-1))=xs.dropLast:=by
 unfold jr;rw[HT.jG,OU,NR,List.dropLast_eq_take];congr 1;show(if (-1:Hg) < 0 then((-1:Hg)+(xs.length:Hg)).toNat else min (-1:Hg).toNat xs.length)=_
 rw[HE #v[]]; omega
abbrev aX:Ss:=
 #v[.set 2 (.lst .nil),.loop (.nm 3) (.seq (.v 0)) #v[.ex (.me .extend (.v 2) #v[.comp (.op .add (.v 2) (.tup #v[.v 1])) (.nm 1) (.rng #v[.v 1]) #v[.cmp .notin (.v 1) (.v 2)] [td,td,gV 3]])],.ret (.v 2)]
abbrev ci (os:G0 (G0 G9)):G0 W:=os.map λo=>.tup (aw o)
section
variable{defs:G0 (Hs×Df)}{fuel d:G9}{S:aa}{Q:QW}
def pW {t l:G9}{xs ys:G0 W}(h:S[t]?=gV (.lst xs))(h2:S[l]?=gV (.lst ys))(hl:xs.length+ys.length<=1000000)(q:Q (.non,S.set t (.lst (xs++ys)))):wO (Me.extend.fn (.ref t) [.ref l] S) Q:=by
 show ab ?_ q;simp only[Me.fn,gZ,bU h,bU h2];rw[HE (by rw[IE]; omega)]
def cL {n:G9}(h:n<=1000000):n<=sizeLine:=by rw[IE]; omega
def wq (hg:Is defs ("longer_orders" : Hs) 2 4 aX){n l:G9}{os:G0 (G0 G9)}(e:S[l]?=gV (.lst (ci os)))(hn:n<=100)(hol:∀o∈os,o.length<=100)(hos:os.length*n<=100000)
  (k:∀(q:G9) (S':aa),S'[q]?=gV (.lst (ci (fR n os)))->S.length<=q->Ka S S'->Q (.ref q,S')) :
  wO (aF (am defs fuel (d+1)) "longer_orders" 2 [.ref l,.int n] S) Q:=by
 show aq hg rfl rfl λQ' hR=>?_
 replace k:∀(q:G9) (S':aa),S'[q]?=gV (.lst (ci (fR n os)))->S.length<=q->Ka S S'->Q' (.rt (.ref q),S'):=λa b c e f=>hR _ _ (k a b c e f)
 clear hR;change wZ _ _ aX [gV (.ref l),gV (.int n),td,td] S Q';have hlS:=cp e;dsimp only[aX];show st ?_;dsimp only[wS,wE,wA,Hh];nofun
 show jA l (ci os) (λi Z S'=>(∃a3,Z=[gV (.ref l),gV (.int n),gV (.ref S.length),a3])/\S'[l]?=gV (.lst (ci os))/\S'[S.length]?=gV (.lst (ci (fR n (os.take i))))/\Ka S S') rfl rfl #[rfl,#[td,rfl],ay e,aj,.push] (λi Z S' h=>h.2.1) ?_ ?_
 ·rintro i w Z S1 hw ⟨⟨a3,rfl⟩,e0,e1,k1⟩;clear hK k;unfold ci at hw;rw[Hc,G6]at hw;obtain⟨o,ho,rfl⟩:=hw;have hol:=hol o (Hn ho);show ab (show fF (.nm 3) (.tup (aw o)) [gV (.ref l),gV (.int n),gV (.ref S.length),a3] S1=gV ([gV (.ref l),gV (.int n),gV (.ref S.length),gV (.tup (aw o))],S1)from rfl) ?_
  intro Q2 hn _;show st ?_;left;show#[dg e1,?_];show eW (n:Hg) (λj ys Z2 S2=>(∃a1,Z2=[td,a1,gV (.tup (aw o))])/\ys=ci (((Ho j).filter λp=>decide (p∉o)).map λp=>o++[p])/\S2=S1) rfl rfl rfl ∅ #[rfl,#[td,rfl],rfl,rfl] ?_ ?_
  ·rintro j ys Z2 S2 hj ⟨⟨a1,rfl⟩,rfl,rfl⟩;dsimp only[fA,wC,wE,wA,wV,wG,Hh];show ab wp ?_;dsimp only[wB];have er:(Ho (j+1)).filter (λp=>decide (p∉o))=(Ho j).filter (λp=>decide (p∉o))++(if j∉o then[j]else[]):=by
    rw[Jd,Kl];congr 1
    by_cases h:j∈o <;> simp[h]
   show#[λh=>?_,λh=>#[#[_,rfl],?_,rfl]]
   ·have h:j∉o:=ID h;show ab (aQ (cL (by rw[G3,show(aw o).length=o.length from G1 ..]; show _+1<=_; omega))) #[#[_,rfl],?_,rfl]
    rw[er,HE h,Hy];unfold ci;rw[Hy];simp[aw]
   ·have h:¬ j∉o:=JR h;rw[er,HX h,IQ]
  ·rintro ys Z2 S2 ⟨_,rfl,rfl⟩;rw[Hr];have hlen:(ci (((Ho n).filter λp=>decide (p∉o)).map λp=>o++[p])).length<=n:=by
    unfold ci;rw[G1,G1];exact HK (Jg _ _) (by rw[HG]; exact Hj _)
   have e1':=ay (u:=O.lst (ci (((Ho n).filter λp=>decide (p∉o)).map λp=>o++[p]))) e1
   have hlt:=sS (n:=n) (os:=os) (i:=i);have hlw:(ci (fR n (os.take i))).length=(fR n (os.take i)).length:=G1 ..;show#[cL ∅,pW e1' aj ∅ (aP (hn _ _ #[#[_,rfl],?_,?_,(k1.trans .push).late (Hj _)]))]
   ·rw[cg ∅]; exact ay e0
   ·rw[bY e1'];unfold fR ci;rw[Ig,ho];simp
 ·rintro Z S1 ⟨⟨a3,rfl⟩,e0,e1,k1⟩;rw[show(ci os).length=os.length from G1 ..,Il]at e1
  exact hK _ _ (st (k _ _ e1 (Hj _) k1))
end
def Cu {S:aa}{i j:G9}{xs ys:G0 Hg}(h1:S[i]?=gV (.lst (xs.map W.int)))(h2:S[j]?=gV (.lst (ys.map W.int))):aJ .eq (.ref i) (.ref j) S=gV (.bl (decide (xs=ys)),S):=by
 show(iJ S (19+1) (.ref i) (.ref j)).map _=_
 (dsimp only[iJ]; simp only[bU h1,bU h2,i3])
 split
 ·rfl
 ·rename_i h;have:xs≠ys:=λe=>h (by rw[e])
  simp[this]
abbrev aY:Ss:=
 #v[.set 4 (.tup #v[.ix (.ix (.v 0) (.v 1)) (.c (.int 0)),.tup .nil]),.set 5 (.tup #v[.ix (.ix (.v 0) (.v 2)) (.c (.int 0)),.tup #v[.ix (.ix (.ix (.v 0) (.v 2)) (.c (.int 1))) (.v 1)]]),.ret (.tup #v[.v 4,.v 5,.tup #v[.ix (.ix (.v 0) (.v 3)) (.c (.int 0)),.tup #v[.ix (.ix (.ix (.v 0) (.v 3)) (.c (.int 1))) (.v 1),.ix (.ix (.ix (.v 0) (.v 3)) (.c (.int 1))) (.v 2)]]])]
abbrev b6 (u:Wd)(i j k:G9):Wd:=[((u.getD i (0,[])).1,[]),((u.getD j (0,[])).1,[(u.getD j (0,[])).2.getD i 0]),((u.getD k (0,[])).1,[(u.getD k (0,[])).2.getD i 0,(u.getD k (0,[])).2.getD j 0])]
section
variable{defs:G0 (Hs×Df)}{fuel d:G9}{S:aa}{Q:QW}
def m7 (hg:Is defs ("three_at" : Hs) 4 6 aY){a n:G9}{u:Wd}{i j k:G9}(hu:GoodW a n u)(h1:i < j)(h2:j < k)(h3:k < u.length)(q:Q (ak (b6 u i j k),S)) :
  wO (aF (am defs fuel (d+1)) "three_at" 4 [ak u,.int i,.int j,.int k] S) Q:=by
 show aq hg rfl rfl λQ' hR=>?_
 replace q:=hR _ _ q;clear hR;change wZ _ _ aY [gV (ak u),gV (.int i),gV (.int j),gV (.int k),td,td] S Q';have hi:i < u.length:=∅
 have hj:j < u.length:=∅
 have lj:i < (u.getD j (0,[])).2.length:=by rw[hu.len j _ (ar (d:=(0,[])) hj)]; exact h1
 have lk:j < (u.getD k (0,[])).2.length:=by rw[hu.len k _ (ar (d:=(0,[])) h3)]; exact h2
 have lki:i < (u.getD k (0,[])).2.length:=∅
 have w:∀ {p m:G9},m < (u.getD p (0,[])).2.length->((u.getD p (0,[])).2.map W.int)[((m:G9):Hg).toNat]?=gV (.int ((u.getD p (0,[])).2.getD m 0)):=λ{p m} h=>by
  rw[Hr,Hc,ar (d:=0) h]; rfl
 dsimp only[aY];show st ?_;left;show ac (Hf i) (cq hi) (ac #v[] rfl ?_)
 show st ?_;left;show ac (Hf j) (cq hj) (ac #v[] rfl (ac (Hf j) (cq hj) (ac #v[] rfl (ac (Hf i) (w lj) ?_))))
 show st ?_;left;exact ac (Hf k) (cq h3) (ac #v[] rfl (ac (Hf k) (cq h3) (ac #v[] rfl (ac (Hf i) (w lki) (ac (Hf k) (cq h3) (ac #v[] rfl (ac (Hf j) (w lk) q)))))))
end
abbrev bf (i j k i' j' k':G9):Prop:=i' < i\/(i'=i/\(j' < j\/(j'=j/\k' < k)))
abbrev Cv (P:G9->G9->G9->HA)(n i j k:G9):Prop:=i < j/\j < k/\k < n/\P i j k=true/\∀i' j' k',i' < j'->j' < k'->k' < n->bf i j k i' j' k'->P i' j' k'=false
abbrev Ans (P:G9->G9->G9->HA)(n:G9)(w:W):Prop:=(w=.non/\∀i j k,i < j->j < k->k < n->P i j k=false)\/∃i j k:G9,w=.tup [.int i,.int j,.int k]/\Cv P n i j k
def Ans.congr {P P':G9->G9->G9->HA}{n:G9}{w:W}(e:∀i j k,i < j->j < k->k < n->P i j k=P' i j k)(h:Ans P n w):Ans P' n w:=by
 rcases h with⟨rfl,h⟩|⟨i,j,k,rfl,a1,a2,a3,a4,a5⟩
 ·exact .inl #[rfl,λi j k b1 b2 b3=>by rw[<- e i j k b1 b2 b3]; exact h i j k b1 b2 b3]
 ·exact .inr #[i,j,k,rfl,a1,a2,a3,by rw[<- e i j k a1 a2 a3]; exact a4,λi' j' k' b1 b2 b3 b4=>by rw[<- e i' j' k' b1 b2 b3]; exact a5 i' j' k' b1 b2 b3 b4]
abbrev bR:Ss:=
 #v[.loop (.nm 2) (.rng #v[.bi .len #v[.v 1]]) #v[.loop (.nm 3) (.rng2 #v[.op .add (.v 2) (.c (.int 1)),.bi .len #v[.v 1]]) #v[.loop (.nm 4) (.rng2 #v[.op .add (.v 3) (.c (.int 1)),.bi .len #v[.v 1]]) #v[.ite (.cmp .isin (.own "three_at" 4 #v[.v 1,.v 2,.v 3,.v 4]) (.v 0)) #v[.ret (.tup #v[.v 2,.v 3,.v 4])] .nil]]],.ret (.c .non)]
abbrev bz (U:G0 (T×W))(u:Wd)(i j k:G9):HA:=(bW U (dB (b6 u i j k))).isSome
section
variable{defs:G0 (Hs×Df)}{fuel d:G9}{S:aa}{Q:QW}
def kW (h3:Is defs ("three_at" : Hs) 4 6 aY)(hg:Is defs ("first_three" : Hs) 2 5 bR){a n q:G9}{u:Wd}{U:G0 (T×W)}(hu:GoodW a n u)(hl:u.length<=1000)(e:S[q]?=gV (.dic U))(kk:∀w,Ans (bz U u) u.length w->Q (w,S)) :
  wO (aF (am defs fuel (d+2)) "first_three" 2 [.ref q,ak u] S) Q:=by
 show aq hg rfl rfl λQ' hR=>?_
 replace kk:∀w,Ans (bz U u) u.length w->Q' (.rt w,S):=λw h=>hR _ _ (kk w h)
 clear hR;change wZ _ _ bR [gV (.ref q),gV (ak u),td,td,td] S Q';have ul:(u.map ag).length=u.length:=G1 ..;dsimp only[bR];nofun
 show bD (u.length:Hg) (λi Z S'=>(∃a2 a3 a4,Z=[gV (.ref q),gV (ak u),a2,a3,a4])/\S'=S/\∀i' j' k',i' < i->i' < j'->j' < k'->k' < u.length->bz U u i' j' k'=false) rfl rfl ∅ ?_ ?_ ?_
 ·dsimp only[wE,wA,wV,wG];show aC ?_;rw[ul];exact#[rfl,#[_,_,_,rfl],rfl,λi' _ _ z=>∅]
 ·rintro i Z S1 hi ⟨⟨a2,a3,a4,rfl⟩,rfl,no⟩ Q2 hn hr;clear hK;dsimp only[Hh];nofun
  show cr ((i:Hg)+1) (u.length:Hg) (λm Z S'=>(∃a3 a4,Z=[gV (.ref q),gV (ak u),gV (.int i),a3,a4])/\S'=S1/\∀j' k',j' < i+1+m->i < j'->j' < k'->k' < u.length->bz U u i j' k'=false) rfl rfl rfl ∅ ?_ ?_ ?_
  ·dsimp only[wE,wA,wV,wG];show ab cQ #[rfl,aC ?_];rw[ul];exact#[rfl,#[_,_,rfl],rfl,λj' k' z1 z2=>∅]
  ·rintro m Z S2 hm ⟨⟨a3,a4,rfl⟩,rfl,no2⟩ Q3 hn3 hr3;clear hK;have ej:(i:Hg)+1+m=((i+1+m:G9):Hg):=∅
   rw[ej];generalize hj:i+1+m=j at no2 hn3 ej;have hij:i < j:=∅
   have hju:j < u.length:=∅
   dsimp only[Hh];nofun
   show cr ((j:Hg)+1) (u.length:Hg) (λl Z S'=>(∃a4,Z=[gV (.ref q),gV (ak u),gV (.int i),gV (.int j),a4])/\S'=S2/\∀k',k' < j+1+l->j < k'->k' < u.length->bz U u i j k'=false) rfl rfl rfl ∅ ?_ ?_ ?_
   ·dsimp only[wE,wA,wV,wG];show ab cQ #[rfl,aC ?_];rw[ul];exact#[rfl,#[_,rfl],rfl,λk' z1 z2=>∅]
   ·rintro l Z S3 hl3 ⟨⟨a4,rfl⟩,rfl,no3⟩ Q4 hn4 hr4;clear hK;have ek:(j:Hg)+1+l=((j+1+l:G9):Hg):=∅
    rw[ek];generalize hk:j+1+l=k at no3 hn4 ek;have hjk:j < k:=∅
    have hku:k < u.length:=∅
    dsimp only[Hh];nofun
    dsimp only[wS,wT,wE,wA,wV,wG];show m7 (d:=d) h3 hu hij hjk hku ?_;show ab (show aJ .isin (ak (b6 u i j k)) (.ref q) S3=gV (.bl (bz U u i j k),S3) by simp only[aJ,eU e,gO]; rfl) ?_
    dsimp only[wB];show ae (Q0:=Q4) (λh Q5 _ hr5=>?_) (λh Q5 hn5 _=>aP (hn5 _ _ (hK _ _ (aP (hn4 _ _ #[#[_,rfl],rfl,λk' z1 z2 z3=>?_])))))
    ·show st ?_;left;show hr5 _ _ (hr4 _ _ (hr3 _ _ (hr _ _ (kk _ (.inr #[i,j,k,rfl,hij,hjk,hku,h,λi' j' k' b1 b2 b3 b4=>?_])))))
     rcases b4 with b|⟨rfl,b|⟨rfl,b⟩⟩
     ·exact no i' j' k' b b1 b2 b3
     ·exact no2 j' k' b b1 b2 b3
     ·exact no3 k' b b2 b3
    ·by_cases ek2:k'=k
     ·rw[ek2]; exact h
     ·exact no3 k' ∅ z2 z3
   ·rintro Z S3 ⟨⟨a4,rfl⟩,rfl,no3⟩;show hK _ _ (aP (hn3 _ _ #[#[_,_,rfl],rfl,λj' k' z1 z2 z3 z4=>?_]))
    by_cases ej2:j'=j
    ·rw[ej2]; exact no3 k' ∅ ∅ z4
    ·exact no2 j' k' ∅ z2 z3 z4
  ·rintro Z S2 ⟨⟨a3,a4,rfl⟩,rfl,no2⟩;show hK _ _ (aP (hn _ _ #[#[_,_,_,rfl],rfl,λi' j' k' z1 z2 z3 z4=>?_]))
   by_cases ei:i'=i
   ·rw[ei]; exact no2 j' k' ∅ ∅ z3 z4
   ·exact no i' j' k' ∅ z2 z3 z4
 ·rintro Z S1 ⟨⟨a2,a3,a4,rfl⟩,rfl,no⟩;show hK _ _ (st ?_);dsimp only[wS,wE];exact kk _ (.inl #[rfl,λi j k b1 b2 b3=>no i j k ∅ b1 b2 b3])
end
structure HasD (U:G0 (T×W))(L:G0 Wd):Prop where
 iff:∀t,t∈U.map (·.1)↔t∈L.map dB
 len:U.length<=L.length
def wt {U:G0 (T×W)}{t:T}:(bW U t).isSome=true↔t∈U.map (·.1):=by
 constructor
 ·intro h;obtain⟨v,hv⟩:=IA.mp h;exact Hz.mpr #[_,wf hv,rfl]
 ·intro h;obtain⟨p,hp,rfl⟩:=Hz.mp h;obtain⟨v,hv⟩:=zJ hp;rw[hv]; rfl
def HasD.get {U:G0 (T×W)}{L:G0 Wd}(h:HasD U L)(t:T):(bW U t).isSome=decide (t∈L.map dB):=by
 rw[JI,wt,h.iff,HM]
def HasD.nil:HasD [] []:=#[λt=>by simp,Hj _]
def HasD.put {U:G0 (T×W)}{L:G0 Wd}{f:Wd}{v:W}(h:HasD U L):HasD (gw U (dB f) v) (L++[f]):=by
 show#[λt=>?_,?_]
 ·rw[iZ,Hy,HI,<- h.iff t]
  by_cases hk:dB f∈U.map (·.1)
  ·rw[HE hk];constructor
   ·exact .inl
   ·rintro(z|z)
    ·exact z
    ·rw[Hk.mp z]; exact hk
  ·rw[HX hk,HI]; rfl
 ·have:=d7 U (dB f) v;have:=h.len;rw[G3,HS]; omega
abbrev eN:Ss:=
 #v[.set 1 .dnew,.loop (.nm 2) (.seq (.ix (.v 0) (.c (.int 2)))) #v[.loop (.nm 3) (.seq (.own "_law_turns" 0 .nil)) #v[.put (.v 1) (.own "_law_part" 3 #v[.v 0,.v 2,.v 3]) (.c (.bl true))]],.ret (.v 1)]
abbrev bJ (bs:G0 Hg)(gs:G0 Wd):G0 Wd:=gs.flatMap λg=>az.map (au bs g)
def ko (bs:G0 Hg):∀gs:G0 Wd,(bJ bs gs).length=6*gs.length
 | []=>rfl
 | g::gs=>by
  have:=ko bs gs;unfold bJ at this ⊢;rw[J5,G3,this,Ih,G1,show az.length=6 from rfl]; omega
section
variable{defs:G0 (Hs×Df)}{fuel d:G9}{S:aa}{Q:QW}
def EE (G:Gen defs)(hg:Is defs ("_law_bad" : Hs) 1 4 eN){m0:W}{ns:G0 Hs}{bs:G0 Hg}{a:G9}{gs:G0 Wd}(hb:GoodB bs)(hnl:ns.length=bs.length)(hgs:∀g∈gs,GoodW a bs.length g/\g.length=3)(h64:gs.length<=100)
  (k:∀(q:G9) (U:G0 (T×W)) (S':aa),S'[q]?=gV (.dic U)->HasD U (bJ bs gs)->S.length<=q->Ka S S'->Q (.ref q,S')) :
  wO (aF (am defs fuel (d+3)) "_law_bad" 1 [.tup [m0,.tup (He aD ns bs),.tup (gs.map ak)]] S) Q:=by
 show aq hg rfl rfl λQ' hR=>?_
 replace k:∀(q:G9) (U:G0 (T×W)) (S':aa),S'[q]?=gV (.dic U)->HasD U (bJ bs gs)->S.length<=q->Ka S S'->Q' (.rt (.ref q),S'):=λa b c e f g h=>hR _ _ (k a b c e f g h)
 clear hR;change wZ _ _ eN [gV (.tup [m0,.tup (He aD ns bs),.tup (gs.map ak)]),td,td,td] S Q';generalize hR0:W.tup [m0,.tup (He aD ns bs),.tup (gs.map ak)]=R;dsimp only[eN];show st ?_;dsimp only[wS,wE,Hh];nofun
 show for_tup (gs.map ak) (λi Z S'=>(∃a2 a3,Z=[gV R,gV (.ref S.length),a2,a3])/\(∃U,S'[S.length]?=gV (.dic U)/\HasD U (bJ bs (gs.take i)))/\Ka S S') rfl rfl ?_ ?_ ?_
 ·dsimp only[wE,wV,wG];subst hR0;exact ac #v[] rfl #[rfl,#[_,_,rfl],#[[],aj,.nil],.push]
 ·rintro i w Z S1 hw ⟨⟨a2,a3,rfl⟩,⟨U,e1,h1⟩,k1⟩;clear hK k;rw[Hc,G6]at hw;obtain⟨g,hg1,rfl⟩:=hw;obtain⟨gg,g3⟩:=hgs g (Hn hg1);have hi:i < gs.length:=(Hm.mp hg1).1;show ab (show fF (.nm 2) (ak g) [gV R,gV (.ref S.length),a2,a3] S1=gV ([gV R,gV (.ref S.length),gV (ak g),a3],S1)from rfl) ?_
  intro Q2 hn _;nofun
  show eM rfl rfl ?_;dsimp only[wE,wA];show rs (d:=d+1) G ?_;show#[S1.length,az.map (λt=>W.tup (aw t)),(λj Z S'=>(∃a3,Z=[gV R,gV (.ref S.length),gV (ak g),a3])/\(∃U,S'[S.length]?=gV (.dic U)/\HasD U (bJ bs (gs.take i)++(az.take j).map (au bs g)))/\S'[S1.length]?=gV (.lst (az.map λt=>W.tup (aw t)))/\Ka S S'),rfl,#[#[_,rfl],#[U,ay e1,by rw[MU,NP,IQ]; exact h1],aj,k1.trans .push],λj Z S' h=>h.2.2.1,?_,?_]
  ·rintro j w Z S2 hw ⟨⟨a3,rfl⟩,⟨U2,e2,h2⟩,el,k2⟩;clear hK hn;rw[Hc,G6]at hw;obtain⟨t,ht,rfl⟩:=hw;have htm:=Hn ht;have tk:t.length<=3/\t.Nodup/\∀p∈t,p < 3:=by
    have:∀t∈az,t.length<=3/\t.Nodup/\∀p∈t,p < 3:=by decide
    exact this t htm
   show ab (show fF (.nm 3) (.tup (aw t)) [gV R,gV (.ref S.length),gV (ak g),a3] S2=gV ([gV R,gV (.ref S.length),gV (ak g),gV (.tup (aw t))],S2)from rfl) ?_
   intro Q3 hn3 _;show st ?_;left;subst hR0;show vV (d:=d) G hb hnl gg (λp hp=>by have:=tk.2.2 p hp; omega) tk.2.1 ∅ λS3 k3=>?_
   have e3:=k3.get _ _ e2;have hlt:U2.length < sizeLine:=by
    have b1:=h2.len;have b2:=ko bs (gs.take i);rw[G3,b2,G1,HD,HD,show az.length=6 from rfl]at b1
    rw[IE]; omega
   show ab (wa e3 hlt) (aP (hn3 _ _ #[#[_,rfl],#[_,bY e3,?_],?_,(k2.trans k3).late (Hj _)]))
   ·rw[Ig,ht,Hy,<- K6];exact h2.put
   ·rw[cg (by have:=k1.len; have:=cp e1; omega)]; exact k3.get _ _ el
  ·rintro Z S2 ⟨⟨a3,rfl⟩,⟨U2,e2,h2⟩,el,k2⟩;rw[G1,Il]at h2;show hK _ _ (aP (hn _ _ #[#[_,_,rfl],#[U2,e2,?_],k2]));unfold bJ at h2 ⊢;rw[Ig,hg1,JJ]
   simpa using h2
 ·rintro Z S1 ⟨⟨a2,a3,rfl⟩,⟨U,e1,h1⟩,k1⟩;rw[G1,Il]at h1;exact hK _ _ (st (k _ U S1 e1 h1 (Hj _) k1))
end
abbrev bq:Ss:=
 #v[.set 1 (.lst #v[.tup .nil]),.whl (.cmp .lt (.bi .len #v[.ix (.v 1) (.c (.int 0))]) (.c (.int 3))) #v[.set 1 (.own "longer_orders" 2 #v[.v 1,.c (.int 3)])],.set 2 .dnew,.loop (.nm 3) (.seq (.ix (.v 0) (.c (.int 2)))) #v[.loop (.nm 4) (.seq (.v 1)) #v[.put (.v 2) (.own "part" 3 #v[.v 0,.v 3,.v 4]) (.c (.bl true))]],.ret (.v 2)]
abbrev sU:G9->G0 (G0 G9)
 | 0=>[[]]
 | i+1=>fR 3 (sU i)
def sV:sU 3=az:=by decide
def Cw:∀i,i<=3->(∃o,(sU i)[0]?=gV o/\o.length=i)/\(sU i).length<=6/\∀o∈sU i,o.length<=3:=λi hi=>by
 rcases(show i=0\/i=1\/i=2\/i=3 by omega)with rfl|rfl|rfl|rfl
 ·exact#[#[[],rfl,rfl],#v[],#v[]]
 ·exact#[#[[0],rfl,rfl],#v[],#v[]]
 ·exact#[#[[0,1],rfl,rfl],#v[],#v[]]
 ·exact#[#[[0,1,2],rfl,rfl],#v[],#v[]]
section
variable{defs:G0 (Hs×Df)}{fuel d:G9}{S:aa}{Q:QW}
def kq (hfu:20 < fuel)(P:Parts defs)(hp:Is defs ("part" : Hs) 3 3 gP)(hl:Is defs ("longer_orders" : Hs) 2 4 aX)(hg:Is defs ("barred_threes" : Hs) 1 5 bq){m0:W}{ns:G0 Hs}{bs:G0 Hg}{a:G9}{gs:G0 Wd}(hb:GoodB bs)(hnl:ns.length=bs.length)(hgs:∀g∈gs,GoodW a bs.length g/\g.length=3)(h64:gs.length<=100)
  (k:∀(q:G9) (U:G0 (T×W)) (S':aa),S'[q]?=gV (.dic U)->HasD U (bJ bs gs)->S.length<=q->Ka S S'->Q (.ref q,S')) :
  wO (aF (am defs fuel (d+4)) "barred_threes" 1 [.tup [m0,.tup (He aD ns bs),.tup (gs.map ak)]] S) Q:=by
 show aq hg rfl rfl λQ' hR=>?_
 replace k:∀(q:G9) (U:G0 (T×W)) (S':aa),S'[q]?=gV (.dic U)->HasD U (bJ bs gs)->S.length<=q->Ka S S'->Q' (.rt (.ref q),S'):=λa b c e f g h=>hR _ _ (k a b c e f g h)
 clear hR;change wZ _ _ bq [gV (.tup [m0,.tup (He aD ns bs),.tup (gs.map ak)]),td,td,td,td] S Q';generalize hR0:W.tup [m0,.tup (He aD ns bs),.tup (gs.map ak)]=R;dsimp only[bq];show st ?_;dsimp only[wS,wE,wA,Hh];nofun
 show Av (λm Z S'=>∃(i q:G9),i+m=3/\Z=[gV R,gV (.ref q),td,td,td]/\S'[q]?=gV (.lst (ci (sU i)))/\S.length<=q/\Ka S S') 3 rfl rfl ∅ #[0,S.length,rfl,rfl,aj,Hj _,.push] ?_
 rintro m Z S1 ⟨i,q,him,rfl,e1,hq,k1⟩;obtain⟨⟨o,ho,hol⟩,l6,l3⟩:=Cw i ∅
 dsimp only[wT,wE,wA,wV,wG];show ij (w:=.tup (aw o)) e1 #v[] (by unfold ci; rw[Hc,show((0:Hg).toNat)=0 from rfl,ho]; rfl) (aC ?_)
 rw[show(aw o).length=o.length from G1 ..,hol]
 dsimp only[zp,bv,wB];show#[λh=>?_,λh=>?_]
 ·have h:(i:Hg) < 3:=ID h;show#[m - 1,∅,λQ2 hn _=>?_]
  clear hK k;show st ?_;left;show wq (n:=3) (d:=d+2) hl e1 #v[] (λo ho=>by have:=l3 o ho; omega) ∅ λq2 S2 e2 hq2 k2=>aP (hn _ _ #[i+1,q2,∅,rfl,e2,?_,k1.trans k2])
  exact HK k1.len hq2
 ·have h:¬ (i:Hg) < 3:=JR h;obtain rfl:i=3:=∅
  rw[sV]at e1;show hK _ _ ?_;clear hK K l6 l3 ho hol h him;show st ?_;dsimp only[wS,wE,Hh];nofun
  have hq1:=cp e1;show for_tup (gs.map ak) (λi Z S'=>(∃a3 a4,Z=[gV R,gV (.ref q),gV (.ref S1.length),a3,a4])/\(∃U,S'[S1.length]?=gV (.dic U)/\HasD U (bJ bs (gs.take i)))/\S'[q]?=gV (.lst (ci az))/\Ka S S') rfl rfl ?_ ?_ ?_
  ·dsimp only[wE,wV,wG];subst hR0;exact ac #v[] rfl #[rfl,#[_,_,rfl],#[[],aj,.nil],ay e1,k1.trans .push]
  ·rintro i w Z S2 hw ⟨⟨a3,a4,rfl⟩,⟨U,e2,h2⟩,el2,k2⟩;clear hK k;rw[Hc,G6]at hw;obtain⟨g,hg1,rfl⟩:=hw;obtain⟨gg,g3⟩:=hgs g (Hn hg1);have hi:i < gs.length:=(Hm.mp hg1).1;show ab (show fF (.nm 3) (ak g) [gV R,gV (.ref q),gV (.ref S1.length),a3,a4] S2=gV ([gV R,gV (.ref q),gV (.ref S1.length),gV (ak g),a4],S2)from rfl) ?_
   intro Q2 hn _;nofun
   show jA q (ci az) (λj Z S'=>(∃a4,Z=[gV R,gV (.ref q),gV (.ref S1.length),gV (ak g),a4])/\(∃U,S'[S1.length]?=gV (.dic U)/\HasD U (bJ bs (gs.take i)++(az.take j).map (au bs g)))/\S'[q]?=gV (.lst (ci az))/\Ka S S') rfl rfl #[rfl,#[_,rfl],#[U,e2,by rw[MU,NP,IQ]; exact h2],el2,k2] (λj Z S' h=>h.2.2.1) ?_ ?_
   ·rintro j w Z S3 hw ⟨⟨a4,rfl⟩,⟨U3,e3,h3⟩,el3,k3⟩;clear hK hn;unfold ci at hw;rw[Hc,G6]at hw;obtain⟨t,ht,rfl⟩:=hw;have tk:t.length<=3/\t.Nodup/\∀p∈t,p < 3:=by
     have:∀t∈az,t.length<=3/\t.Nodup/\∀p∈t,p < 3:=by decide
     exact this t (Hn ht)
    show ab (show fF (.nm 4) (.tup (aw t)) [gV R,gV (.ref q),gV (.ref S1.length),gV (ak g),a4] S3=gV ([gV R,gV (.ref q),gV (.ref S1.length),gV (ak g),gV (.tup (aw t))],S3)from rfl) ?_
    intro Q3 hn3 _;show st ?_;left;subst hR0;show EA (d:=d) P hp hb hnl gg (λp hp=>by have:=tk.2.2 p hp; omega) tk.2.1 ∅ λS4 k4=>?_
    have e4:=k4.get _ _ e3;have hlt:U3.length < sizeLine:=by
     have b1:=h3.len;have b2:=ko bs (gs.take i);rw[G3,b2,G1,HD,HD,show az.length=6 from rfl]at b1
     rw[IE]; omega
    show ab (wa e4 hlt) (aP (hn3 _ _ #[#[_,rfl],#[_,bY e4,?_],?_,(k3.trans k4).late k1.len]))
    ·rw[Ig,ht,Hy,<- K6];exact h3.put
    ·rw[cg ∅]; exact k4.get _ _ el3
   ·rintro Z S3 ⟨⟨a4,rfl⟩,⟨U3,e3,h3⟩,el3,k3⟩;rw[show(ci az).length=az.length from G1 ..,Il]at h3
    show hK _ _ (aP (hn _ _ #[#[_,_,rfl],#[U3,e3,?_],el3,k3]));unfold bJ at h3 ⊢;rw[Ig,hg1,JJ]
    simpa using h3
  ·rintro Z S2 ⟨⟨a3,a4,rfl⟩,⟨U,e2,h2⟩,el2,k2⟩;rw[G1,Il]at h2;exact hK _ _ (st (k _ U S2 e2 h2 k1.len k2))
end
abbrev aK:Ss:=
 #v[.loop (.nm 6) (.rng2 #v[.bi .len #v[.v 5],.bi .len #v[.v 3]]) #v[.set 7 (.lst .nil),.loop (.nm 8) (.rng #v[.bi .len #v[.ix (.v 1) (.c (.int 1))]]) #v[.set 9 (.lst .nil),.loop (.nm 10) (.rng #v[.v 6]) #v[.ex (.me .append (.v 9) #v[.cmp .isin (.tup #v[.tup #v[.ix (.ix (.v 3) (.v 10)) (.c (.int 0)),.tup .nil],.tup #v[.ix (.ix (.v 3) (.v 6)) (.c (.int 0)),.tup #v[.ix (.ix (.ix (.v 3) (.v 6)) (.c (.int 1))) (.v 10)]],.tup #v[.v 4,.tup #v[.ix (.v 5) (.v 10),.v 8]]]) (.v 2)])],.ite (.cmp .notin (.c (.bl true)) (.v 9)) #v[.ex (.me .append (.v 7) #v[.v 8])] .nil],.ite (.cmp .eq (.v 7) (.lst .nil)) #v[.ret (.c .non)] .nil,.set 5 (.op .add (.v 5) (.tup #v[.ix (.v 7) (.own "_law_pick" 2 #v[.v 0,.bi .len #v[.v 7]])]))],.ret (.v 5)]
abbrev bp (U:G0 (T×W))(u:Wd)(mk:Hg)(i m:G9)(x y:Hg):HA:=(bW U (dB [((u.getD i (0,[])).1,[]),((u.getD m (0,[])).1,[(u.getD m (0,[])).2.getD i 0]),(mk,[x,y])])).isSome
def wu {S:aa}{l:G9}{bl:G0 HA}(h:S[l]?=gV (.lst (bl.map W.bl))):∃b,aJ .notin (.bl true) (.ref l) S=gV (.bl b,S)/\(b=true->∀x∈bl,x=false):=by
 have hf:(bX (.bl true)&&(bl.map W.bl).all bX)=true:=by
  simp only[bX,KN,HC];intro x hx;obtain⟨z,_,rfl⟩:=Hz.mp hx;rfl
 show#[!(bl.map W.bl).any λz=>nJ z (.bl true),?_,λhb x hx=>?_]
 ·simp only[aJ,mW h,dF,r9,Bx,fH,aG h,hf,Ki,HR]
 ·rw[Js,NY]at hb;cases x with
  | false=>rfl
  | true=>exact absurd rfl (hb (.bl true) (Hz.mpr #[true,hx,rfl]))
section
variable{defs:G0 (Hs×Df)}{fuel d:G9}{S:aa}{r:G9}{Q:QW}
def kv (G:Gen defs)(hg:Is defs ("_law_new_ways" : Hs) 6 11 aK){m0 b0:W}{N:G0 W}{a n q:G9}{u:Wd}{mk:Hg}{U:G0 (T×W)}(hN:N.length=n)(hn3:n<=3)(hu:GoodW a n u)(hl:u.length<=900){t0:G0 Hg}(ht:t0.length<=u.length)(hr0:∀x∈t0,0<=x/\x < (n:Hg))(e:S[q]?=gV (.dic U))(hqr:q≠r)(hf:Fl S r)
  (k:∀w S',(w=.non\/∃to:G0 Hg,w=.tup (al to)/\to.length=u.length/\(∀x∈to,0<=x/\x < (n:Hg))/\∀j < u.length,t0.length<=j->∀i < j,bp U u mk i j (to.getD i 0) (to.getD j 0)=false)->Fl S' r->Kp r S S'->Q (w,S')) :
  wO (aF (am defs fuel (d+2)) "_law_new_ways" 6 [.ref r,.tup [m0,.tup N,b0],.ref q,ak u,.int mk,.tup (al t0)] S) Q:=by
 show aq hg rfl rfl λQ' hR=>?_
 replace k:∀w S',(w=.non\/∃to:G0 Hg,w=.tup (al to)/\to.length=u.length/\(∀x∈to,0<=x/\x < (n:Hg))/\∀j < u.length,t0.length<=j->∀i < j,bp U u mk i j (to.getD i 0) (to.getD j 0)=false)->Fl S' r->Kp r S S'->Q' (.rt w,S'):=λw S' h1 h2 h3=>hR _ _ (k w S' h1 h2 h3)
 clear hR;change wZ _ _ aK [gV (.ref r),gV (.tup [m0,.tup N,b0]),gV (.ref q),gV (ak u),gV (.int mk),gV (.tup (al t0)),td,td,td,td,td] S Q';generalize hR0:W.tup [m0,.tup N,b0]=R;have ul:(u.map ag).length=u.length:=G1 ..;have hqS:=cp e;have hrS:=hf.lt;dsimp only[aK];nofun
 show cr (t0.length:Hg) (u.length:Hg) (λm Z S'=>∃(to:G0 Hg) (a6 a7 a8 a9 a10:G7 W),Z=[gV (.ref r),gV R,gV (.ref q),gV (ak u),gV (.int mk),gV (.tup (al to)),a6,a7,a8,a9,a10]/\to.length=t0.length+m/\(∀x∈to,0<=x/\x < (n:Hg))/\(∀j < t0.length+m,t0.length<=j->∀i < j,bp U u mk i j (to.getD i 0) (to.getD j 0)=false)/\Fl S' r/\Kp r S S') rfl rfl rfl ∅ ?_ ?_ ?_
 ·dsimp only[wE,wA,wV,wG];show aC #[by change W.int ((al t0).length:Hg)=_; rw[show(al t0).length=t0.length from G1 ..],aC ?_]
  rw[ul];exact#[rfl,t0,_,_,_,_,_,rfl,rfl,hr0,(λj hj hj2=>∅),hf,.refl]
 ·rintro m0 Z S1 hm ⟨to,a6,a7,a8,a9,a10,rfl,htl,hto,hbp,f1,k1⟩ Q2 hn2 hr2;clear hK;rw[show(t0.length:Hg)+m0=((t0.length+m0:G9):Hg) by omega]
  have em:t0.length+(m0+1)=(t0.length+m0)+1:=∅
  rw[em]at hn2;obtain⟨m,hm0⟩ : ∃m,m=t0.length+m0:=#[_,rfl];rw[<- hm0]at htl hbp hn2 ⊢;have hmu:m < u.length:=∅
  have e1:S1[q]?=gV (.dic U):=k1.get _ _ hqr e;have s1:S.length<=S1.length:=k1.len;have lm:=hu.len m _ (ar (d:=(0,[])) hmu);dsimp only[Hh];show st ?_;dsimp only[wS,wE,wA,Hh];nofun
  show bD (n:Hg) (λx Z S'=>(∃a8 a9 a10,Z=[gV (.ref r),gV R,gV (.ref q),gV (ak u),gV (.int mk),gV (.tup (al to)),gV (.int m),gV (.ref S1.length),a8,a9,a10])/\(∃ls:G0 Hg,S'[S1.length]?=gV (.lst (al ls))/\ls.length<=x/\(∀y∈ls,0<=y/\y < (n:Hg))/\∀y∈ls,∀i < m,bp U u mk i m (to.getD i 0) y=false)/\S'[q]?=gV (.dic U)/\Fl S' r/\Kp r S S') rfl rfl ∅ ?_ ?_ ?_
  ·dsimp only[wE,wA,wV,wG];subst hR0;show ac #v[] rfl (aC ?_)
   rw[hN];exact#[rfl,#[_,_,_,rfl],#[[],aj,Hj _,(λy hy=>nomatch hy),λy hy=>nomatch hy],ay e1,f1.ka .push,k1.trans .push]
  ·rintro x Z S2 hx ⟨⟨a8,a9,a10,rfl⟩,⟨ls,e2,hll,hls,hlb⟩,q2,f2,k2⟩ Q3 hn3' hr3;clear hK;have l2:=cp e2;dsimp only[Hh];show st ?_;dsimp only[wS,wE,wA,Hh];nofun
   show bD (m:Hg) (λi Z S'=>(∃a10,Z=[gV (.ref r),gV R,gV (.ref q),gV (ak u),gV (.int mk),gV (.tup (al to)),gV (.int m),gV (.ref S1.length),gV (.int x),gV (.ref S2.length),a10])/\S'[S2.length]?=gV (.lst (((Ho i).map λj=>bp U u mk j m (to.getD j 0) (x:Hg)).map W.bl))/\S'[S1.length]?=gV (.lst (al ls))/\S'[q]?=gV (.dic U)/\Fl S' r/\Kp r S S') rfl rfl ∅ #[rfl,#[_,rfl],aj,ay e2,ay q2,f2.ka .push,k2.trans .push] ?_ ?_
   ·rintro i Z S3 hi ⟨⟨a10,rfl⟩,e3,el3,q3,f3,k3⟩ Q4 hn4 _;clear hK;have hiu:i < u.length:=∅
    have him:i < (u.getD m (0,[])).2.length:=∅
    have hit:i < to.length:=∅
    dsimp only[Hh];show st ?_;left;show#[dg e3,?_];show ac (Hf i) (cq hiu) (ac #v[] rfl (ac (Hf m) (cq hmu) (ac #v[] rfl (ac (Hf m) (cq hmu) (ac #v[] rfl (ac (w:=.int ((u.getD m (0,[])).2.getD i 0)) (Hf i) (by rw[Hr,Hc,ar (d:=0) him]; rfl) (ac (w:=.int (to.getD i 0)) (Hf i) (by rw[Hr]; unfold al; rw[Hc,ar (d:=0) hit]; rfl) ?_)))))))
    show ab (a:=(.bl (bp U u mk i m (to.getD i 0) (x:Hg)),S3)) ?_ ?_
    ·change aJ .isin (ak [((u.getD i (0,[])).1,[]),((u.getD m (0,[])).1,[(u.getD m (0,[])).2.getD i 0]),(mk,[to.getD i 0,(x:Hg)])]) (.ref q) S3=_;simp only[aJ,eU q3,gO]; rfl
    show jl e3 (by rw[G1,G1,HG]; omega) (aP (hn4 _ _ #[#[_,rfl],?_,?_,?_,f3.own ∅,k3.late ∅]))
    ·rw[bY e3,Jd,Hy,Hy]; rfl
    ·rw[cg ∅]; exact el3
    ·rw[cg ∅]; exact q3
   ·rintro Z S3 ⟨⟨a10,rfl⟩,e3,el3,q3,f3,k3⟩;show hK _ _ ?_;clear hK K;nofun
    dsimp only[wS,wT,wE,wA,wV,wG];obtain⟨b,eb,hb⟩:=wu e3;show ab eb ?_;dsimp only[wB];show ae (Q0:=Q3) (λhbt Q5 hn5 _=>?_) (λ_ Q5 hn5 _=>aP (hn5 _ _ (hK _ _ (aP (hn3' _ _ #[#[_,_,_,rfl],#[ls,el3,∅,hls,hlb],q3,f3,k3])))))
    show st ?_;left;show#[dg el3,jl el3 (by unfold al; rw[G1]; omega) (aP (hn5 _ _ (hK _ _ (aP (hn3' _ _ #[#[_,_,_,rfl],#[ls++[(x:Hg)],?_,by rw[G3,HS]; omega,λy hy=>?_,λy hy i hi=>?_],?_,f3.own ∅,k3.late ∅])))))]
    ·rw[bY el3]; unfold al; rw[Hy]; rfl
    ·rcases HI.mp hy with h|h
     ·exact hls y h
     ·rw[Hk.mp h]; omega
    ·rcases HI.mp hy with h|h
     ·exact hlb y h i hi
     ·rw[Hk.mp h];exact hb hbt _ (Hz.mpr #[i,Hu.mpr ∅,rfl])
    ·rw[cg ∅]; exact q3
  ·rintro Z S2 ⟨⟨a8,a9,a10,rfl⟩,⟨ls,e2,hll,hls,hlb⟩,q2,f2,k2⟩;show hK _ _ ?_;clear hK K;rw[Hr]at hll;nofun
   dsimp only[wS,wT,wE,wA,wV,wG];show ab (AA (ay e2) aj) ?_;dsimp only[wB];show ae (Q0:=Q2) (λ_ Q5 _ hr5=>?_) (λhne Q5 hn5 _=>aP (hn5 _ _ (hK _ _ ?_)))
   ·show st ?_;dsimp only[wS,wE];exact hr5 _ _ (hr2 _ _ (k _ _ (.inl rfl) (f2.ka .push) (k2.trans .push)))
   clear hn5 hK;have hpos:0 < ls.length:=by
    cases ls with
    | nil=>cases hne
    | cons _ _=>simp
   show st ?_;left;have e2':=ay (u:=O.lst []) e2;show rj e2' ?_;rw[show(al ls).length=ls.length from G1 ..]
   show aL (d:=d) G.pick (f2.ka .push) ∅ ∅ λv S4 v0 v1 f4 k4=>?_
   have hv:v.toNat < ls.length:=∅
   have e4:=k4.get _ _ (by have:=cp e2; omega) e2'
   show ij (w:=.int ls[v.toNat]) e4 v0 (by unfold al; rw[Hc,Hi hv]; rfl) ?_
   show ab (aQ (cL (by rw[G3,show(al to).length=to.length from G1 ..]; show _+1<=_; omega))) (aP (hn2 _ _ #[to++[ls[v.toNat]],gV (.int m),gV (.ref S1.length),a8,a9,a10,?_,by rw[G3,htl]; rfl,λy hy=>?_,λj hj hj2 i hi=>?_,f4,(k2.trans .push).trans k4]))
   ·rw[show al to++[W.int ls[v.toNat]]=al (to++[ls[v.toNat]]) by unfold al; rw[Hy]; rfl]
   ·rcases HI.mp hy with h|h
    ·exact hto y h
    ·rw[Hk.mp h]; exact hls _ (Iu hv)
   ·have gl:∀j:G9,j < to.length->(to++[ls[v.toNat]]).getD j 0=to.getD j 0:=λj hj=>by rw[Hx,Hx,HV hj]
    rw[gl i ∅]
    by_cases ej:j=m
    ·subst ej;rw[show(to++[ls[v.toNat]]).getD j 0=ls[v.toNat] by rw[<- htl,Hx,Ik (Hj _),Km]; rfl]
     exact hlb _ (Iu hv) i hi
    ·rw[gl j ∅]
     exact hbp j ∅ hj2 i hi
 ·rintro Z S1 ⟨to,a6,a7,a8,a9,a10,rfl,htl,hto,hbp,f1,k1⟩;show hK _ _ (st ?_);dsimp only[wS,wE,wV,wG];exact k _ _ (.inr #[to,rfl,∅,hto,λj hj hj2=>hbp j ∅ hj2]) f1 k1
def kw (G:Gen defs)(hg:Is defs ("_law_new_ways" : Hs) 6 11 aK){m0 b0:W}{N:G0 W}{a n q:G9}{u:Wd}{mk:Hg}{U:G0 (T×W)}(hN:N.length=n)(hn3:n<=3)(hu:GoodW a n u)(hl:u.length<=900)(e:S[q]?=gV (.dic U))(hqr:q≠r)(hf:Fl S r)
  (k:∀w S',(w=.non\/∃to:G0 Hg,w=.tup (al to)/\to.length=u.length/\(∀x∈to,0<=x/\x < (n:Hg))/\∀j < u.length,∀i < j,bp U u mk i j (to.getD i 0) (to.getD j 0)=false)->Fl S' r->Kp r S S'->Q (w,S')) :
  wO (aF (am defs fuel (d+2)) "_law_new_ways" 6 [.ref r,.tup [m0,.tup N,b0],.ref q,ak u,.int mk,.tup []] S) Q:=by
 show kv (t0:=[]) G hg hN hn3 hu hl (IS _) (λx hx=>nomatch hx) e hqr hf λw S' h f' k'=>k w S' ?_ f' k'
 rcases h with h|⟨to,h1,h2,h3,h4⟩
 ·exact .inl h
 ·exact .inr #[to,h1,h2,h3,λj hj=>h4 j hj (IS _)]
end
abbrev du:Ss:=
 #v[.set 4 (.tup .nil),.loop (.nm 5) (.rng #v[.v 3]) #v[.set 6 (.own "_law_pick" 2 #v[.v 0,.bi .len #v[.ix (.v 1) (.c (.int 0))]]),.set 7 (.own "_law_new_ways" 6 #v[.v 0,.v 1,.v 2,.v 4,.v 6,.tup .nil]),.ite (.cmp .isnot (.v 7) (.c .non)) #v[.set 4 (.op .add (.v 4) (.tup #v[.tup #v[.v 6,.v 7]]))] .nil],.ret (.v 4)]
abbrev b7:Ss:=
 #v[.ret (.own "first_three" 2 #v[.own "barred_threes" 1 #v[.v 0],.v 1])]
def aE {u:Wd}{h:Pt}{p:G9}(hp:p < u.length):(u++[h]).getD p (0,[])=u.getD p (0,[]):=by
 rw[Hx,Hx,HV hp]
def bM {u:Wd}{h:Pt}:(u++[h]).getD u.length (0,[])=h:=by
 rw[Hx,Ik (Hj _),Km]; rfl
abbrev Std (U:G0 (T×W))(u:Wd):Prop:=∀k < u.length,∀j < k,∀i < j,bz U u i j k=false
def Std.snoc {U:G0 (T×W)}{u:Wd}{m:Hg}{to:G0 Hg}(h:Std U u)(hb:∀j < u.length,∀i < j,bp U u m i j (to.getD i 0) (to.getD j 0)=false):Std U (u++[(m,to)]):=by
 intro k hk j hj i hi;rw[G3,HS]at hk
 by_cases e:k=u.length
 ·subst e;have:=hb j hj i hi;unfold bp at this;unfold bz b6;rw[aE (JL hi hj),aE hj,bM];exact this
 ·have hk':k < u.length:=∅
  have:=h k hk' j hj i hi;unfold bz b6 at this ⊢;rw[aE (JL hi (JL hj hk')),aE (JL hj hk'),aE hk'];exact this
section
variable{defs:G0 (Hs×Df)}{fuel d:G9}{S:aa}{r:G9}{Q:QW}
def zN (G:Gen defs)(hw:Is defs ("_law_new_ways" : Hs) 6 11 aK)(hg:Is defs ("_law_world" : Hs) 4 8 du){Mqa N:G0 W}{b0:W}{a n q many:G9}{U:G0 (T×W)}(hM:Mqa.length=a)(ha1:0 < a)(ha3:a<=3)(hN:N.length=n)(hn3:n<=3)(hm:many<=900)(e:S[q]?=gV (.dic U))(hqr:q≠r)(hf:Fl S r)
  (k:∀(u:Wd) S',u.length<=many->GoodW a n u->Std U u->Fl S' r->Kp r S S'->Q (ak u,S')) :
  wO (aF (am defs fuel (d+3)) "_law_world" 4 [.ref r,.tup [.tup Mqa,.tup N,b0],.ref q,.int many] S) Q:=by
 show aq hg rfl rfl λQ' hR=>?_
 replace k:∀(u:Wd) S',u.length<=many->GoodW a n u->Std U u->Fl S' r->Kp r S S'->Q' (.rt (ak u),S'):=λu S' h1 h2 h3 h4 h5=>hR _ _ (k u S' h1 h2 h3 h4 h5)
 clear hR;change wZ _ _ du [gV (.ref r),gV (.tup [.tup Mqa,.tup N,b0]),gV (.ref q),gV (.int many),td,td,td,td] S Q';generalize hR0:W.tup [.tup Mqa,.tup N,b0]=R;dsimp only[du];show st ?_;dsimp only[wS,wE,wA,Hh];nofun
 show bD (many:Hg) (λi Z S'=>∃(u:Wd) (a5 a6 a7:G7 W),Z=[gV (.ref r),gV R,gV (.ref q),gV (.int many),gV (ak u),a5,a6,a7]/\u.length<=i/\GoodW a n u/\Std U u/\Fl S' r/\Kp r S S') rfl rfl ∅ #[rfl,[],_,_,_,rfl,Hj _,.nil,(λk hk=>by cases hk),hf,.refl] ?_ ?_
 ·rintro i Z S1 hi ⟨u,a5,a6,a7,rfl,hul,hu,hst,f1,k1⟩ Q2 hn _;clear hK;have e1:=k1.get _ _ hqr e;dsimp only[Hh];show st ?_;left;subst hR0;show ac #v[] rfl (aC ?_)
  rw[hM];show aL (d:=d+1) G.pick f1 ∅ ∅ λv S2 v0 v1 f2 k2=>?_
  have e2:=k2.get _ _ hqr e1;show st ?_;left;show kw (d:=d) G hw hN hn3 hu ∅ e2 hqr f2 λw S3 hw3 f3 k3=>?_
  nofun
  dsimp only[wS,wT,wE,wA,wV,wG];rcases hw3 with rfl|⟨to,rfl,htl,hto,hbp⟩
  ·show ab (show aJ .isnot .non .non S3=gV (.bl false,S3)from rfl) ?_
   dsimp only[wB];exact ae (Q0:=Q2) (λz=>by cases z) (λ_ Q5 hn5 _=>aP (hn5 _ _ (hK _ _ (aP (hn _ _ #[u,_,_,_,rfl,∅,hu,hst,f3,(k1.trans k2).trans k3])))))
  ·show ab (show aJ .isnot (.tup (al to)) .non S3=gV (.bl true,S3)from rfl) ?_
   dsimp only[wB];show ae (Q0:=Q2) (λ_ Q5 hn5 _=>?_) (λz=>by cases z)
   show st ?_;dsimp only[wS,wE,wA,wV,wG,Hh,ak];show ab (aQ (cL (by rw[G3,G1]; show _+1<=_; omega))) (aP (hn5 _ _ (hK _ _ (aP (hn _ _ #[u++[(v,to)],gV (.int i),gV (.int v),gV (.tup (al to)),?_,?_,hu.snoc #[v0,v1] htl hto,hst.snoc hbp,f3,(k1.trans k2).trans k3])))))
   ·unfold ak;rw[Hy]; rfl
   ·rw[G3,HS]; omega
 ·rintro Z S1 ⟨u,a5,a6,a7,rfl,hul,hu,hst,f1,k1⟩;rw[Hr]at hul;show hK _ _ (st ?_);dsimp only[wS,wE,wV,wG];exact k u S1 hul hu hst f1 k1
def kz (hfu:20 < fuel)(P:Parts defs)(hp:Is defs ("part" : Hs) 3 3 gP)(hl:Is defs ("longer_orders" : Hs) 2 4 aX)(hbt:Is defs ("barred_threes" : Hs) 1 5 bq)(h3:Is defs ("three_at" : Hs) 4 6 aY)(hft:Is defs ("first_three" : Hs) 2 5 bR)(hg:Is defs ("first_barred" : Hs) 2 2 b7)
  {m0:W} {ns:G0 Hs} {bs:G0 Hg} {a:G9} {gs:G0 Wd} {u:Wd} (hb:GoodB bs) (hnl:ns.length=bs.length) (hgs:∀g∈gs,GoodW a bs.length g/\g.length=3) (h64:gs.length<=100) (hu:GoodW a bs.length u) (hul:u.length<=1000)
  (k:∀w S',Ans (λi j k=>decide (dB (b6 u i j k)∈(bJ bs gs).map dB)) u.length w->Ka S S'->Q (w,S')) :
  wO (aF (am defs fuel (d+5)) "first_barred" 2 [.tup [m0,.tup (He aD ns bs),.tup (gs.map ak)],ak u] S) Q:=by
 show aq hg rfl rfl λQ' hR=>?_
 change wZ _ _ b7 [gV (.tup [m0,.tup (He aD ns bs),.tup (gs.map ak)]),gV (ak u)] S Q';dsimp only[b7];show st ?_;left;show kq (d:=d) hfu P hp hl hbt hb hnl hgs h64 λq U S1 e1 h1 _ k1=>?_
 show kW (d:=d+2) h3 hft hu hul e1 λw hw=>hR _ _ (k w S1 ?_ k1)
 exact hw.congr λi j k _ _ _=>h1.get _
end
section
variable{M:Hs->FF}{Z:Fm}{S:aa}
def Cy {α:Type}{elt:E}{tg:Tg}{it:Ie}{cs:Es}{cap:G0 (G7 G9)}{mi:MI}{S1:aa}{Q:QW}(L:G0 α)(f:α->W)(p:α->HA)(g:α->W)(tv:Fm->Prop)(fr:α->Fm)(hJ:∀x Z S,tv Z->fF tg (f x) Z S=gV (fr x,S)/\tv (fr x))(oe:dD elt=true)(oc:kS cs=true)(hc:tv (eG cap Z))(hl:L.length<=1000000)(hi:ju M it Z S=gV (mi,S1))(k1:Ka S S1)(hat:∀i S',Ka S1 S'->mi.at S' i=gV (L.map f)[i]?)(hn:mi.len S1=gV (L.map f).length)
  (hstep:∀x∈L,∀S',Ka S S'->fA M elt cs (fr x) S' (λy _ S2=>p x=true/\y=g x/\Ka S' S2) (λ_ S2=>p x=false/\Ka S' S2))
  (k:∀S',Ka S S'->Q (.ref S'.length,S'++[.lst ((L.filter p).map g)])):Wp (aA M (.comp elt tg it cs cap) Z S) Q:=by
 rw[vG];show#[_,hi,_,hn,?_];show(dG (xs:=L.map f) (Q:=λq=>q.1.length<=sizeLine/\Q (.ref q.2.length,q.2++[.lst q.1])) (λi ys Z' S'=>tv Z'/\ys=((L.take i).filter p).map g/\Ka S1 S') (λi ys Z' S' h=>hat i S' h.2.2) (λi w ys Z' S' hw h=>?_) (λys Z' S' h=>?_) (L.map f).length 0 [] _ S1 ∅ #[hc,rfl,.refl]).mono λq hq=>by simpa using hq
 ·obtain⟨hj,rfl,k2⟩:=h;rw[Hc,G6]at hw;obtain⟨x,hx,rfl⟩:=hw;obtain⟨h1,h2⟩:=hJ x Z' S' hj;show#[_,h1,?_];show(Aw oc (hstep x (Hn hx) S' (k1.trans k2))).mono λc hc=>#[λz=>(aO elt oe (hc.1 z)).mono λy hy=>#[h2,?_,k2.trans hy.2.2],λz=>#[h2,?_,k2.trans (hc.2 z).2]]
  ·rw[Ig,hx,Kl,show(Pc (gV x)).filter p=[x]from List.filter_cons_of_pos hy.1,Hy,hy.2.1]; rfl
  ·rw[Ig,hx,Kl,show(Pc (gV x)).filter p=[]from List.filter_cons_of_neg (by rw[(hc.2 z).1]; exact Ht),IQ]
 ·obtain⟨_,rfl,k2⟩:=h;dsimp only;rw[show(L.map f).length=L.length from G1 ..,Il]
  show#[cL ?_,k S' (k1.trans k2)];rw[G1];exact HK (Jg _ _) hl
def pX {α:Type}{elt:E}{it:Ie}{cs:Es}{cap:G0 (G7 G9)}{mi:MI}{S1:aa}{Q:QW}(L:G0 α)(f:α->W)(p:α->HA)(g:α->W)(R:Fm)(oe:dD elt=true)(oc:kS cs=true)(hc:eG cap Z=td::td::R)(hl:L.length<=1000000)(hi:ju M it Z S=gV (mi,S1))(k1:Ka S S1)(hat:∀i S',Ka S1 S'->mi.at S' i=gV (L.map f)[i]?)(hn:mi.len S1=gV (L.map f).length)
  (hstep:∀x∈L,∀S',Ka S S'->fA M elt cs (td::gV (f x)::R) S' (λy _ S2=>p x=true/\y=g x/\Ka S' S2) (λ_ S2=>p x=false/\Ka S' S2))
  (k:∀S',Ka S S'->Q (.ref S'.length,S'++[.lst ((L.filter p).map g)])):Wp (aA M (.comp elt (.nm 1) it cs cap) Z S) Q:=
 Cy L f p g (λZ=>∃a,Z=td::a::R) (λx=>td::gV (f x)::R) (λ_ _ _ h=>let ⟨_,e⟩:=h; e ▸ #[rfl,_,rfl]) oe oc #[_,hc] hl hi k1 hat hn hstep k
def kA {α:Type}{elt e:E}{cs:Es}{cap:G0 (G7 G9)}{Q:QW}(L:G0 α)(f:α->W)(p:α->HA)(g:α->W)(R:Fm)(oi:dD e=true)(oe:dD elt=true)(oc:kS cs=true)(hc:eG cap Z=td::td::R)(hl:L.length<=1000000)
  (he:wE M e Z S λq=>∃t,q.1=.ref t/\q.2[t]?=gV (.lst (L.map f))/\Ka S q.2)
  (hstep:∀x∈L,∀S',Ka S S'->fA M elt cs (td::gV (f x)::R) S' (λy _ S2=>p x=true/\y=g x/\Ka S' S2) (λ_ S2=>p x=false/\Ka S' S2))
  (k:∀S',Ka S S'->Q (.ref S'.length,S'++[.lst ((L.filter p).map g)])):Wp (aA M (.comp elt (.nm 1) (.seq e) cs cap) Z S) Q:=by
 obtain⟨w,S1,e1,t,rfl,ht,k1⟩:=bZ oi he;exact pX (mi:=.live t) L f p g R oe oc hc hl (by simp only[ju,fu,e1,aG ht]) k1 (λi S' h=>by simp only[MI.at,aG (h.get _ _ ht)]) (by simp only[MI.len,aG ht,HR]) hstep k
def i4 {α:Type}{elt e:E}{cs:Es}{cap:G0 (G7 G9)}{Q:QW}(L:G0 α)(f:α->W)(p:α->HA)(g:α->W)(R:Fm)(oi:dD e=true)(oe:dD elt=true)(oc:kS cs=true)(hc:eG cap Z=td::td::R)(hl:L.length<=1000000)
  (he:wE M e Z S λq=>q.1=.tup (L.map f)/\Ka S q.2)
  (hstep:∀x∈L,∀S',Ka S S'->fA M elt cs (td::gV (f x)::R) S' (λy _ S2=>p x=true/\y=g x/\Ka S' S2) (λ_ S2=>p x=false/\Ka S' S2))
  (k:∀S',Ka S S'->Q (.ref S'.length,S'++[.lst ((L.filter p).map g)])):Wp (aA M (.comp elt (.nm 1) (.seq e) cs cap) Z S) Q:=by
 obtain⟨w,S1,e1,rfl,k1⟩:=bZ oi he;exact pX (mi:=.its (L.map f)) L f p g R oe oc hc hl (by simp only[ju,fu,e1]) k1 (λ_ _ _=>rfl) rfl hstep k
def oU (n:G9):da 0 n=(Ho n).map λi=>W.int (i:G9):=by
 unfold da;show IG λi _=>?_
 rw[Lu]
def m8 {elt e:E}{cs:Es}{cap:G0 (G7 G9)}{Q:QW}(n:G9)(p:G9->HA)(g:G9->W)(R:Fm)(oi:dD e=true)(oe:dD elt=true)(oc:kS cs=true)(hc:eG cap Z=td::td::R)(hl:n<=1000000)
  (he:wE M e Z S λq=>q.1=.int n/\Ka S q.2)
  (hstep:∀x < n,∀S',Ka S S'->fA M elt cs (td::gV (.int (x:G9))::R) S' (λy _ S2=>p x=true/\y=g x/\Ka S' S2) (λ_ S2=>p x=false/\Ka S' S2))
  (k:∀S',Ka S S'->Q (.ref S'.length,S'++[.lst (((Ho n).filter p).map g)])):Wp (aA M (.comp elt (.nm 1) (.rng #v[e]) cs cap) Z S) Q:=by
 obtain⟨w,S1,e1,rfl,k1⟩:=bZ oi he;show pX (mi:=.its (da 0 n)) (Ho n) (λi=>W.int (i:G9)) p g R oe oc hc (by rw[HG]; exact hl) ?_ k1 (λi S' _=>by rw[<- oU]; rfl) (by rw[<- oU]; rfl) (λx hx=>hstep x (Hu.mp hx)) k
 simp only[ju,cJ,dC,hG,pK,e1];rw[HE #[∅,∅]]; rfl
def bP {α:Type}(L:G0 α):L.filter (λ_=>true)=L:=List.filter_eq_self.mpr λ_ _=>rfl
end
abbrev bV (U:G0 (T×W))(u:Wd)(h:Pt)(p q:G9):HA:=(bW U (dB [((u.getD p (0,[])).1,[]),((u.getD q (0,[])).1,[(u.getD q (0,[])).2.getD p 0]),(h.1,[h.2.getD p 0,h.2.getD q 0])])).isSome
def kB {U:G0 (T×W)}{u:Wd}{h:Pt}{p q:G9}(h1:p < q)(h2:q < u.length):bz U (u++[h]) p q u.length=bV U u h p q:=by
 unfold bz bV b6;rw[aE (JL h1 h2),aE h2,bM]
def kC {u:Wd}{p s:G9}(h:p < s):(u.take s).getD p (0,[])=u.getD p (0,[]):=by
 rw[Hx,Hx,KJ h]
abbrev ir (U:G0 (T×W))(v:Wd):HA:=(Ho (v.length - 2)).all λp=>!bz U v p (v.length - 2) (v.length - 1)
def sW {U:G0 (T×W)}{u:Wd}{h:Pt}{s:G9}(hs:s < u.length):ir U (u.take (s+1)++[h])=(Ho s).all λp=>!bV U u h p s:=by
 have hl:(u.take (s+1)).length=s+1:=by rw[HD]; omega
 unfold ir;rw[G3,hl,HS,show s+1+1 - 2=s by omega,show s+1+1 - 1=s+1 by omega,JI,HC,HC]
 show Ni λp=>Ni λhp=>?_
 have hp:=Hu.mp hp;have e:=kB (U:=U) (u:=u.take (s+1)) (h:=h) (p:=p) (q:=s) hp ∅
 rw[hl]at e;rw[e];unfold bV;rw[kC ∅,kC ∅]
abbrev cX (n:G9)(hs:G0 Pt):G0 Pt:=hs.flatMap λh=>(Ho n).map λ(w:G9)=>(h.1,h.2++[(w:Hg)])
abbrev cH (U:G0 (T×W))(u:Wd)(n:G9)(m:Hg):G9->G0 Pt
 | 0=>[(m,[])]
 | s+1=>(cX n (cH U u n m s)).filter λh=>ir U (u.take (s+1)++[h])
abbrev kD (U:G0 (T×W))(u:Wd)(a n:G9):G0 Pt:=(Ho a).flatMap λ(m:G9)=>cH U u n (m:Hg) u.length
def aZ {ws:G0 Hg}{x:Hg}{p:G9}(hp:p < ws.length):(ws++[x]).getD p 0=ws.getD p 0:=by
 rw[Hx,Hx,HV hp]
def kE {U:G0 (T×W)}{u:Wd}{m x:Hg}{ws:G0 Hg}{p q:G9}(h1:p < q)(h2:q < ws.length):bV U u (m,ws++[x]) p q=bV U u (m,ws) p q:=by
 unfold bV;dsimp only;rw[aZ (JL h1 h2),aZ h2]
def dO {U:G0 (T×W)}{u:Wd}{n:G9}{m:Hg}:∀ {s:G9} {h:Pt},s<=u.length->(h∈cH U u n m s↔h.1=m/\h.2.length=s/\(∀w∈h.2,0<=w/\w < (n:Hg))/\∀p q,p < q->q < s->bV U u h p q=false)
 | 0,h,_=>by
  rw[cH,Hk];constructor
  ·rintro rfl;exact#[rfl,rfl,(λw hw=>nomatch hw),λp q _ h=>absurd h (Ow _)]
  ·rintro⟨h1,h2,_⟩;rw[<- h1,<- Ll h2]
 | s+1,h,hs=>by
  rw[cH,Ji,sW ∅,HC]
  unfold cX;rw[IM];constructor
  ·rintro⟨⟨h0,hm,hw⟩,hb⟩;obtain⟨w,hwr,rfl⟩:=Hz.mp hw;obtain⟨h1,h2,h3,h4⟩:=(dO ∅).mp hm
   have hwr:=Hu.mp hwr;show#[h1,by rw[G3,h2]; rfl,λx hx=>?_,λp q hpq hq=>?_]
   ·rcases HI.mp hx with z|z
    ·exact h3 x z
    ·rw[Hk.mp z]; omega
   ·by_cases e:q=s
    ·subst e;have:=hb p (Hu.mpr hpq)
     simpa using this
    ·rw[kE hpq ∅]; exact h4 p q hpq ∅
  ·rintro⟨h1,h2,h3,h4⟩;obtain⟨m',ws⟩:=h;dsimp only at h1 h2 h3 h4;have hne:ws≠[]:=λz=>by rw[z]at h2; cases h2
   have hd:=List.dropLast_concat_getLast hne;have hx:=h3 _ (List.getLast_mem hne);generalize ws.getLast hne=x at hd hx;have hdl:ws.dropLast.length=s:=by rw[Ja]; omega
   generalize ws.dropLast=vs at hd hdl;subst hd;show#[#[(m',vs),(dO ∅).mpr #[h1,hdl,λw hw=>h3 w (JA _ hw),λp q hpq hq=>?_],?_],λp hp=>?_]
   ·rw[<- kE (x:=x) hpq ∅]; exact h4 p q hpq ∅
   ·exact Hz.mpr #[x.toNat,Hu.mpr ∅,by dsimp only; rw[show((x.toNat:G9):Hg)=x by omega]]
   ·rw[h4 p s (Hu.mp hp) ∅]; rfl
def eO {U:G0 (T×W)}{u:Wd}{n:G9}{m:Hg}:∀s:G9,(cH U u n m s).length<=n ^ s
 | 0=>Hj _
 | s+1=>by
  rw[cH];show HK (Jg _ _) ?_;have:=eO (U:=U) (u:=u) (n:=n) (m:=m) s;have e:∀hs:G0 Pt,(cX n hs).length=hs.length*n:=λhs=>by
   unfold cX
   induction hs with
   | nil=>simp
   | cons h hs ih=>rw[J5,G3,ih,G1,HG,Ih,Ml]; omega
  rw[e,Nat.pow_succ];exact MT _ this
def lR {n:G9}(hs:G0 Pt):(cX n hs).length=hs.length*n:=by
 unfold cX
 induction hs with
 | nil=>simp
 | cons h hs ih=>rw[J5,G3,ih,G1,HG,Ih,Ml]; omega
def kF {U:G0 (T×W)}{u:Wd}{a n:G9}{h:Pt}:h∈kD U u a n↔(0<=h.1/\h.1 < a)/\h.2.length=u.length/\(∀w∈h.2,0<=w/\w < (n:Hg))/\∀p q,p < q->q < u.length->bV U u h p q=false:=by
 unfold kD;rw[IM];constructor
 ·rintro⟨m,hm,hh⟩;obtain⟨h1,h2⟩:=(dO (Hj _)).mp hh;have:=Hu.mp hm;exact#[∅,h2]
 ·rintro⟨h1,h2⟩;exact#[h.1.toNat,Hu.mpr ∅,(dO (Hj _)).mpr #[∅,h2]]
abbrev aU:Ss:=
 #v[.set 2 (.op .sub (.bi .len #v[.v 1]) (.c (.int 1))),.loop (.nm 3) (.rng #v[.op .sub (.v 2) (.c (.int 1))]) #v[.ite (.cmp .isin (.own "three_at" 4 #v[.v 1,.v 3,.op .sub (.v 2) (.c (.int 1)),.v 2]) (.v 0)) #v[.ret (.v 3)] .nil],.ret (.c .non)]
abbrev cu:Ss:=
 #v[.set 3 (.lst .nil),.loop (.nm 4) (.rng #v[.bi .len #v[.ix (.v 0) (.c (.int 0))]]) #v[.set 5 (.lst #v[.tup #v[.v 4,.tup .nil]]),.loop (.nm 6) (.rng2 #v[.c (.int 1),.op .add (.bi .len #v[.v 2]) (.c (.int 1))]) #v[.set 5 (.comp (.v 1) (.nm 1) (.seq (.own "longer_wishes" 2 #v[.v 0,.v 5])) #v[.cmp .is (.own "first_bar" 2 #v[.v 2,.op .add (.sl (.v 4) .no (.yes (.v 3))) (.tup #v[.v 1])]) (.c .non)] [td,td,gV 1,gV 6,gV 2])],.ex (.me .extend (.v 3) #v[.v 5])],.ret (.v 3)]
abbrev br:Ss:=
 #v[.set 2 (.lst .nil),.loop (.tp [3,4]) (.seq (.v 1)) #v[.ex (.me .extend (.v 2) #v[.comp (.tup #v[.v 2,.op .add (.v 3) (.tup #v[.v 1])]) (.nm 1) (.rng #v[.bi .len #v[.ix (.v 0) (.c (.int 1))]]) .nil [td,td,gV 3,gV 4]])],.ret (.v 2)]
def kG {U:G0 (T×W)}{v:Wd}{s:G9}(hs:v.length=s+2):ir U v=true↔∀i < s,bz U v i s (s+1)=false:=by
 unfold ir;rw[hs,show s+2 - 2=s from rfl,show s+2 - 1=s+1 from rfl,HC]
 show Ni λi=>?_
 rw[Hu,Js]
def sX {a n s:G9}{u:Wd}(hu:GoodW a n u):GoodW a n (u.take s):=by
 have key:∀(k:G9) (x:Pt),(u.take s)[k]?=gV x->u[k]?=gV x:=λk x e=>by
  rw[NA]at e;split at e
  ·exact e
  ·cases e
 exact#[λk x e=>hu.mark k x (key k x e),λk x e=>hu.len k x (key k x e),λk x e=>hu.way k x (key k x e)]
section
variable{defs:G0 (Hs×Df)}{fuel d:G9}{S:aa}{Q:QW}
def jm (h3:Is defs ("three_at" : Hs) 4 6 aY)(hg:Is defs ("first_bar" : Hs) 2 4 aU){a n q:G9}{v:Wd}{U:G0 (T×W)}(hv:GoodW a n v)(h2:2<=v.length)(hl:v.length<=1000)(e:S[q]?=gV (.dic U))(k:∀w,((w=.non/\ir U v=true)\/∃i:Hg,w=.int i/\ir U v=false)->Q (w,S)) :
  wO (aF (am defs fuel (d+2)) "first_bar" 2 [.ref q,ak v] S) Q:=by
 show aq hg rfl rfl λQ' hR=>?_
 replace k:∀w,((w=.non/\ir U v=true)\/∃i:Hg,w=.int i/\ir U v=false)->Q' (.rt w,S):=λw h=>hR _ _ (k w h)
 clear hR;change wZ _ _ aU [gV (.ref q),gV (ak v),td,td] S Q';have ul:(v.map ag).length=v.length:=G1 ..;obtain⟨s,hs⟩ : ∃s,v.length=s+2:=#[v.length - 2,∅]
 dsimp only[aU];show st ?_;left;show aC (ab jk ?_);rw[ul,show((v.length:G9):Hg) - 1=((s+1:G9):Hg) by omega]
 nofun
 show bD (s:Hg) (λi Z S'=>(∃a3,Z=[gV (.ref q),gV (ak v),gV (.int ((s+1:G9):Hg)),a3])/\S'=S/\∀i' < i,bz U v i' s (s+1)=false) rfl rfl ∅ ?_ ?_ ?_
 ·dsimp only[wE,wV,wG];show ab jk #[?_,#[_,rfl],rfl,λi' z=>∅]
  dsimp only;rw[show((s+1:G9):Hg) - 1=(s:Hg) by omega]
 ·rintro i Z S1 hi ⟨⟨a3,rfl⟩,rfl,no⟩ Q2 hn hr;clear hK;dsimp only[Hh];nofun
  dsimp only[wS,wT,wE,wA,wV,wG];show ab jk ?_;dsimp only;rw[show((s+1:G9):Hg) - 1=(s:Hg) by omega]
  show m7 (d:=d) h3 hv ∅ (Jq s) ∅ ?_
  show ab (show aJ .isin (ak (b6 v i s (s+1))) (.ref q) S1=gV (.bl (bz U v i s (s+1)),S1) by simp only[aJ,eU e,gO]; rfl) ?_
  dsimp only[wB];show ae (Q0:=Q2) (λh Q5 _ hr5=>?_) (λh Q5 hn5 _=>aP (hn5 _ _ (hK _ _ (aP (hn _ _ #[#[_,rfl],rfl,λi' z=>?_])))))
  ·show st ?_;dsimp only[wS,wE,wV,wG];show hr5 _ _ (hr _ _ (k _ (.inr #[i,rfl,?_])));rw[Jt];intro z;rw[(kG hs).mp z i ∅]at h
   cases h
  ·by_cases ei:i'=i
   ·rw[ei]; exact h
   ·exact no i' ∅
 ·rintro Z S1 ⟨⟨a3,rfl⟩,rfl,no⟩;show hK _ _ (st ?_);dsimp only[wS,wE];exact k _ (.inl #[rfl,(kG hs).mpr no])
def jw (hg:Is defs ("longer_wishes" : Hs) 2 5 br){m0 b0:W}{N:G0 W}{n l:G9}{hs:G0 Pt}(hN:N.length=n)(hn:n<=3)(e:S[l]?=gV (.lst (hs.map ag)))(hol:∀h∈hs,h.2.length<=100)(hos:hs.length<=10000)
  (k:∀(q:G9) (S':aa),S'[q]?=gV (.lst ((cX n hs).map ag))->S.length<=q->Ka S S'->Q (.ref q,S')) :
  wO (aF (am defs fuel (d+1)) "longer_wishes" 2 [.tup [m0,.tup N,b0],.ref l] S) Q:=by
 show aq hg rfl rfl λQ' hR=>?_
 replace k:∀(q:G9) (S':aa),S'[q]?=gV (.lst ((cX n hs).map ag))->S.length<=q->Ka S S'->Q' (.rt (.ref q),S'):=λa b c e f=>hR _ _ (k a b c e f)
 clear hR;change wZ _ _ br [gV (.tup [m0,.tup N,b0]),gV (.ref l),td,td,td] S Q';generalize hR0:W.tup [m0,.tup N,b0]=R;have hlS:=cp e;dsimp only[br];show st ?_;dsimp only[wS,wE,wA,Hh];nofun
 show jA l (hs.map ag) (λi Z S'=>(∃a3 a4,Z=[gV R,gV (.ref l),gV (.ref S.length),a3,a4])/\S'[l]?=gV (.lst (hs.map ag))/\S'[S.length]?=gV (.lst ((cX n (hs.take i)).map ag))/\Ka S S') rfl rfl #[rfl,#[td,td,rfl],ay e,aj,.push] (λi Z S' h=>h.2.1) ?_ ?_
 ·rintro i w Z S1 hw ⟨⟨a3,a4,rfl⟩,e0,e1,k1⟩;clear hK k;rw[Hc,G6]at hw;obtain⟨h,ho,rfl⟩:=hw;have hol:=hol h (Hn ho);show ab (show fF (.tp [3,4]) (ag h) [gV R,gV (.ref l),gV (.ref S.length),a3,a4] S1=gV ([gV R,gV (.ref l),gV (.ref S.length),gV (.int h.1),gV (.tup (al h.2))],S1)from rfl) ?_
  intro Q2 hn2 _;show st ?_;left;show#[dg e1,?_];show m8 n (λ_=>true) (λ(w:G9)=>ag (h.1,h.2++[(w:Hg)])) [gV (.int h.1),gV (.tup (al h.2))] rfl rfl rfl rfl ∅ ?_ (λx hx S2 k2=>?_) λS2 k2=>?_
  ·dsimp only[wE,wA,wV,wG];subst hR0;show ac #v[] rfl (aC ?_)
   rw[hN];exact#[rfl,.refl]
  ·dsimp only[fA,wC,wE,wA,wV,wG];show#[λ_=>ab (aQ (cL ?_)) #[rfl,?_,.refl],λz=>by cases z]
   ·rw[G3,show(al h.2).length=h.2.length from G1 ..]; show _+1<=_; omega
   ·simp[ag,al]
  ·rw[bP];have e1':=ay (u:=O.lst ((Ho n).map λ(w:G9)=>ag (h.1,h.2++[(w:Hg)]))) (k2.get _ _ e1)
   have hle:(cX n (hs.take i)).length<=30000:=by
    rw[lR,HD];exact HK (OV (show min i hs.length<=10000 by omega) hn) #v[]
   show pW e1' aj (by rw[G1,G1,HG]; omega) (aP (hn2 _ _ #[#[_,_,rfl],?_,?_,((k1.trans k2).trans .push).late (Hj _)]))
   ·rw[cg ∅]; exact ay (k2.get _ _ e0)
   ·rw[bY e1'];unfold cX;rw[Ig,ho];simp
 ·rintro Z S1 ⟨⟨a3,a4,rfl⟩,e0,e1,k1⟩;rw[G1,Il]at e1;exact hK _ _ (st (k _ _ e1 (Hj _) k1))
def m9 {n s:G9}(hn:n<=3)(hs:s<=5):n ^ s<=243:=HK (M9 hn s) (MV (n:=3) #v[] hs)
def pY {U:G0 (T×W)}{u:Wd}{n i:G9}(hn:n<=3)(hu:u.length<=5):((Ho i).flatMap λ(m:G9)=>cH U u n (m:Hg) u.length).length<=i*243:=by
 induction i with
 | zero=>simp
 | succ i ih=>
  rw[Jd,JJ,G3,J5,Oh,IQ];have:=HK (eO (U:=U) (u:=u) (n:=n) (m:=(i:G9)) u.length) (m9 hn hu);omega
def kX (h3:Is defs ("three_at" : Hs) 4 6 aY)(hfb:Is defs ("first_bar" : Hs) 2 4 aU)(hlw:Is defs ("longer_wishes" : Hs) 2 5 br)(hg:Is defs ("wishes_over" : Hs) 3 7 cu){Mqa N:G0 W}{b0:W}{a n q:G9}{u:Wd}{U:G0 (T×W)}(hM:Mqa.length=a)(hN:N.length=n)(ha3:a<=3)(hn3:n<=3)(hu:GoodW a n u)(hul:u.length<=5)(e:S[q]?=gV (.dic U))
  (k:∀(l:G9) (S':aa),S'[l]?=gV (.lst ((kD U u a n).map ag))->S.length<=l->Ka S S'->Q (.ref l,S')) :
  wO (aF (am defs fuel (d+3)) "wishes_over" 3 [.tup [.tup Mqa,.tup N,b0],.ref q,ak u] S) Q:=by
 show aq hg rfl rfl λQ' hR=>?_
 replace k:∀(l:G9) (S':aa),S'[l]?=gV (.lst ((kD U u a n).map ag))->S.length<=l->Ka S S'->Q' (.rt (.ref l),S'):=λa b c e f=>hR _ _ (k a b c e f)
 clear hR;change wZ _ _ cu [gV (.tup [.tup Mqa,.tup N,b0]),gV (.ref q),gV (ak u),td,td,td,td] S Q';generalize hR0:W.tup [.tup Mqa,.tup N,b0]=R;have hqS:=cp e;have ul:(u.map ag).length=u.length:=G1 ..;dsimp only[cu];show st ?_;dsimp only[wS,wE,wA,Hh];nofun
 show bD (a:Hg) (λi Z S'=>(∃a4 a5 a6,Z=[gV R,gV (.ref q),gV (ak u),gV (.ref S.length),a4,a5,a6])/\S'[S.length]?=gV (.lst (((Ho i).flatMap λ(m:G9)=>cH U u n (m:Hg) u.length).map ag))/\Ka S S') rfl rfl ∅ ?_ ?_ ?_
 ·dsimp only[wE,wA,wV,wG];subst hR0;show ac #v[] rfl (aC ?_)
  rw[hM];exact#[rfl,#[_,_,_,rfl],aj,.push]
 ·rintro i Z S1 hi ⟨⟨a4,a5,a6,rfl⟩,e1,k1⟩ Q2 hn2 _;clear hK k;have hl1:=cp e1;dsimp only[Hh];show st ?_;left;nofun
  show cr 1 ((u.length:Hg)+1) (λm Z S'=>∃(t:G9) (a6:G7 W),Z=[gV R,gV (.ref q),gV (ak u),gV (.ref S.length),gV (.int i),gV (.ref t),a6]/\S'[t]?=gV (.lst ((cH U u n i m).map ag))/\Ka S1 S') rfl rfl rfl ∅ ?_ ?_ ?_
  ·dsimp only[wE,wA,wV,wG];show#[rfl,aC (ab cQ ?_)];rw[ul];exact#[rfl,S1.length,a6,rfl,aj,.push]
  ·rintro m Z S2 hm ⟨t,a6,rfl,e2,k2⟩ Q3 hn3 _;clear hK hn2;have hmu:m < u.length:=∅
   rw[show(1:Hg)+m=((m+1:G9):Hg) by omega]
   have hhl:(cH U u n i m).length<=243:=HK (eO m) (m9 ‹n<=3› ∅)
   have hll:(cX n (cH U u n i m)).length<=729:=by rw[lR]; exact OV hhl ‹n<=3›
   dsimp only[Hh];show st ?_;dsimp only[wS,wE,Hh];show kA (cX n (cH U u n i m)) ag (λh=>ir U (u.take (m+1)++[h])) ag [gV (.ref q),gV (.int ((m+1:G9):Hg)),gV (ak u)] rfl rfl rfl rfl ∅ ?_ (λh hh S4 k4=>?_) λS4 k4=>?_
   ·dsimp only[wE,wA,wV,wG];subst hR0;exact jw (d:=d+1) hlw hN ‹n<=3› e2 (λh hh=>by have:=((dO ∅).mp hh).2.1; omega) ∅ λl S3 e3 _ k3=>#[l,rfl,e3,k3]
   ·have hgd:GoodW a n (u.take (m+1)++[h]):=by
     unfold cX at hh;obtain⟨h0,hm0,hw⟩:=IM.mp hh;obtain⟨w,hwr,rfl⟩:=Hz.mp hw;obtain⟨g1,g2,g3,_⟩:=(dO ∅).mp hm0
     have hwr:=Hu.mp hwr;show(sX hu).snoc (by rw[g1]; omega) (by rw[G3,g2,HD,HS]; omega) λx hx=>?_
     rcases HI.mp hx with z|z
     ·exact g3 x z
     ·rw[Hk.mp z]; omega
    have hvl:(u.take (m+1)++[h]).length=m+2:=by rw[G3,HD,HS]; omega
    dsimp only[fA,wC,wT,wE,wA,wP,wV,wG,wN];show ab (show fE (ak u) td (gV ((m+1:G9):Hg)) S4=gV (.tup ((u.map ag).take (m+1)),S4) by simp only[ak,fE,cU]) ?_
    dsimp only;have ev:(u.map ag).take (m+1)++[ag h]=(u.take (m+1)++[h]).map ag:=by rw[Hy,Ks]; rfl
    show ab (aQ (cL (by rw[ev,G1]; omega))) ?_
    dsimp only;rw[ev];show jm (d:=d) (v:=u.take (m+1)++[h]) h3 hfb hgd ∅ ∅ (k4.get _ _ (k2.get _ _ (k1.get _ _ e))) λw hw=>?_
    show ab (show aJ .is w .non S4=gV (.bl (ir U (u.take (m+1)++[h])),S4) by rcases hw with⟨rfl,hb⟩|⟨i,rfl,hb⟩ <;> rw[hb] <;> rfl) ?_
    dsimp only[wB];exact#[λz=>#[z,rfl,.refl],λz=>#[z,.refl]]
   ·exact aP (hn3 _ _ #[_,_,rfl,aj,(k2.trans k4).trans .push])
  ·rintro Z S2 ⟨t,a6,rfl,e2,k2⟩;rw[show((u.length:Hg)+1 - 1).toNat=u.length by omega]at e2
   show hK _ _ ?_;clear hK K;have e1':=k2.get _ _ e1;have hhl:(cH U u n i u.length).length<=243:=HK (eO _) (m9 hn3 hul);have hfl:=pY (U:=U) (i:=i) hn3 hul;show st ?_;left;show#[dg e1',pW e1' e2 (by rw[G1,G1]; omega) (aP (hn2 _ _ #[#[_,_,_,rfl],?_,(k1.trans k2).late (Hj _)]))]
   rw[bY e1',Jd,JJ,Hy];simp
 ·rintro Z S1 ⟨⟨a4,a5,a6,rfl⟩,e1,k1⟩;rw[Hr]at e1;exact hK _ _ (st (k _ _ e1 (Hj _) k1))
end
abbrev aH:Ss:=
 #v[.asg [4,5] (.ix (.v 2) (.v 3)),.loop (.nm 6) (.rng2 #v[.c (.int 1),.v 3]) #v[.loop (.nm 7) (.rng #v[.v 6]) #v[.ite (.cmp .isin (.tup #v[.tup #v[.ix (.ix (.v 2) (.v 7)) (.c (.int 0)),.tup .nil],.tup #v[.ix (.ix (.v 2) (.v 6)) (.c (.int 0)),.tup #v[.ix (.ix (.ix (.v 2) (.v 6)) (.c (.int 1))) (.v 7)]],.tup #v[.v 4,.tup #v[.ix (.v 5) (.v 7),.ix (.v 5) (.v 6)]]]) (.v 1)) #v[.ret (.c (.bl false))] .nil]],.ret (.c (.bl true))]
abbrev cb (U:G0 (T×W))(u:Wd)(s:G9)(h:Pt):HA:=(Ho s).all λq=>(Ho q).all λp=>!bV U u h p q
def bE {U:G0 (T×W)}{u:Wd}{s:G9}{h:Pt}:cb U u s h=true↔∀q < s,∀p < q,bV U u h p q=false:=by
 unfold cb;simp only[HC,Hu,Js]
section
variable{defs:G0 (Hs×Df)}{fuel d:G9}{S:aa}{Q:QW}
def kH (hg:Is defs ("_law_last_may" : Hs) 4 8 aH){R:W}{a n q:G9}{u:Wd}{h:Pt}{U:G0 (T×W)}(hu:GoodW a n u)(hh:h.2.length=u.length)(hl:u.length<=1000)(e:S[q]?=gV (.dic U))(k:Q (.bl (cb U u u.length h),S)) :
  wO (aF (am defs fuel (d+1)) "_law_last_may" 4 [R,.ref q,ak (u++[h]),.int (u.length:Hg)] S) Q:=by
 show aq hg rfl rfl λQ' hR=>?_
 replace k:=hR _ _ k;clear hR;change wZ _ _ aH [gV R,gV (.ref q),gV (ak (u++[h])),gV (.int (u.length:Hg)),td,td,td,td] S Q';have hvl:u.length < (u++[h]).length:=by rw[G3,HS]; omega
 have at':∀p < u.length,(((u++[h]).map ag)[((p:G9):Hg).toNat]?=gV (ag (u.getD p (0,[])))):=λp hp=>by
  rw[cq ∅,aE hp]
 have hw:∀p < u.length,(al h.2)[((p:G9):Hg).toNat]?=gV (.int (h.2.getD p 0)):=λp hp=>by
  rw[Hr]; unfold al; rw[Hc,ar (d:=0) ∅]; rfl
 dsimp only[aH];show st ?_;dsimp only[wS,wE,wV,wG];show ac (Hf _) (cq hvl) ?_;rw[bM];dsimp only[wU,ag];show ab (show cF [4,5] [.int h.1,.tup (h.2.map W.int)] [gV R,gV (.ref q),gV (ak (u++[h])),gV (.int (u.length:Hg)),td,td,td,td]=gV [gV R,gV (.ref q),gV (ak (u++[h])),gV (.int (u.length:Hg)),gV (.int h.1),gV (.tup (al h.2)),td,td]from rfl) ?_
 nofun
 show cr 1 (u.length:Hg) (λm Z S'=>(∃a6 a7,Z=[gV R,gV (.ref q),gV (ak (u++[h])),gV (.int (u.length:Hg)),gV (.int h.1),gV (.tup (al h.2)),a6,a7])/\S'=S/\∀j < m+1,∀p < j,bV U u h p j=false) rfl rfl rfl ∅ #[rfl,rfl,#[_,_,rfl],rfl,λj hj p hp=>∅] ?_ ?_
 ·rintro m Z S1 hm ⟨⟨a6,a7,rfl⟩,rfl,no⟩ Q2 hn2 hr2;clear hK;rw[show(1:Hg)+m=((m+1:G9):Hg) by omega]
  have hmu:m+1 < u.length:=∅
  generalize hj:m+1=j at hmu hn2 no;dsimp only[Hh];nofun
  show bD (j:Hg) (λi Z S'=>(∃a7,Z=[gV R,gV (.ref q),gV (ak (u++[h])),gV (.int (u.length:Hg)),gV (.int h.1),gV (.tup (al h.2)),gV (.int (j:Hg)),a7])/\S'=S1/\∀p < i,bV U u h p j=false) rfl rfl ∅ #[rfl,#[_,rfl],rfl,λp hp=>∅] ?_ ?_
  ·rintro i Z S2 hi ⟨⟨a7,rfl⟩,rfl,no2⟩ Q3 hn3 hr3;clear hK;have hij:i < j:=∅
   have hiu:i < u.length:=∅
   have lj:i < (u.getD j (0,[])).2.length:=by rw[hu.len j _ (ar (d:=(0,[])) hmu)]; exact hij
   dsimp only[Hh];nofun
   dsimp only[wS,wT,wE,wA,wV,wG];show ac (Hf i) (at' i hiu) (ac #v[] rfl (ac (Hf j) (at' j hmu) (ac #v[] rfl (ac (Hf j) (at' j hmu) (ac #v[] rfl (ac (w:=.int ((u.getD j (0,[])).2.getD i 0)) (Hf i) (by rw[Hr,Hc,ar (d:=0) lj]; rfl) (ac (Hf i) (hw i hiu) (ac (Hf j) (hw j hmu) ?_))))))))
   show ab (show aJ .isin (ak [((u.getD i (0,[])).1,[]),((u.getD j (0,[])).1,[(u.getD j (0,[])).2.getD i 0]),(h.1,[h.2.getD i 0,h.2.getD j 0])]) (.ref q) S2=gV (.bl (bV U u h i j),S2) by simp only[aJ,eU e,gO]; rfl) ?_
   dsimp only[wB];show ae (Q0:=Q3) (λhb Q5 _ hr5=>?_) (λhb Q5 hn5 _=>aP (hn5 _ _ (hK _ _ (aP (hn3 _ _ #[#[_,rfl],rfl,λp hp=>?_])))))
   ·show st ?_;dsimp only[wS,wE];have:cb U u u.length h=false:=by
     rw[Jt];intro z;rw[bE.mp z j hmu i hij]at hb;cases hb
    rw[this]at k;exact hr5 _ _ (hr3 _ _ (hr2 _ _ k))
   ·by_cases ep:p=i
    ·rw[ep]; exact hb
    ·exact no2 p ∅
  ·rintro Z S2 ⟨⟨a7,rfl⟩,rfl,no2⟩;rw[Hr]at no2;show hK _ _ (aP (hn2 _ _ #[#[_,_,rfl],rfl,λj' hj' p hp=>?_]))
   by_cases ej:j'=j
   ·subst ej; exact no2 p hp
   ·exact no j' ∅ p hp
 ·rintro Z S1 ⟨⟨a6,a7,rfl⟩,rfl,no⟩;show hK _ _ (st ?_);dsimp only[wS,wE];rw[bE.mpr λq hq p hp=>no q ∅ p hp]at k
  exact k
end
def Cz {bs:G0 Hg}{a:G9}{v:Wd}{i j:G9}(hb:GoodB bs)(hv:GoodW a bs.length v)(hi:i < v.length)(hj:j < v.length)(hij:i≠j):0<=bx bs v i j/\bx bs v i j < (bs.length:Hg):=by
 unfold bx
 by_cases h:j < i
 ·rw[HE h];have hp:=ar (d:=(0,[])) hi;have hw:j < (v.getD i (0,[])).2.length:=by rw[hv.len i _ hp]; exact h
  exact hv.way i _ hp _ (Hn (ar (d:=0) hw))
 ·rw[HX h];have hp:=ar (d:=(0,[])) hj;have hw:i < (v.getD j (0,[])).2.length:=by rw[hv.len j _ hp]; omega
  obtain⟨g1,g2⟩:=hv.way j _ hp _ (Hn (ar (d:=0) hw));exact(hb.at g1 g2).2
def i5 {bs:G0 Hg}{a:G9}{v:Wd}{ps:G0 G9}(hb:GoodB bs)(hv:GoodW a bs.length v)(hps:∀p∈ps,p < v.length)(hnd:ps.Nodup):GoodW a bs.length (au bs v ps):=by
 have at':∀(k:G9) (q:Pt),(au bs v ps)[k]?=gV q->∃hk:k < ps.length,q=((v.getD ps[k] (0,[])).1,(ps.take k).map λj=>bx bs v ps[k] j):=λk q e=>by
  have hk:k < ps.length:=by
   have:=(Hm.mp e).1;rw[aV]at this; exact this
  show#[hk,?_];unfold au at e;rw[Hc,Jv hk,HR,show ps.getD k 0=ps[k] by simp[hk]]at e
  exact(IH e).symm
 show#[λk q e=>?_,λk q e=>?_,λk q e=>?_]
 ·obtain⟨hk,rfl⟩:=at' k q e;have:=hv.mark _ _ (ar (d:=(0,[])) (hps _ (Iu hk)));exact this
 ·obtain⟨hk,rfl⟩:=at' k q e;dsimp only;rw[G1,HD]; omega
 ·obtain⟨hk,rfl⟩:=at' k q e;intro w hw;obtain⟨j,hj,rfl⟩:=Hz.mp hw;have hjm:=J4 hj;show Cz hb hv (hps _ (Iu hk)) (hps _ hjm) λe=>?_
  obtain⟨m,hm,e2⟩:=KA.mp hj;rw[HD]at hm;rw[Kv]at e2;have:=(Jy hnd).mp (e.trans e2.symm);omega
section
variable{defs:G0 (Hs×Df)}{fuel d:G9}{S:aa}{Q:QW}
def CA (hd:Is defs ("_law_flow" : Hs) 1 1 d0){ns:G0 Hg}{u:G9}(hu:S[u]?=gV (.fro (ns.map W.int)))(k:∀r S',Ka S S'->Fl S' r->Q (.ref r,S')) :
  wO (aF (am defs fuel (d+1)) "_law_flow" 1 [.ref u] S) Q:=by
 show aq hd rfl rfl λQ' hR=>?_
 change wZ _ _ d0 [gV (.ref u)] S Q';dsimp only[d0];show st ?_;left;have e:Bi.list.fn [.ref u] S=gV (.ref S.length,S++[.lst (ns.map W.int)]):=by
  have h1:uC S u=td:=by simp[uC,hu]
  simp only[Bi.fn,B3,jf,h1,gD,fH,zr hu]
 show ab e (hR _ _ (k _ _ (Ka.push.trans .push) #[S.length,ns,0,0,1,0,?_,?_,?_,#v[],#v[],#v[],#v[]]))
 ·exact aj
 ·exact ay aj
 ·simp
end
structure Ord (n:G9)(o:G0 G9):Prop where
 nd:o.Nodup
 lt:∀p∈o,p < n
abbrev wx:G9->G0 (G0 G9)
 | 0=>[[]]
 | k+1=>(wx k).flatMap λo=>(Ho (k+1)).map λi=>o.take i++[k]++o.drop i
def nb:∀ {n:G9} {o:G0 G9},o∈wx n↔Ord n o/\o.length=n
 | 0,o=>by
  rw[wx,Hk];exact#[λh=>by subst h; exact#[#[.nil,λp hp=>nomatch hp],rfl],λh=>Ll h.2]
 | n+1,o=>by
  rw[wx,IM];constructor
  ·rintro⟨o',h1,h2⟩;obtain⟨i,hi,rfl⟩:=Hz.mp h2;obtain⟨⟨nd,lt⟩,hl⟩:=nb.mp h1;have hi:=Hu.mp hi;have hp:(o'.take i++[n]++o'.drop i).Perm (n::o'):=by
    have e:o'.take i++[n]++o'.drop i=o'.take i++n::o'.drop i:=by simp
    rw[e];show Mc.trans ?_;rw[Ku]
   show#[#[hp.nodup_iff.mpr (Jj.mpr #[λz=>absurd (lt _ z) (Iw _),nd]),λp hpm=>?_],by rw[hp.length_eq,Ih,hl]]
   rcases HF.mp (hp.mem_iff.mp hpm)with z|z
   ·omega
   ·have:=lt p z; omega
  ·rintro⟨⟨nd,lt⟩,hl⟩;have hm:n∈o:=by
    by_cases z:n∈o
    ·exact z
    ·have h1:=m3 o (Ho n) nd λp hp=>Hu.mpr (by
      have:=lt p hp;have:p≠n:=λe=>z (e ▸ hp)
      omega)
     rw[HG]at h1;omega
   obtain⟨a,b,rfl⟩:=List.append_of_mem hm;have hp:(a++n::b).Perm (n::(a++b)):=Mc;have nd2:=hp.nodup_iff.mp nd;obtain⟨nn,nd3⟩:=Jj.mp nd2;show#[a++b,nb.mpr #[#[nd3,λp hpm=>?_],?_],Hz.mpr #[a.length,Hu.mpr ?_,?_]]
   ·have h1:=lt p (hp.mem_iff.mpr (HN _ hpm));have:p≠n:=λe=>nn (e ▸ hpm)
    omega
   ·have:=hp.length_eq;rw[hl,Ih]at this;omega
   ·rw[G3,Ih]at hl;omega
   ·rw[List.take_left',List.drop_left'] <;> simp
def eP {bs:G0 Hg}{u:Wd}{o:G0 G9}{i:G9}(hi:i < o.length):(au bs u o).getD i (0,[])=((u.getD (o.getD i 0) (0,[])).1,(o.take i).map λj=>bx bs u (o.getD i 0) j):=by
 unfold au;rw[Hx,Hc,Jv hi]; rfl
def oV {bs:G0 Hg}{u:Wd}{o:G0 G9}{i j:G9}(hi:i < o.length)(hj:j < i):((au bs u o).getD i (0,[])).2.getD j 0=bx bs u (o.getD i 0) (o.getD j 0):=by
 rw[eP hi];dsimp only;rw[Hx,Hc,KJ hj,ar (d:=0) (show j < o.length by omega)]; rfl
def wy {bs:G0 Hg}{a:G9}{u:Wd}{o:G0 G9}{i j:G9}(hb:GoodB bs)(hu:GoodW a bs.length u)(hO:Ord u.length o)(hi:i < o.length)(hj:j < o.length)(hij:i≠j):bx bs (au bs u o) i j=bx bs u (o.getD i 0) (o.getD j 0):=by
 have gi:=ar (d:=0) hi;have gj:=ar (d:=0) hj;have li:=hO.lt _ (Hn gi);have lj:=hO.lt _ (Hn gj);have ne:o.getD i 0≠o.getD j 0:=λe=>by
  have h1:o[i]=o.getD i 0:=by simp[hi]
  have h2:o[j]=o.getD j 0:=by simp[hj]
  exact hij ((Jy hO.nd).mp (by rw[h1,h2,e]))
 by_cases h:j < i
 ·have:bx bs (au bs u o) i j=((au bs u o).getD i (0,[])).2.getD j 0:=by unfold bx; rw[HE h]
  rw[this,oV hi h]
 ·have:bx bs (au bs u o) i j=bs.getD (((au bs u o).getD j (0,[])).2.getD i 0).toNat 0:=by unfold bx; rw[HX h]
  rw[this,oV hj ∅]
  generalize o.getD i 0=x at *
  generalize o.getD j 0=y at *
  unfold bx
  by_cases h2:x < y
  ·rw[HE h2,HX ∅]
  ·rw[HX h2,HE ∅]
   have hp:=ar (d:=(0,[])) li;have hw:y < (u.getD x (0,[])).2.length:=by rw[hu.len x _ hp]; omega
   obtain⟨w0,w1⟩:=hu.way x _ hp _ (Hn (ar (d:=0) hw));have:=hb.inv ((u.getD x (0,[])).2.getD y 0).toNat ∅
   rw[this]; omega
def i6 {bs:G0 Hg}{a:G9}{u:Wd}{o p:G0 G9}(hb:GoodB bs)(hu:GoodW a bs.length u)(hO:Ord u.length o)(hP:Ord o.length p):au bs (au bs u o) p=au bs u (p.map λi=>o.getD i 0):=by
 show Lh (by rw[aV,aV,G1]) λk h1 h2=>?_
 rw[aV]at h1;have e1:=eP (bs:=bs) (u:=au bs u o) (o:=p) h1;have e2:=eP (bs:=bs) (u:=u) (o:=p.map λi=>o.getD i 0) (i:=k) (by rw[G1]; exact h1)
 have hk:p.getD k 0 < o.length:=hP.lt _ (Hn (ar (d:=0) h1));have ek:(p.map λi=>o.getD i 0).getD k 0=o.getD (p.getD k 0) 0:=by
  rw[Hx,Hc,ar (d:=0) h1]; rfl
 rw[ek]at e2;rw[eP hk]at e1;have f:∀(v:Wd) (hv:k < v.length),v[k]=v.getD k (0,[]):=λv hv=>by simp[hv]
 rw[f _ (by rw[aV]; exact h1),f _ h2,e1,e2]
 congr 1;rw[<- Ks,IX];show IG λj hj=>?_
 obtain⟨m,hm,rfl⟩:=KA.mp hj;rw[HD]at hm;rw[Kv];have hpm:p[m]=p.getD m 0:=by simp[show m < p.length by omega]
 rw[hpm];show wy hb hu hO hk (hP.lt _ (Hn (ar (d:=0) (show m < p.length by omega)))) λe=>?_
 have h3:p[k]=p.getD k 0:=by simp[h1]
 have:=(Jy hP.nd).mp (h3.trans (e.trans hpm.symm));omega
def eQ {n:G9}{x:Hg}(h:x∈d6 n):0<=x/\x < n:=by
 obtain⟨k,hk,rfl⟩:=Hz.mp h;have:=Hu.mp hk;omega
def pZ {a n:G9}{u:Wd}(h:u∈oM a n):GoodW a n u/\u.length=3:=by
 unfold oM at h;simp only[IM,Hz]at h;obtain⟨m0,h0,m1,h1,m2,h2,w1,g1,w2,g2,w3,g3,rfl⟩:=h;show#[?_,rfl];have s1:GoodW a n ([]++[(m0,[])]):=GoodW.nil.snoc (eQ h0) rfl (λw hw=>nomatch hw)
 have s2:GoodW a n ([(m0,[])]++[(m1,[w1])]):=s1.snoc (eQ h1) rfl (λw hw=>by rw[Hk.mp hw]; exact eQ g1)
 exact s2.snoc (eQ h2) rfl (λw hw=>by
  simp only[HF,IB,Kf]at hw;rcases hw with rfl|rfl
  ·exact eQ g2
  ·exact eQ g3)
def sY {a:G9}{bs:G0 Hg}{g:Wd}(hb:GoodB bs)(h:g∈aR a bs):GoodW a bs.length g/\g.length=3:=by
 unfold aR at h;rw[LD]at h;obtain⟨u,hu,rfl⟩:=Hz.mp h;obtain⟨gu,u3⟩:=pZ hu;unfold ki;have hm:mK ((az.map (au bs u)).map dB) < (az.map (au bs u)).length:=by
  unfold mK;show LC (eX _ _) ?_;rw[G1,G1]; decide
 have:=Hn (ar (d:=[]) hm);obtain⟨t,ht,e⟩:=Hz.mp this;rw[<- e];have tk:∀t∈az,t.length=3/\t.Nodup/\∀p∈t,p < 3:=by decide
 obtain⟨t1,t2,t3⟩:=tk t ht;exact#[i5 hb gu (λp hp=>by have:=t3 p hp; omega) t2,by rw[aV]; exact t1]
def sZ {a n:G9}{u:Wd}(hu:GoodW a n u):GoodW a n u.dropLast:=by
 have key:∀(k:G9) (x:Pt),(u.dropLast)[k]?=gV x->u[k]?=gV x:=λk x e=>by
  rw[Le]at e;split at e
  ·exact e
  ·cases e
 exact#[λk x e=>hu.mark k x (key k x e),λk x e=>hu.len k x (key k x e),λk x e=>hu.way k x (key k x e)]
def i7 {t:G0 G9}:t∈az↔Ord 3 t/\t.length=3:=by
 constructor
 ·intro h;have:∀t∈az,t.Nodup/\(∀p∈t,p < 3)/\t.length=3:=by decide
  obtain⟨h1,h2,h3⟩:=this t h;exact#[#[h1,h2],h3]
 ·intro h;have h1:=nb.mpr h;have:∀t∈wx 3,t∈az:=by decide
  exact this t h1
abbrev i8:Ss:=
 #v[.ret (.ix (.ix (.ix (.v 0) (.c (.int 1))) (.v 1)) (.c (.int 1)))]
abbrev dv:Ss:=
 #v[.ret (.own "all_bars" 5 #v[.v 0,.own "barred_threes" 1 #v[.v 0],.v 1,.v 2,.v 3])]
abbrev eZ:Ss:=
 #v[.set 5 (.comp (.own "first_bar" 2 #v[.v 2,.own "with_both" 5 #v[.v 6,.v 3,.v 4,.v 5,.v 1]]) (.nm 1) (.rng #v[.bi .len #v[.ix (.v 0) (.c (.int 1))]]) .nil [td,td,gV 1,gV 2,gV 3,gV 4,gV 0]),.ret (.bi .tuple #v[.op .add (.v 5) (.lst #v[.own "same_bar" 2 #v[.v 3,.v 4]])])]
abbrev dw:Ss:=
 #v[.ret (.op .add (.v 1) (.tup #v[.v 2,.tup #v[.ix (.v 3) (.c (.int 0)),.op .add (.ix (.v 3) (.c (.int 1))) (.tup #v[.own "back" 2 #v[.v 0,.v 4]])]]))]
abbrev d4:Ss:=
 #v[.ite (.cmp .ne (.ix (.v 0) (.c (.int 0))) (.ix (.v 1) (.c (.int 0)))) #v[.ret (.neg (.c (.int 1)))] .nil,.set 2 (.comp (.v 1) (.nm 1) (.rng #v[.bi .len #v[.ix (.v 0) (.c (.int 1))]]) #v[.cmp .ne (.ix (.ix (.v 2) (.c (.int 1))) (.v 1)) (.ix (.ix (.v 3) (.c (.int 1))) (.v 1))] [td,td,gV 0,gV 1]),.ret (.ite (.v 2) (.ix (.v 2) (.c (.int 0))) (.c .non))]
abbrev bT (P:G9->HA)(s:G9):W:=match (Ho s).find? P with
 | some i=>.int (i:Hg)
 | none=>.non
def p5 {P:G9->HA}{s:G9}(h:∀i < s,P i=false):bT P s=.non:=by
 unfold bT;have:(Ho s).find? P=td:=JS.mpr λi hi=>by rw[h i (Hu.mp hi)]; exact Ht
 rw[this]
def gQ {P:G9->HA}:∀ {s i:G9},i < s->P i=true->(∀j < i,P j=false)->(Ho s).find? P=gV i
 | s+1,i,hi,hp,hn=>by
  rw[Jd,List.find?_append]
  by_cases e:i=s
  ·subst e;have:(Ho i).find? P=td:=JS.mpr λj hj=>by rw[hn j (Hu.mp hj)]; exact Ht
   rw[this];simp[hp]
  ·rw[gQ ∅ hp hn]; rfl
def p7 {P:G9->HA}{s i:G9}(hi:i < s)(hp:P i=true)(hn:∀j < i,P j=false):bT P s=.int (i:Hg):=by
 unfold bT;rw[gQ hi hp hn]
def p8 {P:G9->HA}{s:G9}:(((Ho s).filter P).map (λ(i:G9)=>W.int (i:Hg))++[.non])[0]?=gV (bT P s):=by
 unfold bT;rw[<- List.head?_filter];cases(Ho s).filter P <;> rfl
def jn (P:G9->HA)(s:G9):bT P s=.non\/∃i:Hg,bT P s=.int i:=by
 unfold bT;cases(Ho s).find? P with
 | none=>exact .inl rfl
 | some i=>exact .inr #[_,rfl]
abbrev cK (bs:G0 Hg)(u:Wd)(one other:Pt)(n:G9):Wd:=u++[one]++[(other.1,other.2++[bs.getD n 0])]
abbrev iy (one other:Pt):W:=if one.1=other.1 then bT (λp=>!(one.2.getD p 0==other.2.getD p 0)) one.2.length else .int (-1)
abbrev db (P:Wd->G9->HA)(bs:G0 Hg)(u:Wd)(one other:Pt):G0 W:=(Ho bs.length).map (λn=>bT (P (cK bs u one other n)) u.length)++[iy one other]
def p9 (one other:Pt):iy one other=.non\/∃i:Hg,iy one other=.int i:=by
 unfold iy;split
 ·exact jn _ _
 ·exact .inr #[_,rfl]
structure GoodP (a n k:G9)(p:Pt):Prop where
 mark:0<=p.1/\p.1 < a
 len:p.2.length=k
 way:∀w∈p.2,0<=w/\w < (n:Hg)
def tf {bs:G0 Hg}{a:G9}{u:Wd}{one other:Pt}{n:G9}(hb:GoodB bs)(hu:GoodW a bs.length u)(h1:GoodP a bs.length u.length one)(h2:GoodP a bs.length u.length other)(hn:n < bs.length):GoodW a bs.length (cK bs u one other n)/\(cK bs u one other n).length=u.length+2:=by
 show#[(hu.snoc (m:=one.1) (ws:=one.2) h1.mark h1.len h1.way).snoc h2.mark ?_ λw hw=>?_,?_]
 ·rw[G3,G3,h2.len]; rfl
 ·rcases HI.mp hw with z|z
  ·exact h2.way w z
  ·rw[Hk.mp z];obtain⟨b,hb1,hb2,hb3⟩:=hb.rng n hn;rw[getD_some hb1]; exact#[hb2,hb3]
 ·unfold cK;rw[G3,G3]; rfl
section
variable{defs:G0 (Hs×Df)}{fuel d:G9}{S:aa}{Q:QW}
def oW (h3:Is defs ("three_at" : Hs) 4 6 aY)(hg:Is defs ("first_bar" : Hs) 2 4 aU){a n q s:G9}{v:Wd}{U:G0 (T×W)}(hv:GoodW a n v)(hs:v.length=s+2)(hl:v.length<=1000)(e:S[q]?=gV (.dic U))(k:Q (bT (λp=>bz U v p s (s+1)) s,S)) :
  wO (aF (am defs fuel (d+2)) "first_bar" 2 [.ref q,ak v] S) Q:=by
 show aq hg rfl rfl λQ' hR=>?_
 replace k:=hR _ _ k;clear hR;change wZ _ _ aU [gV (.ref q),gV (ak v),td,td] S Q';have ul:(v.map ag).length=v.length:=G1 ..;dsimp only[aU];show st ?_;left;show aC (ab jk ?_);rw[ul,show((v.length:G9):Hg) - 1=((s+1:G9):Hg) by omega]
 nofun
 show bD (s:Hg) (λi Z S'=>(∃a3,Z=[gV (.ref q),gV (ak v),gV (.int ((s+1:G9):Hg)),a3])/\S'=S/\∀i' < i,bz U v i' s (s+1)=false) rfl rfl ∅ ?_ ?_ ?_
 ·dsimp only[wE,wV,wG];show ab jk #[?_,#[_,rfl],rfl,λi' z=>∅]
  dsimp only;rw[show((s+1:G9):Hg) - 1=(s:Hg) by omega]
 ·rintro i Z S1 hi ⟨⟨a3,rfl⟩,rfl,no⟩ Q2 hn hr;clear hK;dsimp only[Hh];nofun
  dsimp only[wS,wT,wE,wA,wV,wG];show ab jk ?_;dsimp only;rw[show((s+1:G9):Hg) - 1=(s:Hg) by omega]
  show m7 (d:=d) h3 hv ∅ (Jq s) ∅ ?_
  show ab (show aJ .isin (ak (b6 v i s (s+1))) (.ref q) S1=gV (.bl (bz U v i s (s+1)),S1) by simp only[aJ,eU e,gO]; rfl) ?_
  dsimp only[wB];show ae (Q0:=Q2) (λh Q5 _ hr5=>?_) (λh Q5 hn5 _=>aP (hn5 _ _ (hK _ _ (aP (hn _ _ #[#[_,rfl],rfl,λi' z=>?_])))))
  ·show st ?_;dsimp only[wS,wE,wV,wG];rw[p7 (P:=λp=>bz U v p s (s+1)) ∅ h no]at k
   exact hr5 _ _ (hr _ _ k)
  ·by_cases ei:i'=i
   ·rw[ei]; exact h
   ·exact no i' ∅
 ·rintro Z S1 ⟨⟨a3,rfl⟩,rfl,no⟩;show hK _ _ (st ?_);dsimp only[wS,wE];rw[p5 (P:=λp=>bz U v p s (s+1)) λi hi=>no i ∅]at k
  exact k
def CB (hg:Is defs ("back" : Hs) 2 2 i8){m0 b0:W}{ns:G0 Hs}{bs:G0 Hg}{n:G9}(hnl:ns.length=bs.length)(hn:n < bs.length)(k:Q (.int (bs.getD n 0),S)) :
  wO (aF (am defs fuel (d+1)) "back" 2 [.tup [m0,.tup (He aD ns bs),b0],.int n] S) Q:=by
 show aq hg rfl rfl λQ' hR=>?_
 replace k:=hR _ _ k;change wZ _ _ i8 [gV (.tup [m0,.tup (He aD ns bs),b0]),gV (.int n)] S Q';have hb:=ar (d:=0) hn;dsimp only[i8];show st ?_;dsimp only[wS,wE,wV,wG];exact ac #v[] rfl (ac (Hf n) (by rw[Hr]; exact kj (Hi ∅) hb) (ac #v[] rfl k))
def oX (hbk:Is defs ("back" : Hs) 2 2 i8)(hg:Is defs ("with_both" : Hs) 5 5 dw){m0 b0:W}{ns:G0 Hs}{bs:G0 Hg}{u:Wd}{one other:Pt}{n:G9}(hnl:ns.length=bs.length)(hn:n < bs.length)(hu:u.length<=900)(ho:other.2.length<=900)(k:Q (ak (cK bs u one other n),S)) :
  wO (aF (am defs fuel (d+2)) "with_both" 5 [.tup [m0,.tup (He aD ns bs),b0],ak u,ag one,ag other,.int n] S) Q:=by
 show aq hg rfl rfl λQ' hR=>?_
 replace k:=hR _ _ k;change wZ _ _ dw [gV (.tup [m0,.tup (He aD ns bs),b0]),gV (ak u),gV (ag one),gV (ag other),gV (.int n)] S Q';dsimp only[dw];show st ?_;left;show ac #v[] rfl (ac #v[] rfl ?_)
 show CB (d:=d) hbk hnl hn ?_;show ab (aQ (cL ?_)) ?_
 ·rw[G3,G1]; show _+1<=_; omega
 dsimp only;have ev:u.map ag++[ag one,.tup [.int other.1,.tup (other.2.map W.int++[.int (bs.getD n 0)])]]=(cK bs u one other n).map ag:=by
  unfold cK;simp[ag]
 unfold ak at k ⊢;show ab (aQ (cL ?_)) ?_
 ·rw[G3,G1]; show _+2<=_; omega
 dsimp only;rw[ev];exact k
def qa (hg:Is defs ("same_bar" : Hs) 2 3 d4){one other:Pt}(h:other.2.length=one.2.length)(hl:one.2.length<=900)(k:∀S',Ka S S'->Q (iy one other,S')) :
  wO (aF (am defs fuel (d+1)) "same_bar" 2 [ag one,ag other] S) Q:=by
 show aq hg rfl rfl λQ' hR=>?_
 replace k:∀S',Ka S S'->Q' (.rt (iy one other),S'):=λS' a=>hR _ _ (k S' a)
 clear hR;change wZ _ _ d4 [gV (ag one),gV (ag other),td] S Q';have wl:∀(p:Pt) (i:G9),i < p.2.length->(p.2.map W.int)[((i:G9):Hg).toNat]?=gV (.int (p.2.getD i 0)):=λp i hi=>by
  rw[Hr,Hc,ar (d:=0) hi]; rfl
 dsimp only[d4];nofun
 dsimp only[wS,wT,wE,wV,wG];show ac #v[] rfl (ac #v[] rfl (ab vI ?_))
 dsimp only[wB];unfold iy at k;show ae (Q0:=Q') (λhm Q2 _ hr=>?_) (λhm Q2 hn _=>aP (hn _ _ (hK _ _ ?_)))
 ·have hm:one.1≠other.1:=λz=>by rw[z]at hm; simp at hm
  show st ?_;dsimp only[wS,wE,wN];rw[HX hm]at k;exact hr _ _ (k S .refl)
 clear hK K hn;have hm:one.1=other.1:=by
  by_cases z:one.1=other.1
  ·exact z
  ·have:(!(one.1==other.1))=true:=by simp[z]
   rw[this]at hm; cases hm
 rw[HE hm]at k;show st ?_;dsimp only[wS,wE,Hh];show m8 one.2.length (λp=>!(one.2.getD p 0==other.2.getD p 0)) (λ(i:G9)=>W.int (i:Hg)) [gV (ag one),gV (ag other)] rfl rfl rfl rfl ∅ ?_ (λi hi S2 k2=>?_) λS2 k2=>?_
 ·dsimp only[wE,wA,wV,wG];show ac #v[] rfl (aC ?_)
  rw[G1];exact#[rfl,.refl]
 ·dsimp only[fA,wC,wT,wE,wV,wG];show ac #v[] rfl (ac (Hf i) (wl one i hi) (ac #v[] rfl (ac (Hf i) (wl other i ∅) (ab vI ?_))))
  dsimp only[wB];exact#[λz=>#[z,rfl,.refl],λz=>#[z,.refl]]
 ·have hh:=p8 (P:=λp=>!(one.2.getD p 0==other.2.getD p 0)) (s:=one.2.length)
  show st ?_;dsimp only[wS,wE,wT,wV,wG];cases hL:((Ho one.2.length).filter λp=>!(one.2.getD p 0==other.2.getD p 0))with
  | nil=>
   rw[hL]at hh;show ab (show dc (S2++[O.lst []]) (.ref S2.length)=gV false by simp only[dc,aG aj]; rfl) #[λz=>(by cases z),λ_=>?_]
   have e:bT (λp=>!(one.2.getD p 0==other.2.getD p 0)) one.2.length=.non:=(IH hh).symm
   rw[e]at k;exact k _ (k2.trans .push)
  | cons x L=>
   rw[hL]at hh;show ab (show dc (S2++[O.lst ((x::L).map λ(i:G9)=>W.int (i:Hg))]) (.ref S2.length)=gV true by simp only[dc,aG aj]; rfl) #[λ_=>?_,λz=>by cases z]
   have e:bT (λp=>!(one.2.getD p 0==other.2.getD p 0)) one.2.length=.int (x:Hg):=(IH hh).symm
   rw[e]at k;exact eL (i:=0) aj rfl (k _ (k2.trans .push))
end
abbrev CV:W->HA
 | .non=>true
 | _=>false
abbrev NI (w:W):Prop:=w=.non\/∃i:Hg,w=.int i
abbrev PB (X:G0 T)(s:G9)(v:Wd)(p:G9):HA:=decide (dB (b6 v p s (s+1))∈X)
def lS {P:Wd->G9->HA}{bs:G0 Hg}{u:Wd}{one other:Pt}:(db P bs u one other).length=bs.length+1:=by
 unfold db;rw[G3,G1,HG]; rfl
def wz {S:aa}{xs:G0 W}(h:xs≠[]):g8 (.tup xs) (.int (-1)) S=gV (xs.getLastD (.int 0),S):=by
 have hp:0 < xs.length:=Kd.mpr h;have hs:qx xs.length (-1)=gV (xs.length - 1):=by
  unfold qx;rw[HX #v[]]
  exact(HE ∅).trans (by congr 1; omega)
 have hg:xs[xs.length - 1]?=gV (xs.getLastD (.int 0)):=by
  rw[LL,LM];have:xs.length - 1 < xs.length:=∅
  simp[this]
 simp only[g8,sa,nE,hs,hg,Option.bind_some,HR]
section
variable{defs:G0 (Hs×Df)}{fuel d:G9}{S:aa}{Q:QW}
structure Fil (defs:G0 (Hs×Df)):Prop where
 parts:Parts defs
 part:Is defs ("part" : Hs) 3 3 gP
 longer:Is defs ("longer_orders" : Hs) 2 4 aX
 barred:Is defs ("barred_threes" : Hs) 1 5 bq
 three:Is defs ("three_at" : Hs) 4 6 aY
 fbar:Is defs ("first_bar" : Hs) 2 4 aU
 back:Is defs ("back" : Hs) 2 2 i8
 both:Is defs ("with_both" : Hs) 5 5 dw
 same:Is defs ("same_bar" : Hs) 2 3 d4
 all:Is defs ("all_bars" : Hs) 5 6 eZ
def gR (F:Fil defs){m0 b0:W}{ns:G0 Hs}{bs:G0 Hg}{a q:G9}{u:Wd}{one other:Pt}{U:G0 (T×W)}(hb:GoodB bs)(hnl:ns.length=bs.length)(hu:GoodW a bs.length u)(h1:GoodP a bs.length u.length one)(h2:GoodP a bs.length u.length other)(hul:u.length<=800)(e:S[q]?=gV (.dic U))
  (k:∀S',Ka S S'->Q (.tup (db (λv p=>bz U v p u.length (u.length+1)) bs u one other),S')) :
  wO (aF (am defs fuel (d+3)) "all_bars" 5 [.tup [m0,.tup (He aD ns bs),b0],.ref q,ak u,ag one,ag other] S) Q:=by
 show aq F.all rfl rfl λQ' hR=>?_
 replace k:∀S',Ka S S'->Q' (.rt (.tup (db (λv p=>bz U v p u.length (u.length+1)) bs u one other)),S'):=λS' a=>hR _ _ (k S' a)
 clear hR;change wZ _ _ eZ [gV (.tup [m0,.tup (He aD ns bs),b0]),gV (.ref q),gV (ak u),gV (ag one),gV (ag other),td] S Q';generalize hR0:W.tup [m0,.tup (He aD ns bs),b0]=R;have hb3:bs.length<=3:=by rcases hb with rfl|rfl|rfl|rfl|rfl|rfl <;> decide
 dsimp only[eZ];show st ?_;dsimp only[wS,wE,Hh];show m8 bs.length (λ_=>true) (λn=>bT (λp=>bz U (cK bs u one other n) p u.length (u.length+1)) u.length) [gV (.ref q),gV (ak u),gV (ag one),gV (ag other),gV R] rfl rfl rfl rfl ∅ ?_ (λn hn S2 k2=>?_) λS2 k2=>?_
 ·dsimp only[wE,wA,wV,wG];subst hR0;show ac #v[] rfl (aC ?_)
  rw[IT,hnl,JM];exact#[rfl,.refl]
 ·obtain⟨g1,g2⟩:=tf hb hu h1 h2 hn;dsimp only[fA,wC,wE,wA,wV,wG];subst hR0;show#[λ_=>?_,λz=>by cases z]
  show oX (d:=d) F.back F.both hnl hn ∅ (by rw[h2.len]; omega) ?_
  exact oW (d:=d) F.three F.fbar g1 g2 ∅ (k2.get _ _ e) #[rfl,rfl,.refl]
 ·rw[bP];show st ?_;left;show qa (d:=d+1) F.same (by rw[h1.len,h2.len]) (by rw[h1.len]; omega) λS3 k3=>?_
  dsimp only;show ab (kb (ay (k3.get _ _ aj)) aj (cL ?_)) (d3 aj (k _ (((k2.trans .push).trans k3).trans (Ka.push.trans .push))));rw[G3,G1,HG]; show _+1<=_; omega
def oY (hfu:20 < fuel)(F:Fil defs)(hby:Is defs ("barred_by" : Hs) 4 4 dv){m0:W}{ns:G0 Hs}{bs:G0 Hg}{a:G9}{gs:G0 Wd}{u:Wd}{one other:Pt}(hb:GoodB bs)(hnl:ns.length=bs.length)(hgs:∀g∈gs,GoodW a bs.length g/\g.length=3)(h64:gs.length<=100)(hu:GoodW a bs.length u)(h1:GoodP a bs.length u.length one)(h2:GoodP a bs.length u.length other)(hul:u.length<=800)
  (k:∀S',Ka S S'->Q (.tup (db (PB ((bJ bs gs).map dB) u.length) bs u one other),S')) :
  wO (aF (am defs fuel (d+5)) "barred_by" 4 [.tup [m0,.tup (He aD ns bs),.tup (gs.map ak)],ak u,ag one,ag other] S) Q:=by
 show aq hby rfl rfl λQ' hR=>?_
 change wZ _ _ dv [gV (.tup [m0,.tup (He aD ns bs),.tup (gs.map ak)]),gV (ak u),gV (ag one),gV (ag other)] S Q';dsimp only[dv];show st ?_;left;show kq (d:=d) hfu F.parts F.part F.longer F.barred hb hnl hgs h64 λq U S1 e1 hk _ k1=>?_
 have ep:(λ(v:Wd) p=>bz U v p u.length (u.length+1))=PB ((bJ bs gs).map dB) u.length:=funext λv=>funext λp=>hk.get _
 show gR (d:=d+1) F hb hnl hu h1 h2 hul e1 λS2 k2=>hR _ _ ?_
 rw[ep];exact k S2 (k1.trans k2)
end
abbrev cx:Ss:=
 #v[.set 4 (.own "_law_pick" 2 #v[.v 0,.bi .len #v[.ix (.v 1) (.c (.int 0))]]),.loop (.nm 5) (.rng #v[.bi .len #v[.ix (.v 1) (.c (.int 0))]]) #v[.set 6 (.op .mod (.op .add (.v 4) (.v 5)) (.bi .len #v[.ix (.v 1) (.c (.int 0))])),.set 7 (.own "_law_new_ways" 6 #v[.v 0,.v 1,.v 2,.v 3,.v 6,.tup .nil]),.ite (.cmp .isnot (.v 7) (.c .non)) #v[.ret (.tup #v[.v 6,.v 7])] .nil],.ret (.c .non)]
abbrev fe:Ss:=
 #v[.asg [5,6] (.v 4),.set 7 (.own "_law_pick" 2 #v[.v 0,.c (.int 4)]),.ite (.cmp .eq (.v 7) (.c (.int 1))) #v[.set 5 (.own "_law_pick" 2 #v[.v 0,.bi .len #v[.ix (.v 1) (.c (.int 0))]])] #v[.ite (.and (.cmp .gt (.v 7) (.c (.int 1))) (.cmp .ne (.v 6) (.tup .nil))) #v[.set 8 (.own "_law_pick" 2 #v[.v 0,.bi .len #v[.v 6]]),.set 6 (.op .add (.op .add (.sl (.v 6) .no (.yes (.v 8))) (.tup #v[.own "_law_pick" 2 #v[.v 0,.bi .len #v[.ix (.v 1) (.c (.int 1))]]])) (.sl (.v 6) (.yes (.op .add (.v 8) (.c (.int 1)))) .no))] .nil],.ite (.own "_law_last_may" 4 #v[.v 1,.v 2,.op .add (.v 3) (.tup #v[.tup #v[.v 5,.v 6]]),.bi .len #v[.v 3]]) #v[.ret (.tup #v[.v 5,.v 6])] .nil,.ret (.v 4)]
abbrev ff:Ss:=
 #v[.set 4 (.own "_law_world" 4 #v[.v 0,.v 1,.v 2,.v 3]),.set 5 (.own "_law_new_point" 4 #v[.v 0,.v 1,.v 2,.v 4]),.ite (.cmp .is (.v 5) (.c .non)) #v[.set 5 (.ix (.v 4) (.neg (.c (.int 1)))),.set 4 (.sl (.v 4) .no (.yes (.neg (.c (.int 1)))))] .nil,.set 6 (.c .non),.ite (.cmp .eq (.own "_law_pick" 2 #v[.v 0,.c (.int 2)]) (.c (.int 0))) #v[.set 6 (.own "_law_new_point" 4 #v[.v 0,.v 1,.v 2,.v 4])] .nil,.ite (.cmp .is (.v 6) (.c .non)) #v[.set 6 (.own "_law_near" 5 #v[.v 0,.v 1,.v 2,.v 4,.v 5])] .nil,.ret (.tup #v[.v 4,.v 5,.v 6])]
def EF {S:aa}{xs:G0 Hg}:aJ .ne (.tup (al xs)) (.tup []) S=gV (.bl (!decide (xs=[])),S):=by
 cases xs <;> rfl
def Std.last {U:G0 (T×W)}{u:Wd}(h:Std U u):Std U u.dropLast/\cb U u.dropLast u.dropLast.length (u.getD (u.length - 1) (0,[]))=true:=by
 have e:∀p,p < u.length - 1->u.dropLast.getD p (0,[])=u.getD p (0,[]):=λp hp=>by
  rw[Hx,Hx,Le,HE hp]
 show#[λk hk j hj i hi=>?_,bE.mpr λj hj i hi=>?_]
 ·rw[Ja]at hk;have:=h k ∅ j hj i hi
  unfold bz b6 at this ⊢;rw[e i ∅,e j ∅,e k hk]
  exact this
 ·rw[Ja]at hj;have:=h (u.length - 1) ∅ j hj i hi
  unfold bz b6 at this;unfold bV;rw[e i ∅,e j ∅]
  exact this
section
variable{defs:G0 (Hs×Df)}{fuel d:G9}{S:aa}{r:G9}{Q:QW}
structure Pai (defs:G0 (Hs×Df)):Prop where
 un:Is defs ("_law_unlaying_rule" : Hs) 1 10 bc
 ways:Is defs ("_law_new_ways" : Hs) 6 11 aK
 world:Is defs ("_law_world" : Hs) 4 8 du
 lmay:Is defs ("_law_last_may" : Hs) 4 8 aH
 point:Is defs ("_law_new_point" : Hs) 4 8 cx
 near:Is defs ("_law_near" : Hs) 5 9 fe
 pair:Is defs ("_law_pair" : Hs) 4 7 ff
def qb (G:Gen defs)(hg:Is defs ("_law_new_ways" : Hs) 6 11 aK){m0 b0:W}{N:G0 W}{a n q:G9}{u:Wd}{mk:Hg}{U:G0 (T×W)}(hN:N.length=n)(hn3:n<=3)(hu:GoodW a n u)(hl:u.length<=900)(e:S[q]?=gV (.dic U))(hqr:q≠r)(hf:Fl S r)
  (k:∀w S',((w=.non/\u≠[])\/∃to:G0 Hg,w=.tup (al to)/\to.length=u.length/\(∀x∈to,0<=x/\x < (n:Hg))/\∀j < u.length,∀i < j,bp U u mk i j (to.getD i 0) (to.getD j 0)=false)->Fl S' r->Kp r S S'->Q (w,S')) :
  wO (aF (am defs fuel (d+2)) "_law_new_ways" 6 [.ref r,.tup [m0,.tup N,b0],.ref q,ak u,.int mk,.tup []] S) Q:=by
 by_cases z:u=[]
 ·subst z;show aq hg rfl rfl λQ' hR=>?_
  change wZ _ _ aK [gV (.ref r),gV (.tup [m0,.tup N,b0]),gV (.ref q),gV (ak []),gV (.int mk),gV (.tup (al [])),td,td,td,td,td] S Q';dsimp only[aK];nofun
  show cr 0 0 (λm Z S'=>Z=[gV (.ref r),gV (.tup [m0,.tup N,b0]),gV (.ref q),gV (ak []),gV (.int mk),gV (.tup (al [])),td,td,td,td,td]/\S'=S) rfl rfl rfl #v[] ?_ (λm Z S1 hm=>∅) ?_
  ·dsimp only[wE,wA,wV,wG];exact aC #[rfl,aC #[rfl,rfl,rfl]]
  ·rintro Z S1 ⟨rfl,rfl⟩;show hK _ _ (st ?_);dsimp only[wS,wE,wV,wG];exact hR _ _ (k _ _ (.inr #[[],rfl,rfl,(λx hx=>nomatch hx),λj hj=>by cases hj]) hf .refl)
 ·show kw G hg hN hn3 hu hl e hqr hf λw S' hw f' k'=>k w S' ?_ f' k'
  rcases hw with h|h
  ·exact .inl #[h,z]
  ·exact .inr h
def fS (G:Gen defs)(P:Pai defs){Mqa N:G0 W}{b0:W}{a n q:G9}{u:Wd}{U:G0 (T×W)}(hM:Mqa.length=a)(ha1:0 < a)(ha3:a<=3)(hN:N.length=n)(hn3:n<=3)(hu:GoodW a n u)(hl:u.length<=900)(e:S[q]?=gV (.dic U))(hqr:q≠r)(hf:Fl S r)
  (k:∀w S',((w=.non/\u≠[])\/∃p,w=ag p/\GoodP a n u.length p/\cb U u u.length p=true)->Fl S' r->Kp r S S'->Q (w,S')) :
  wO (aF (am defs fuel (d+3)) "_law_new_point" 4 [.ref r,.tup [.tup Mqa,.tup N,b0],.ref q,ak u] S) Q:=by
 show aq P.point rfl rfl λQ' hR=>?_
 replace k:∀w S',((w=.non/\u≠[])\/∃p,w=ag p/\GoodP a n u.length p/\cb U u u.length p=true)->Fl S' r->Kp r S S'->Q' (.rt w,S'):=λw S' h1 h2 h3=>hR _ _ (k w S' h1 h2 h3)
 clear hR;change wZ _ _ cx [gV (.ref r),gV (.tup [.tup Mqa,.tup N,b0]),gV (.ref q),gV (ak u),td,td,td,td] S Q';generalize hR0:W.tup [.tup Mqa,.tup N,b0]=R;dsimp only[cx];nofun
 left;have lm:∀(S:aa) (Q:QW),Q (.int (a:Hg),S)->wO (g8 R (.int 0) S) λp=>wO (Bi.len.fn [p.1] p.2) Q:=λS Q q=>by
  subst hR0;show ac #v[] rfl (aC ?_)
  rw[hM]; exact q
 show lm _ _ ?_;show aL (d:=d+1) G.pick hf ∅ ∅ λv S1 v0 v1 f1 k1=>hK _ _ ?_
 clear hK K;nofun
 show bD (a:Hg) (λi Z S'=>(∃a5 a6 a7,Z=[gV (.ref r),gV R,gV (.ref q),gV (ak u),gV (.int v),a5,a6,a7])/\(u=[]->i=0)/\Fl S' r/\Kp r S S') rfl rfl ∅ ?_ ?_ ?_
 ·dsimp only[wE,wA,wV,wG];exact lm _ _ #[rfl,#[_,_,_,rfl],λ_=>rfl,f1,k1]
 ·rintro i Z S2 hi ⟨⟨a5,a6,a7,rfl⟩,_,f2,k2⟩ Q2 hn2 hr2;clear hK;dsimp only[Hh];show st ?_;left;show ab cQ (lm _ _ (ab (oE ∅) ?_))
  have m0:0<=(v+(i:Hg)) % (a:Hg):=KQ _ ∅
  have m1:(v+(i:Hg)) % (a:Hg) < a:=Kk _ ∅
  generalize(v+(i:Hg)) % (a:Hg)=m at m0 m1;show st ?_;left;subst hR0;show qb (d:=d) G P.ways hN hn3 hu hl (k2.get _ _ hqr e) hqr f2 λw S3 hw f3 k3=>?_
  nofun
  dsimp only[wS,wT,wE,wA,wV,wG];rcases hw with⟨rfl,hne⟩|⟨to,rfl,htl,hto,hbp⟩
  ·show ab (show aJ .isnot .non .non S3=gV (.bl false,S3)from rfl) ?_
   dsimp only[wB];exact ae (Q0:=Q2) (λz=>by cases z) (λ_ Q5 hn5 _=>aP (hn5 _ _ (hK _ _ (aP (hn2 _ _ #[#[_,_,_,rfl],λz=>absurd z hne,f3,k2.trans k3])))))
  ·show ab (show aJ .isnot (.tup (al to)) .non S3=gV (.bl true,S3)from rfl) ?_
   dsimp only[wB];show ae (Q0:=Q2) (λ_ Q5 _ hr5=>?_) (λz=>by cases z)
   show st ?_;left;exact hr5 _ _ (hr2 _ _ (k _ _ (.inr #[(m,to),rfl,#[#[m0,m1],htl,hto],bE.mpr hbp]) f3 (k2.trans k3)))
 ·rintro Z S2 ⟨⟨a5,a6,a7,rfl⟩,hz,f2,k2⟩;rw[Hr]at hz;show hK _ _ (st ?_);dsimp only[wS,wE];exact k _ _ (.inl #[rfl,λz=>by have:=hz z; omega]) f2 k2
def CC (G:Gen defs)(P:Pai defs){Mqa N:G0 W}{b0:W}{a n q:G9}{u:Wd}{p:Pt}{U:G0 (T×W)}(hM:Mqa.length=a)(ha1:0 < a)(ha3:a<=3)(hN:N.length=n)(hn1:0 < n)(hn3:n<=3)(hu:GoodW a n u)(hp:GoodP a n u.length p)(hpm:cb U u u.length p=true)(hl:u.length<=900)(e:S[q]?=gV (.dic U))(hqr:q≠r)(hf:Fl S r)
  (k:∀p' S',GoodP a n u.length p'->cb U u u.length p'=true->Fl S' r->Kp r S S'->Q (ag p',S')) :
  wO (aF (am defs fuel (d+2)) "_law_near" 5 [.ref r,.tup [.tup Mqa,.tup N,b0],.ref q,ak u,ag p] S) Q:=by
 show aq P.near rfl rfl λQ' hR=>?_
 replace k:∀p' S',GoodP a n u.length p'->cb U u u.length p'=true->Fl S' r->Kp r S S'->Q' (.rt (ag p'),S'):=λw S' h1 h2 h3 h4=>hR _ _ (k w S' h1 h2 h3 h4)
 clear hR;change wZ _ _ fe [gV (.ref r),gV (.tup [.tup Mqa,.tup N,b0]),gV (.ref q),gV (ak u),gV (ag p),td,td,td,td] S Q';generalize hR0:W.tup [.tup Mqa,.tup N,b0]=R;have lm:∀(S:aa) (Q:QW),Q (.int (a:Hg),S)->wO (g8 R (.int 0) S) λp=>wO (Bi.len.fn [p.1] p.2) Q:=λS Q q=>by
  subst hR0;show ac #v[] rfl (aC ?_)
  rw[hM]; exact q
 have lw:∀(S:aa) (Q:QW),Q (.int (n:Hg),S)->wO (g8 R (.int 1) S) λp=>wO (Bi.len.fn [p.1] p.2) Q:=λS Q q=>by
  subst hR0;show ac #v[] rfl (aC ?_)
  rw[hN]; exact q
 have ul:(u.map ag).length=u.length:=G1 ..;dsimp only[fe];show st ?_;dsimp only[wS,wE,wV,wG,wU,ag];show ab (show cF [5,6] [.int p.1,.tup (p.2.map W.int)] [gV (.ref r),gV R,gV (.ref q),gV (ak u),gV (.tup [.int p.1,.tup (p.2.map W.int)]),td,td,td,td]=gV [gV (.ref r),gV R,gV (.ref q),gV (ak u),gV (ag p),gV (.int p.1),gV (.tup (al p.2)),td,td]from rfl) ?_
 nofun
 left;show aL (d:=d) G.pick hf #v[] #v[] λv S1 _ _ f1 k1=>hK _ _ ?_
 clear hK K;nofun
 have tl:∀(m:Hg) (to:G0 Hg) (a8:G7 W) (S2:aa),GoodP a n u.length (m,to)->Fl S2 r->Kp r S S2->K [gV (.ref r),gV R,gV (.ref q),gV (ak u),gV (ag p),gV (.int m),gV (.tup (al to)),gV (.int v),a8] S2:=by
  intro m to a8 S2 hg f2 k2;show hK _ _ ?_;clear hK K;nofun
  dsimp only[wS,wT,wE,wA,wV,wG,ak];have ev:u.map ag++[.tup [.int m,.tup (al to)]]=(u++[(m,to)]).map ag:=by rw[Hy]; rfl
  show ab (aQ (cL (by rw[ev,G1,G3,HS]; omega))) (aC ?_)
  dsimp only;rw[ev,ul];have lmay:=λ(Q:QW)=>kH (fuel:=fuel) (d:=d) (Q:=Q) (R:=R) (h:=(m,to)) P.lmay hu hg.len ∅ (k2.get _ _ hqr e)
  unfold ak at lmay;show lmay _ ?_;show ab (show dc S2 (.bl (cb U u u.length (m,to)))=gV (cb U u u.length (m,to))from rfl) ?_
  show ae (Q0:=Q') (λhmt Q2 _ hr=>?_) (λ_ Q2 hn _=>aP (hn _ _ (hK _ _ (st ?_))))
  ·show st ?_;left;exact hr _ _ (k (m,to) S2 hg hmt f2 k2)
  ·dsimp only[wS,wE,wV,wG];exact k p S2 hp hpm f2 k2
 dsimp only[wS,wT,wE,wV,wG,ie,bv,wB];show ae (Q0:=Q') (λ_ Q2 hn _=>?_) (λ_ Q2 hn _=>?_)
 ·show st ?_;left;show lm _ _ (aL (d:=d) G.pick f1 ∅ ∅ λm S2 m0 m1 f2 k2=>aP (hn _ _ (tl m p.2 td S2 #[#[m0,m1],hp.len,hp.way] f2 (k1.trans k2))))
 ·show aM λK2 hK2=>?_
  dsimp only[wS,wT,wE,wA,wV,wG];have stay:K2 [gV (.ref r),gV R,gV (.ref q),gV (ak u),gV (ag p),gV (.int p.1),gV (.tup (al p.2)),gV (.int v),td] S1:=hK2 _ _ (aP (hn _ _ (tl p.1 p.2 td S1 hp f1 k1)));show ab zq ?_;dsimp only[wB];show#[λ_=>ab EF ?_,λ_=>ae (Q0:=Q2) (λz=>by cases z) λ_ Q3 hn3 _=>aP (hn3 _ _ stay)]
  dsimp only[wB];show ae (Q0:=Q2) (λhne Q3 hn3 _=>?_) (λ_ Q3 hn3 _=>aP (hn3 _ _ stay))
  have hne:p.2≠[]:=by simpa using hne
  have hpl:0 < p.2.length:=Kd.mpr hne;have il:(al p.2).length=p.2.length:=G1 ..;have hpe:=hp.len;show st ?_;left;show aC ?_;rw[il];show aL (d:=d) G.pick f1 ∅ ∅ λv2 S2 v0 v1 f2 k2=>?_
  obtain⟨at',rfl⟩ : ∃k:G9,v2=k:=#[v2.toNat,∅]
  show st ?_;dsimp only[wS,wE,wA,wP,wV,wG,wN,Hh];show ab (show fE (.tup (al p.2)) td (gV ((at':G9):Hg)) S2=gV (.tup ((al p.2).take at'),S2) by simp only[fE,cU]) ?_
  dsimp only;show lw _ _ (aL (d:=d) G.pick f2 ∅ ∅ λw S3 w0 w1 f3 k3=>?_)
  show ab (aQ (cL (by rw[G3,HD,il]; show _+1<=_; omega))) ?_
  dsimp only;show ab cQ ?_;dsimp only;show ab (show fE (.tup (al p.2)) (gV ((at':Hg)+1)) td S3=gV (.tup ((al p.2).drop (at'+1)),S3) by rw[show(at':Hg)+1=((at'+1:G9):Hg) by omega]; simp only[fE,kg]) ?_
  dsimp only;show ab (aQ (cL (by rw[G3,G3,HD,Jp,il]; show _+1+_<=_; omega))) ?_
  have es:(al p.2).take at'++[.int w]++(al p.2).drop (at'+1)=al (p.2.set at' w):=by
   unfold al;rw[List.map_set,List.set_eq_take_append_cons_drop,HE (by rw[G1]; omega)]
   simp
  dsimp only;rw[es];show aP (hn3 _ _ (hK2 _ _ (aP (hn _ _ (tl p.1 (p.2.set at' w) _ S3 #[hp.mark,?_,λx hx=>?_] f3 ((k1.trans k2).trans k3))))))
  ·show(p.2.set at' w).length=_;rw[Ot]; exact hpe
  ·rcases List.mem_or_eq_of_mem_set hx with z|z
   ·exact hp.way x z
   ·rw[z]; exact#[w0,w1]
def CD (G:Gen defs)(P:Pai defs){Mqa N:G0 W}{b0:W}{a n q many:G9}{U:G0 (T×W)}(hM:Mqa.length=a)(ha1:0 < a)(ha3:a<=3)(hN:N.length=n)(hn1:0 < n)(hn3:n<=3)(hm:many<=800)(e:S[q]?=gV (.dic U))(hqr:q≠r)(hf:Fl S r)
  (k:∀(u:Wd) (one other:Pt) S',u.length<=many->GoodW a n u->Std U u->GoodP a n u.length one->cb U u u.length one=true->GoodP a n u.length other->cb U u u.length other=true->Fl S' r->Kp r S S'->Q (.tup [ak u,ag one,ag other],S')) :
  wO (aF (am defs fuel (d+4)) "_law_pair" 4 [.ref r,.tup [.tup Mqa,.tup N,b0],.ref q,.int many] S) Q:=by
 show aq P.pair rfl rfl λQ' hR=>?_
 replace k:∀(u:Wd) (one other:Pt) S',u.length<=many->GoodW a n u->Std U u->GoodP a n u.length one->cb U u u.length one=true->GoodP a n u.length other->cb U u u.length other=true->Fl S' r->Kp r S S'->Q' (.rt (.tup [ak u,ag one,ag other]),S'):=λu x y S' h1 h2 h3 h4 h5 h6 h7 h8 h9=>hR _ _ (k u x y S' h1 h2 h3 h4 h5 h6 h7 h8 h9)
 clear hR;change wZ _ _ ff [gV (.ref r),gV (.tup [.tup Mqa,.tup N,b0]),gV (.ref q),gV (.int many),td,td,td] S Q';generalize hR0:W.tup [.tup Mqa,.tup N,b0]=R;dsimp only[ff];nofun
 left;subst hR0;show zN (d:=d) G P.ways P.world hM ha1 ha3 hN hn3 ∅ e hqr hf λu S1 hul hu hst f1 k1=>hK _ _ ?_
 clear hK K;nofun
 left;show fS (d:=d) G P hM ha1 ha3 hN hn3 hu ∅ (k1.get _ _ hqr e) hqr f1 λw S2 hw f2 k2=>hK _ _ ?_
 clear hK K;have k12:=k1.trans k2;clear f1 k1 k2;nofun
 have tl:∀(u:Wd) (one:Pt),u.length<=many->GoodW a n u->Std U u->GoodP a n u.length one->cb U u u.length one=true->K [gV (.ref r),gV (.tup [.tup Mqa,.tup N,b0]),gV (.ref q),gV (.int many),gV (ak u),gV (ag one),td] S2:=by
  intro u one hul hu hst h1 h1m;show hK _ _ ?_;clear hK K;show st ?_;dsimp only[wS,wE,Hh];nofun
  have tl2:∀(w:W) (S3:aa),(w=.non\/∃p,w=ag p/\GoodP a n u.length p/\cb U u u.length p=true)->Fl S3 r->Kp r S S3->K [gV (.ref r),gV (.tup [.tup Mqa,.tup N,b0]),gV (.ref q),gV (.int many),gV (ak u),gV (ag one),gV w] S3:=by
   intro w S3 hw f3 k3;show hK _ _ ?_;clear hK K;nofun
   dsimp only[wS,wT,wE,wV,wG];have ret:∀(p:Pt) (S4:aa),GoodP a n u.length p->cb U u u.length p=true->Fl S4 r->Kp r S S4->K [gV (.ref r),gV (.tup [.tup Mqa,.tup N,b0]),gV (.ref q),gV (.int many),gV (ak u),gV (ag one),gV (ag p)] S4:=λp S4 hp hpm f4 k4=>hK _ _ (st (by
    left;exact k u one p S4 hul hu hst h1 h1m hp hpm f4 k4))
   rcases hw with rfl|⟨p,rfl,hp,hpm⟩
   ·show ab (show aJ .is .non .non S3=gV (.bl true,S3)from rfl) ?_
    dsimp only[wB];show ae (Q0:=Q') (λ_ Q2 hn _=>?_) (λz=>by cases z)
    show st ?_;left;exact CC (d:=d+1) G P hM ha1 ha3 hN hn1 hn3 hu h1 h1m ∅ (k3.get _ _ hqr e) hqr f3 λp S4 hp hpm f4 k4=>aP (hn _ _ (ret p S4 hp hpm f4 (k3.trans k4)))
   ·show ab (show aJ .is (ag p) .non S3=gV (.bl false,S3)from rfl) ?_
    dsimp only[wB];exact ae (Q0:=Q') (λz=>by cases z) (λ_ Q2 hn _=>aP (hn _ _ (ret p S3 hp hpm f3 k3)))
  dsimp only[wS,wT,wE,wA,wV,wG];show aL (d:=d+2) G.pick f2 #v[] #v[] λv S3 _ _ f3 k3=>?_
  dsimp only[ie,bv,wB];show ae (Q0:=Q') (λ_ Q2 hn _=>?_) (λ_ Q2 hn _=>aP (hn _ _ (tl2 .non S3 (.inl rfl) f3 (k12.trans k3))))
  show st ?_;left;show fS (d:=d) G P hM ha1 ha3 hN hn3 hu ∅ (k3.get _ _ hqr (k12.get _ _ hqr e)) hqr f3 λw S4 hw f4 k4=>aP (hn _ _ (tl2 w S4 ?_ f4 ((k12.trans k3).trans k4)))
  rcases hw with⟨h,_⟩|h
  ·exact .inl h
  ·exact .inr h
 dsimp only[wS,wT,wE,wV,wG];rcases hw with⟨rfl,hne⟩|⟨p,rfl,hp,hpm⟩
 ·show ab (show aJ .is .non .non S2=gV (.bl true,S2)from rfl) ?_
  dsimp only[wB];show ae (Q0:=Q') (λ_ Q2 hn _=>?_) (λz=>by cases z)
  have hup:0 < u.length:=Kd.mpr hne;have hlt:u.length - 1 < u.length:=∅
  have gl:=ar (d:=(0,[])) hlt;show st ?_;dsimp only[wS,wE,wV,wG,wN,Hh];have el:(u.map ag).getLastD (.int 0)=ag (u.getD (u.length - 1) (0,[])):=by
   rw[LL,LM,G1,Hc,gl]; rfl
  show ab (wz (xs:=u.map ag) (by simpa using hne)) ?_
  rw[el];show st ?_;dsimp only[wS,wE,wP,wV,wG,wN,Hh];show ab (show fE (ak u) td (gV (-1)) S2=gV (ak u.dropLast,S2) by simp only[ak,fE,iq,List.map_dropLast]) ?_
  show aP (hn _ _ (tl u.dropLast (u.getD (u.length - 1) (0,[])) (by rw[Ja]; omega) (sZ hu) hst.last.1 #[hu.mark _ _ gl,?_,hu.way _ _ gl] hst.last.2))
  rw[hu.len _ _ gl,Ja]
 ·show ab (show aJ .is (ag p) .non S2=gV (.bl false,S2)from rfl) ?_
  dsimp only[wB];exact ae (Q0:=Q') (λz=>by cases z) (λ_ Q2 hn _=>aP (hn _ _ (tl u p hul hu hst hp hpm)))
end
abbrev iz (u:Wd)(one other:Pt)(b:Hg)(p:G9):Wd:=[((u.getD p (0,[])).1,[]),(one.1,[one.2.getD p 0]),(other.1,[other.2.getD p 0,b])]
def qc {bs:G0 Hg}{a k:G9}{u:Wd}{one other:Pt}{n p:G9}(h1:GoodP a k u.length one)(h2:GoodP a k u.length other)(hp:p < u.length):b6 (cK bs u one other n) p u.length (u.length+1)=iz u one other (bs.getD n 0) p:=by
 have l1:(u++[one]).length=u.length+1:=by rw[G3]; rfl
 have g0:(cK bs u one other n).getD p (0,[])=u.getD p (0,[]):=by
  unfold cK;rw[aE ∅,aE hp]
 have g1:(cK bs u one other n).getD u.length (0,[])=one:=by
  unfold cK;rw[aE ∅,bM]
 have g2:(cK bs u one other n).getD (u.length+1) (0,[])=(other.1,other.2++[bs.getD n 0]):=by
  unfold cK;rw[<- l1,bM]
 unfold b6 iz;rw[g0,g1,g2];dsimp only;rw[aZ (by rw[h2.len]; exact hp)]
 have:(other.2++[bs.getD n 0]).getD u.length 0=bs.getD n 0:=by
  rw[<- h2.len,Hx,Ik (Hj _),Km]; rfl
 rw[this]
abbrev iA (X:G0 T)(bs:G0 Hg)(u:Wd)(one other:Pt)(i p:G9):HA:=decide (dB (iz u one other (bs.getD i 0) p)∈X)
abbrev nh (one other:Pt)(s:G9):HA:=(one.1==other.1)&&(Ho s).all λp=>one.2.getD p 0==other.2.getD p 0
abbrev fB (B:G9->G9->HA)(sm:HA)(n s:G9):G0 Hg:=((Ho n).filter λi=>(Ho s).all λp=>!B i p).map (λ(i:G9)=>(i:Hg))++(if sm then[-1]else[])
def lT {P:G9->HA}{s:G9}:CV (bT P s)=(Ho s).all λp=>!P p:=by
 rw[JI,HC];unfold bT;constructor
 ·intro h p hp;cases hf:(Ho s).find? P with
  | none=>
   have:=JS.mp hf p hp
   simpa using this
  | some i=>rw[hf]at h; cases h
 ·intro h;have:(Ho s).find? P=td:=JS.mpr λp hp=>by simpa using h p hp
  rw[this]; rfl
def lU {B:G9->G9->HA}{sm:HA}{n s:G9}{z:Hg}:z∈fB B sm n s↔(∃i:G9,z=i/\i < n/\∀p < s,B i p=false)\/(z = -1/\sm=true):=by
 unfold fB;rw[HI,Hz];constructor
 ·rintro(⟨i,hi,rfl⟩|h)
  ·obtain⟨h1,h2⟩:=Ji.mp hi;exact .inl #[i,rfl,Hu.mp h1,λp hp=>by simpa using HC.mp h2 p (Hu.mpr hp)]
  ·cases sm with
   | true=>exact .inr #[Hk.mp h,rfl]
   | false=>cases h
 ·rintro(⟨i,rfl,h1,h2⟩|⟨rfl,rfl⟩)
  ·exact .inl #[i,Ji.mpr #[Hu.mpr h1,HC.mpr λp hp=>by simpa using h2 p (Hu.mp hp)],rfl]
  ·exact .inr (Hk.mpr rfl)
abbrev aN (p:Pt)(ps:G0 G9):Pt:=(p.1,ps.map λk=>p.2.getD k 0)
def lV {a n s:G9}{p:Pt}{ps:G0 G9}(h:GoodP a n s p)(hps:∀k∈ps,k < s):GoodP a n ps.length (aN p ps):=by
 show#[h.mark,by unfold aN; rw[G1],λw hw=>?_]
 unfold aN at hw;obtain⟨k,hk,rfl⟩:=Hz.mp hw;exact h.way _ (Hn (ar (d:=0) (by rw[h.len]; exact hps k hk)))
def dP {p:Pt}{ps:G0 G9}{i:G9}(h:i < ps.length):(aN p ps).2.getD i 0=p.2.getD (ps.getD i 0) 0:=by
 unfold aN;rw[Hx,Hc,ar (d:=0) h]; rfl
def oZ {bs:G0 Hg}{u:Wd}{one other:Pt}{b:Hg}{ps:G0 G9}{i:G9}(h:i < ps.length):iz (au bs u ps) (aN one ps) (aN other ps) b i=iz u one other b (ps.getD i 0):=by
 unfold iz;rw[eP h,dP h,dP h]; rfl
abbrev bj:Ss:=
 #v[.set 2 (.bi .list #v[.v 1]),.set 3 (.lst .nil),.whl (.cmp .ne (.v 2) (.lst .nil)) #v[.ex (.me .append (.v 3) #v[.me .pop (.v 2) #v[.own "_law_pick" 2 #v[.v 0,.bi .len #v[.v 2]]]])],.ret (.v 3)]
def zO {M:Hs->FF}{fuel:G9}{Z:Fm}{S:aa}{K:Fm->aa->Prop}{Q:QO}{tg:Tg}{a:E}{b:Ss}(xs:G0 W)(I:G9->Fm->aa->Prop)(oa:dD a=true)(ok:gM b=true)(he:wE M a Z S λp=>E3 p.1=gV xs/\I 0 Z p.2)
  (hstep:∀(i:G9) (x:W) (Z:Fm) (S:aa),xs[i]?=gV x->I i Z S->wO (fF tg (.tup [.int i,x]) Z S) λq=>zv M fuel b q.1 q.2 (I (i+1)) Q) (hend:∀Z S,I xs.length Z S->K Z S):Wp (fD M fuel (.loop tg (.enu #v[a]) b) Z S) (pR K Q):=by
 obtain⟨x,S1,e1,h1,h0⟩:=bZ oa he;have hl:(iS xs).length=xs.length:=by simp[iS]
 show gN (mi:=.its (iS xs)) (S1:=S1) (xs:=iS xs) I ok (by simp only[ju,cJ,dC,hG,vk,e1,h1]) (λ_ _ _ _=>rfl) rfl h0 (λi w Z S hw hI=>?_) λZ S hI=>hend Z S (hl ▸ hI)
 obtain⟨y,hy,rfl⟩:=jZ hw;exact hstep i y Z S hy hI
def CF {S:aa}{i j:G9}{c:HA}(h:iJ S 20 (.ref i) (.ref j)=gV c):aJ .ne (.ref i) (.ref j) S=gV (.bl (!c),S):=by
 simp only[aJ,dF,r9,h,HR]
def EG {S:aa}{i j:G9}{xs:G0 W}(h1:S[i]?=gV (.lst xs))(h2:S[j]?=gV (.lst [])):aJ .ne (.ref i) (.ref j) S=gV (.bl (!xs.isEmpty),S):=by
 show CF ?_;simp only[iJ,bU h1,bU h2];cases xs with
 | nil=>rfl
 | cons x xs=>rfl
abbrev bd (U:G0 (T×W))(w:Wd):HA:=(bW U (dB w)).isSome
abbrev Cl (bs:G0 Hg)(U:G0 (T×W)):Prop:=∀(w:Wd) (t:G0 G9),t∈az->bd U w=true->bd U (au bs w t)=true
def EH {bs:G0 Hg}{a:G9}{gs:G0 Wd}{U:G0 (T×W)}(hb:GoodB bs)(hgs:∀g∈gs,GoodW a bs.length g/\g.length=3)(h:HasD U (bJ bs gs)):Cl bs U:=by
 intro w t ht hw;unfold bd at hw ⊢;rw[h.get,HM]at hw ⊢;obtain⟨w',hw',e⟩:=Hz.mp hw;have e:=m6 e;subst e;show Hz.mpr #[_,?_,rfl];unfold bJ at hw' ⊢;obtain⟨g,hg,h⟩:=IM.mp hw';obtain⟨s,hs,rfl⟩:=Hz.mp h;obtain⟨gg,g3⟩:=hgs g hg;obtain⟨s1,s2⟩:=i7.mp hs;show IM.mpr #[g,hg,?_];rw[i6 hb gg (by rw[g3]; exact s1) (by rw[s2]; exact(i7.mp ht).1)]
 have:∀s∈az,∀t∈az,(t.map λi=>s.getD i 0)∈az:=by decide
 exact Hz.mpr #[_,this s hs t ht,rfl]
def lW {bs:G0 Hg}{u:Wd}{i j k:G9}(h1:i < j)(h2:j < k):b6 u i j k=au bs u [i,j,k]:=by
 have e1:bx bs u j i=(u.getD j (0,[])).2.getD i 0:=by unfold bx; rw[HE h1]
 have e2:bx bs u k i=(u.getD k (0,[])).2.getD i 0:=by unfold bx; rw[HE (JL h1 h2)]
 have e3:bx bs u k j=(u.getD k (0,[])).2.getD j 0:=by unfold bx; rw[HE h2]
 change _=[((u.getD i (0,[])).1,[]),((u.getD j (0,[])).1,[bx bs u j i]),((u.getD k (0,[])).1,[bx bs u k i,bx bs u k j])];rw[e1,e2,e3];rfl
def zP {bs:G0 Hg}{a:G9}{U:G0 (T×W)}{u:Wd}{x y z:G9}(hb:GoodB bs)(cl:Cl bs U)(hu:GoodW a bs.length u)(hs:Std U u)(hO:Ord u.length [x,y,z]):bd U (au bs u [x,y,z])=false:=by
 rw[Jt];intro h;have go:∀(i j k:G9) (t:G0 G9),t∈az->(t.map λi=>[x,y,z].getD i 0)=[i,j,k]->i < j->j < k->k < u.length->IJ:=λi j k t ht e h1 h2 h3=>by
  have:=cl _ t ht h;rw[i6 hb hu hO (i7.mp ht).1,e,<- lW h1 h2]at this;have h4:=hs k h3 j h2 i h1;unfold bz at h4;unfold bd at this;rw[this]at h4; cases h4
 have lx:=hO.lt x (by simp)
 have ly:=hO.lt y (by simp)
 have lz:=hO.lt z (by simp)
 have nd:=hO.nd;simp only[Jj,HF,IB,Kf,Pj]at nd;obtain⟨⟨n1,n2⟩,n3,_⟩:=nd;rcases Kn n1 with h1|h1
 ·rcases Kn n3 with h2|h2
  ·exact go x y z [0,1,2] #v[] rfl h1 h2 lz
  ·rcases Kn n2 with h3|h3
   ·exact go x z y [0,2,1] #v[] rfl h3 h2 ly
   ·exact go z x y [2,0,1] #v[] rfl h3 h1 ly
 ·rcases Kn n2 with h2|h2
  ·exact go y x z [1,0,2] #v[] rfl h1 h2 lz
  ·rcases Kn n3 with h3|h3
   ·exact go y z x [1,2,0] #v[] rfl h3 h2 lx
   ·exact go z y x [2,1,0] #v[] rfl h3 h1 lx
def qd {ps:G0 G9}(h:ps.Nodup){i j:G9}(hi:i < ps.length)(hj:j < ps.length)(e:ps.getD i 0=ps.getD j 0):i=j:=by
 rw[Hx,Hx,Hi hi,Hi hj]at e;exact(Jy h).mp e
def Std.part {bs:G0 Hg}{a:G9}{U:G0 (T×W)}{u:Wd}{ps:G0 G9}(hb:GoodB bs)(cl:Cl bs U)(hu:GoodW a bs.length u)(hs:Std U u)(hO:Ord u.length ps):Std U (au bs u ps):=by
 intro k hk j hj i hi;rw[aV]at hk;have hO3:Ord ps.length [i,j,k]:=#[by simp only[Jj,HF,IB,Kf,Pj]; exact#[#[∅,∅],∅,by simp],λp hp=>by
  simp only[HF,IB,Kf]at hp;rcases hp with rfl|rfl|rfl <;> omega]
 change bd U (b6 (au bs u ps) i j k)=false;rw[lW (bs:=bs) hi hj,i6 hb hu hO hO3];have gm:∀m,m < ps.length->ps.getD m 0∈ps:=λm hm=>Hn (ar (d:=0) hm)
 show zP hb cl hu hs #[?_,λp hp=>?_]
 ·simp only[Jj,HF,IB,Kf,Pj];exact#[#[λe=>by have:=qd hO.nd ∅ ∅ e; omega,λe=>by have:=qd hO.nd ∅ ∅ e; omega],λe=>by have:=qd hO.nd ∅ ∅ e; omega,by simp]
 ·simp only[HF,IB,Kf]at hp;rcases hp with rfl|rfl|rfl <;> exact hO.lt _ (gm _ ∅)
def Std.both {U:G0 (T×W)}{u:Wd}{p:Pt}:Std U (u++[p])↔Std U u/\cb U u u.length p=true:=by
 constructor
 ·intro h;have:=h.last;rw[List.dropLast_concat,G3,HS,Nu,bM]at this;exact this
 ·rintro⟨h1,h2⟩;exact h1.snoc (m:=p.1) (to:=p.2) (bE.mp h2)
def wD {bs:G0 Hg}{u:Wd}{p:Pt}{ps:G0 G9}(h:∀k∈ps,k < u.length):au bs (u++[p]) ps=au bs u ps:=by
 unfold au;show IG λk hk=>?_
 have hk:=Hu.mp hk;have g1:=h _ (Hn (ar (d:=0) hk));rw[aE g1];congr 1;show IG λj hj=>?_
 have g2:=h j (J4 hj);unfold bx;rw[aE g1,aE g2]
def tj {bs:G0 Hg}{u:Wd}{p:Pt}{ps:G0 G9}(h:∀k∈ps,k < u.length):au bs (u++[p]) (ps++[u.length])=au bs u ps++[aN p ps]:=by
 rw[lQ,wD h];congr 2;unfold rA aN;rw[bM];congr 1;show IG λj hj=>?_
 unfold bx;rw[HE (h j hj),bM]
structure Cf (a n:G9)(U:G0 (T×W))(u:Wd)(p q:Pt):Prop where
 gu:GoodW a n u
 su:Std U u
 gp:GoodP a n u.length p
 mp:cb U u u.length p=true
 gq:GoodP a n u.length q
 mq:cb U u u.length q=true
def GoodP.snoc {a n:G9}{u:Wd}{p:Pt}(hu:GoodW a n u)(h:GoodP a n u.length p):GoodW a n (u++[p]):=hu.snoc (m:=p.1) (ws:=p.2) h.mark h.len h.way
def zQ {n:G9}{ps:G0 G9}(h:Ord n ps):Ord (n+1) (ps++[n]):=#[by
 rw[LS];exact#[h.nd,by simp,λx hx y hy e=>by
  rw[Hk.mp hy]at e;have:=h.lt x hx; omega],λp hp=>by
 rcases HI.mp hp with h1|h1
 ·have:=h.lt p h1; omega
 ·rw[Hk.mp h1]; omega]
def Cf.part {bs:G0 Hg}{a:G9}{U:G0 (T×W)}{u:Wd}{p q:Pt}{ps:G0 G9}(hb:GoodB bs)(cl:Cl bs U)(h:Cf a bs.length U u p q)(hO:Ord u.length ps):Cf a bs.length U (au bs u ps) (aN p ps) (aN q ps):=by
 have pl:(au bs u ps).length=ps.length:=aV ..;have one:∀p:Pt,GoodP a bs.length u.length p->cb U u u.length p=true->cb U (au bs u ps) (au bs u ps).length (aN p ps)=true:=λp gp mp=>by
  have s1:Std U (u++[p]):=Std.both.mpr #[h.su,mp];have l1:(u++[p]).length=u.length+1:=by rw[G3]; rfl
  have s2:=s1.part hb cl (gp.snoc h.gu) (ps:=ps++[u.length]) (by rw[l1]; exact zQ hO)
  rw[tj hO.lt]at s2;exact(Std.both.mp s2).2
 exact#[i5 hb h.gu hO.lt hO.nd,h.su.part hb cl h.gu hO,by rw[pl]; exact lV h.gp hO.lt,one p h.gp h.mp,by rw[pl]; exact lV h.gq hO.lt,one q h.gq h.mq]
abbrev bo (U:G0 (T×W))(bs:G0 Hg)(u:Wd)(p q:Pt)(i:G9):HA:=if i < bs.length then(Ho u.length).any λk=>bd U (iz u p q (bs.getD i 0) k)else !nh p q u.length
abbrev Full (U:G0 (T×W))(bs:G0 Hg)(c:G9)(u:Wd)(p q:Pt):Prop:=∀i < c,bo U bs u p q i=true
def dL {U:G0 (T×W)}{bs:G0 Hg}{u:Wd}{p q:Pt}{i:G9}(hi:i < bs.length):bo U bs u p q i=true↔∃k < u.length,bd U (iz u p q (bs.getD i 0) k)=true:=by
 unfold bo;rw[HE hi,Lj];exact#[λ#[k,h1,h2]=>#[k,Hu.mp h1,h2],λ#[k,h1,h2]=>#[k,Hu.mpr h1,h2]]
def wF {p q:Pt}{s:G9}:nh p q s=false↔p.1≠q.1\/∃k < s,p.2.getD k 0≠q.2.getD k 0:=by
 unfold nh;rw[Kt,NT];constructor
 ·rintro(h|⟨k,h1,h2⟩)
  ·exact .inl (by simpa using h)
  ·exact .inr #[k,Hu.mp h1,by simpa using h2]
 ·rintro(h|⟨k,h1,h2⟩)
  ·exact .inl (by simpa using h)
  ·exact .inr #[k,Hu.mpr h1,by simpa using h2]
def fT {U:G0 (T×W)}{bs:G0 Hg}{u:Wd}{p q:Pt}{i:G9}(hi:¬ i < bs.length):bo U bs u p q i=true↔p.1≠q.1\/∃k < u.length,p.2.getD k 0≠q.2.getD k 0:=by
 unfold bo;rw[HX hi,Js,wF]
def rB {ps:G0 G9}{k:G9}:(ps++[k]).getD ps.length 0=k:=by
 rw[Hx,Ik (Hj _),Km]; rfl
def rC {ps:G0 G9}{k:G9}(h:k∈ps):∃j < ps.length,ps.getD j 0=k:=by
 obtain⟨j,hj,e⟩:=Lq h;exact#[j,hj,by rw[Hx,Hi hj]; exact e]
def wH {U:G0 (T×W)}{bs:G0 Hg}{u:Wd}{p q:Pt}{ps:G0 G9}{i:G9}(h:bo U bs u p q i=true)(hn:bo U bs (au bs u ps) (aN p ps) (aN q ps) i=false):∃k < u.length,k∉ps/\bo U bs (au bs u (ps++[k])) (aN p (ps++[k])) (aN q (ps++[k])) i=true:=by
 have pl:∀ps,(au bs u ps).length=ps.length:=λps=>aV ..
 have no:¬ bo U bs (au bs u ps) (aN p ps) (aN q ps) i=true:=by rw[hn]; exact Ht
 have el:∀k,ps.length < (ps++[k]).length:=λk=>by rw[G3,HS]; omega
 by_cases hi:i < bs.length
 ·rw[dL hi]at h no;obtain⟨k,hk,hb⟩:=h;show#[k,hk,λz=>?_,?_]
  ·obtain⟨j,hj,e⟩:=rC z;exact no #[j,by rw[pl]; exact hj,by rw[oZ hj,e]; exact hb]
  ·rw[dL hi];exact#[ps.length,by rw[pl]; exact el k,by rw[oZ (el k),rB]; exact hb]
 ·rw[fT hi]at h no;rcases h with h|⟨k,hk,hb⟩
  ·exact absurd (.inl h) no
  show#[k,hk,λz=>?_,?_]
  ·obtain⟨j,hj,e⟩:=rC z;exact no (.inr #[j,by rw[pl]; exact hj,by rw[dP hj,dP hj,e]; exact hb])
  ·rw[fT hi];exact .inr #[ps.length,by rw[pl]; exact el k,by rw[dP (el k),dP (el k),rB]; exact hb]
def wI {U:G0 (T×W)}{bs:G0 Hg}{u:Wd}{p q x:Pt}{v w:Hg}{i:G9}(hp:p.2.length=u.length)(hq:q.2.length=u.length)(h:bo U bs u p q i=true):bo U bs (u++[x]) (p.1,p.2++[v]) (q.1,q.2++[w]) i=true:=by
 have l1:(u++[x]).length=u.length+1:=by rw[G3]; rfl
 by_cases hi:i < bs.length
 ·rw[dL hi]at h ⊢;obtain⟨k,hk,hb⟩:=h;show#[k,∅,?_]
  unfold iz at hb ⊢;dsimp only;rw[aE hk,aZ ∅,aZ ∅]
  exact hb
 ·rw[fT hi]at h ⊢;rcases h with h|⟨k,hk,hb⟩
  ·exact .inl h
  ·show .inr #[k,∅,?_]
   dsimp only;rw[aZ ∅,aZ ∅]
   exact hb
abbrev rD (U:G0 (T×W))(bs:G0 Hg)(c:G9)(u:Wd)(p q:Pt):G9:=((Ho c).filter λi=>!bo U bs u p q i).length
def zR {c i:G9}{f g:G9->HA}(hi:i < c)(h:∀j,f j=true->g j=true)(h1:f i=false)(h2:g i=true):((Ho c).filter λj=>!g j).length < ((Ho c).filter λj=>!f j).length:=by
 have e:(Ho c).filter (λj=>!g j)=((Ho c).filter λj=>!f j).filter λj=>!g j:=by
  rw[List.filter_filter];show List.filter_congr λj _=>?_
  cases hf:f j with
  | true=>rw[h j hf]; rfl
  | false=>simp
 rw[e];exact List.length_filter_lt_length_iff_exists.mpr #[i,Ji.mpr #[Hu.mpr hi,by rw[h1]; rfl],by rw[h2]; exact Ht]
abbrev gS (U:G0 (T×W))(v:Wd)(n:G9)(p:Pt):G0 Pt:=((Ho n).map λ(w:G9)=>(p.1,p.2++[(w:Hg)])).filter λh=>ir U (v++[h])
abbrev i9 (U:G0 (T×W))(a n:G9)(u:Wd)(p q:Pt):G0 (Wd×Pt×Pt):=(kD U u a n).flatMap λx=>(gS U (u++[x]) n p).flatMap λh=>(gS U (u++[x]) n q).map λh'=>(u++[x],h,h')
def nj {U:G0 (T×W)}{u:Wd}{x p h:Pt}{n:G9}:h∈gS U (u++[x]) n p↔∃w:G9,w < n/\h=(p.1,p.2++[(w:Hg)])/\∀i < u.length,bV U (u++[x]) h i u.length=false:=by
 have l1:(u++[x]).length=u.length+1:=by rw[G3]; rfl
 have key:∀h:Pt,ir U (u++[x]++[h])=true↔∀i < u.length,bV U (u++[x]) h i u.length=false:=λh=>by
  rw[kG (s:=u.length) (by rw[G3,l1]; rfl)]
  constructor <;> intro z i hi
  ·have:=z i hi;rw[<- l1,kB hi ∅]at this; exact this
  ·rw[<- l1,kB hi ∅]; exact z i hi
 unfold gS;rw[Ji,key,Hz];exact#[λ#[#[w,hw,e],z]=>#[w,Hu.mp hw,e.symm,z],λ#[w,hw,e,z]=>#[#[w,Hu.mpr hw,e.symm],z]]
def AB {U:G0 (T×W)}{u:Wd}{x p h:Pt}{a n:G9}(gp:GoodP a n u.length p)(mp:cb U u u.length p=true)(hh:h∈gS U (u++[x]) n p):GoodP a n (u++[x]).length h/\cb U (u++[x]) (u++[x]).length h=true:=by
 have l1:(u++[x]).length=u.length+1:=by rw[G3]; rfl
 obtain⟨w,hw,rfl,hb⟩:=nj.mp hh;have gl:=gp.len;show#[#[gp.mark,?_,λz hz=>?_],bE.mpr λq hq i hi=>?_]
 ·rw[l1,G3,gl]; rfl
 ·rcases HI.mp hz with z1|z1
  ·exact gp.way z z1
  ·rw[Hk.mp z1]; omega
 ·by_cases e:q=u.length
  ·subst e; exact hb i hi
  ·have hq':q < u.length:=∅
   have:=bE.mp mp q hq' i hi;unfold bV at this ⊢;dsimp only;rw[aE (JL hi hq'),aE hq',aZ ∅,aZ ∅]
   exact this
def zS {bs:G0 Hg}{U:G0 (T×W)}{u:Wd}{p q:Pt}{a n:G9}{c:Wd×Pt×Pt}(h:Cf a n U u p q)(hc:c∈i9 U a n u p q):Cf a n U c.1 c.2.1 c.2.2/\c.1.length=u.length+1/\∀i,bo U bs u p q i=true->bo U bs c.1 c.2.1 c.2.2 i=true:=by
 unfold i9 at hc;obtain⟨x,hx,hc⟩:=IM.mp hc;obtain⟨h1,hh1,hc⟩:=IM.mp hc;obtain⟨h2,hh2,rfl⟩:=Hz.mp hc;obtain⟨g1,g2,g3,g4⟩:=kF.mp hx;obtain⟨p1,p2⟩:=AB h.gp h.mp hh1;obtain⟨q1,q2⟩:=AB h.gq h.mq hh2;show#[#[h.gu.snoc (m:=x.1) (ws:=x.2) g1 g2 g3,Std.both.mpr #[h.su,bE.mpr λj hj i hi=>g4 i j hi hj],p1,p2,q1,q2],by rw[G3]; rfl,λi hi=>?_]
 obtain⟨w1,_,rfl,_⟩:=nj.mp hh1;obtain⟨w2,_,rfl,_⟩:=nj.mp hh2;exact wI h.gp.len h.gq.len hi
def tB {p:Pt}{ps:G0 G9}{k:G9}:aN p (ps++[k])=((aN p ps).1,(aN p ps).2++[p.2.getD k 0]):=by
 unfold aN;rw[Hy]; rfl
def wJ {bs:G0 Hg}{U:G0 (T×W)}{u:Wd}{p q:Pt}{a:G9}{ps:G0 G9}{k:G9}(hb:GoodB bs)(cl:Cl bs U)(h:Cf a bs.length U u p q)(hO:Ord u.length (ps++[k])):(au bs u (ps++[k]),aN p (ps++[k]),aN q (ps++[k]))∈i9 U a bs.length (au bs u ps) (aN p ps) (aN q ps):=by
 have C:=h.part hb cl hO;have hk:k < u.length:=hO.lt k (by simp)
 rw[lQ]at C ⊢;generalize rA bs u ps k=x at C;generalize au bs u ps=v at C;have l1:(v++[x]).length=v.length+1:=by rw[G3]; rfl
 have hx:(v++[x])[v.length]?=gV x:=by rw[Ik (Hj _),Km]; rfl
 obtain⟨_,mx⟩:=Std.both.mp C.su;have one:∀r:Pt,GoodP a bs.length u.length r->cb U (v++[x]) (v++[x]).length (aN r (ps++[k]))=true->aN r (ps++[k])∈gS U (v++[x]) bs.length (aN r ps):=λr gr mr=>by
  obtain⟨w0,w1⟩:=gr.way _ (Hn (ar (d:=0) (by rw[gr.len]; exact hk)))
  show nj.mpr #[(r.2.getD k 0).toNat,∅,?_,λi hi=>bE.mp mr v.length ∅ i hi]
  rw[tB,Kc w0]
 unfold i9;show IM.mpr #[x,kF.mpr #[C.gu.mark _ _ hx,C.gu.len _ _ hx,C.gu.way _ _ hx,λi j hi hj=>bE.mp mx j hj i hi],IM.mpr #[_,one p h.gp C.mp,Hz.mpr #[_,one q h.gq C.mq,rfl]]]
abbrev Sub (bs:G0 Hg)(Uq:Wd)(P Q:Pt)(u:Wd)(p q:Pt):Prop:=∃ps,Ord Uq.length ps/\u=au bs Uq ps/\p=aN P ps/\q=aN Q ps
abbrev fU (a:G9)(bs:G0 Hg)(U:G0 (T×W))(c:G9)(u:Wd)(p q:Pt):Prop:=∀Uq P Q,Cf a bs.length U Uq P Q->Full U bs c Uq P Q->¬ Sub bs Uq P Q u p q
def CG {bs:G0 Hg}{U:G0 (T×W)}{u:Wd}{p q:Pt}{a c i:G9}(hb:GoodB bs)(cl:Cl bs U)(hi:i < c)(hn:bo U bs u p q i=false)(h:∀x∈i9 U a bs.length u p q,bo U bs x.1 x.2.1 x.2.2 i=true->fU a bs U c x.1 x.2.1 x.2.2):fU a bs U c u p q:=by
 rintro Uq P Q hC hF ⟨ps,hO,rfl,rfl,rfl⟩;obtain⟨k,hk,hkp,hh⟩:=wH (hF i hi) hn;have hO':Ord Uq.length (ps++[k]):=#[by
  rw[LS];exact#[hO.nd,by simp,λx hx y hy e=>by rw[Hk.mp hy]at e; exact hkp (e ▸ hx)],λx hx=>by
  rcases HI.mp hx with h1|h1
  ·exact hO.lt x h1
  ·rw[Hk.mp h1]; exact hk]
 exact h _ (wJ hb cl hC hO') hh Uq P Q hC hF #[_,hO',rfl,rfl,rfl]
def tD {bs:G0 Hg}{u:Wd}{one other:Pt}{b:Hg}{p:G9}:au bs (iz u one other b p) [0,2,1]=iz u other one (bs.getD b.toNat 0) p:=rfl
def Full.turn {bs:G0 Hg}{U:G0 (T×W)}{u:Wd}{p q:Pt}{c:G9}(hb:GoodB bs)(cl:Cl bs U)(hc:bs.length<=c)(h:Full U bs c u p q):Full U bs c u q p:=by
 intro i hi
 by_cases hn:i < bs.length
 ·obtain⟨b,hb1,hb2,hb3⟩:=hb.rng i hn;have hj:(bs.getD i 0).toNat < bs.length:=by rw[getD_some hb1]; omega
  obtain⟨k,hk,hh⟩:=(dL hj).mp (h _ (HJ hj hc));rw[hb.inv i hn]at hh;show(dL hn).mpr #[k,hk,?_];have:=cl _ [0,2,1] #v[] hh
  rw[tD,Hr]at this;exact this
 ·show(fT hn).mpr ?_;rcases(fT hn).mp (h i hi)with z|⟨k,hk,z⟩
  ·exact .inl λe=>z e.symm
  ·exact .inr #[k,hk,λe=>z e.symm]
def Cf.turn {a n:G9}{U:G0 (T×W)}{u:Wd}{p q:Pt}(h:Cf a n U u p q):Cf a n U u q p:=#[h.gu,h.su,h.gq,h.mq,h.gp,h.mp]
def zT {bs:G0 Hg}{Uq:Wd}{P Q:Pt}:Sub bs Uq P Q [] (P.1,[]) (Q.1,[]):=#[[],#[.nil,λ_ h=>nomatch h],rfl,rfl,rfl]
abbrev Gy (a:G9)(bs:G0 Hg)(U:G0 (T×W))(c:G9):Prop:=∃Uq P Q,Cf a bs.length U Uq P Q/\Full U bs c Uq P Q
def EI {bs:G0 Hg}{U:G0 (T×W)}{a c:G9}(hb:GoodB bs)(cl:Cl bs U)(hc:bs.length<=c)(h:∀i j:G9,i < a->i<=j->j < a->fU a bs U c [] ((i:Hg),[]) ((j:Hg),[])):¬ Gy a bs U c:=by
 rintro⟨Uq,P,Q,hC,hF⟩;have go:∀P Q:Pt,Cf a bs.length U Uq P Q->Full U bs c Uq P Q->P.1<=Q.1->IJ:=λP Q hC hF hle=>by
  obtain⟨p0,p1⟩:=hC.gp.mark;obtain⟨q0,q1⟩:=hC.gq.mark;have:=h P.1.toNat Q.1.toNat ∅ ∅ ∅ Uq P Q hC hF
  rw[Kc p0,Kc q0]at this;exact this zT
 rcases Int.le_total P.1 Q.1 with hle|hle
 ·exact go P Q hC hF hle
 ·exact go Q P hC.turn (hF.turn hb cl hc) hle
abbrev bA:Ss:=
 #v[.set 4 (.comp (.tup #v[.ix (.v 2) (.c (.int 0)),.op .add (.ix (.v 2) (.c (.int 1))) (.tup #v[.v 1])]) (.nm 1) (.rng #v[.bi .len #v[.ix (.v 0) (.c (.int 1))]]) .nil [td,td,gV 3]),.ret (.comp (.v 1) (.nm 1) (.seq (.v 4)) #v[.cmp .is (.own "first_bar" 2 #v[.v 2,.op .add (.v 3) (.tup #v[.v 1])]) (.c .non)] [td,td,gV 1,gV 2])]
abbrev bF:Ss:=
 #v[.set 3 (.lst .nil),.loop (.nm 4) (.seq (.own "wishes_over" 3 #v[.v 0,.v 1,.ix (.v 2) (.c (.int 0))])) #v[.set 5 (.op .add (.ix (.v 2) (.c (.int 0))) (.tup #v[.v 4])),.set 6 (.own "longer_by_a_way" 4 #v[.v 0,.v 1,.v 5,.ix (.v 2) (.c (.int 2))]),.loop (.nm 7) (.seq (.own "longer_by_a_way" 4 #v[.v 0,.v 1,.v 5,.ix (.v 2) (.c (.int 1))])) #v[.ex (.me .extend (.v 3) #v[.comp (.tup #v[.v 2,.v 3,.v 1]) (.nm 1) (.seq (.v 6)) .nil [td,td,gV 5,gV 7]])]],.ret (.v 3)]
abbrev cW (c:Wd×Pt×Pt):W:=.tup [ak c.1,ag c.2.1,ag c.2.2]
def nk {U:G0 (T×W)}{v:Wd}{n:G9}{p:Pt}:(gS U v n p).length<=n:=by
 unfold gS;exact HK (Jg _ _) (by rw[G1,HG]; exact Hj _)
def iB {α β:Type}{m:G9}{F:α->G0 β}(h:∀x,(F x).length<=m):∀xs:G0 α,(xs.flatMap F).length<=xs.length*m
 | []=>by simp
 | x::xs=>by
  rw[J5,G3,Ih,Nat.add_mul,Nat.one_mul];have:=iB h xs;have:=h x;omega
def wK {U:G0 (T×W)}{u:Wd}{a n:G9}(ha:a<=3)(hn:n<=3)(hu:u.length<=3):(kD U u a n).length<=81:=by
 have h1:n ^ u.length<=27:=HK (M9 hn _) (MV (n:=3) #v[] hu)
 have:=iB (F:=λ(m:G9)=>cH U u n (m:Hg) u.length) (λm=>HK (eO u.length) h1) (Ho a)
 rw[HG]at this;exact HK this ∅
section
variable{defs:G0 (Hs×Df)}{fuel d:G9}{S:aa}{Q:QW}
def wL (h3:Is defs ("three_at" : Hs) 4 6 aY)(hfb:Is defs ("first_bar" : Hs) 2 4 aU)(hg:Is defs ("longer_by_a_way" : Hs) 4 5 bA){m0 b0:W}{N:G0 W}{a n q:G9}{v:Wd}{p:Pt}{U:G0 (T×W)}(hN:N.length=n)(hn3:n<=3)(hv:GoodW a n v)(hv1:1<=v.length)(hvl:v.length<=10)(hp0:0<=p.1/\p.1 < a)(hpl:p.2.length+1=v.length)(hpw:∀w∈p.2,0<=w/\w < (n:Hg))(e:S[q]?=gV (.dic U))
  (k:∀(l:G9) S',S'[l]?=gV (.lst ((gS U v n p).map ag))->S.length<=l->Ka S S'->Q (.ref l,S')) :
  wO (aF (am defs fuel (d+3)) "longer_by_a_way" 4 [.tup [m0,.tup N,b0],.ref q,ak v,ag p] S) Q:=by
 show aq hg rfl rfl λQ' hR=>?_
 replace k:∀(l:G9) S',S'[l]?=gV (.lst ((gS U v n p).map ag))->S.length<=l->Ka S S'->Q' (.rt (.ref l),S'):=λl S' a b c=>hR _ _ (k l S' a b c)
 clear hR;change wZ _ _ bA [gV (.tup [m0,.tup N,b0]),gV (.ref q),gV (ak v),gV (ag p),td] S Q';dsimp only[bA];show st ?_;dsimp only[wS,wE,Hh];show m8 n (λ_=>true) (λ(w:G9)=>ag (p.1,p.2++[(w:Hg)])) [gV (ag p)] rfl rfl rfl rfl ∅ ?_ (λw hw S2 k2=>?_) λS2 k2=>?_
 ·dsimp only[wE,wA,wV,wG];show ac #v[] rfl (aC ?_)
  rw[hN];exact#[rfl,.refl]
 ·dsimp only[fA,wC,wE,wA,wV,wG];show#[λ_=>?_,λz=>by cases z]
  show ac #v[] rfl (ac #v[] rfl ?_)
  show ab (aQ (cL (by rw[G3,G1]; show _+1<=_; omega))) ?_
  show#[rfl,?_,.refl];unfold ag;dsimp only;rw[Hy]; rfl
 ·rw[bP];show st ?_;dsimp only[wS,wE];have em:((Ho n).map λ(w:G9)=>ag (p.1,p.2++[(w:Hg)]))=(((Ho n).map λ(w:G9)=>((p.1,p.2++[(w:Hg)]):Pt)).map ag):=by rw[IX]; rfl
  rw[em];show kA ((Ho n).map λ(w:G9)=>((p.1,p.2++[(w:Hg)]):Pt)) ag (λh=>ir U (v++[h])) ag [gV (.ref q),gV (ak v)] rfl rfl rfl rfl (by rw[G1,HG]; omega) #[_,rfl,aj,.refl] (λh hh S3 k3=>?_) λS3 k3=>?_
  ·obtain⟨w,hw,rfl⟩:=Hz.mp hh;have hw:=Hu.mp hw;have gv:GoodW a n (v++[(p.1,p.2++[(w:Hg)])]):=hv.snoc hp0 (by rw[G3]; exact hpl) λx hx=>by
    rcases HI.mp hx with z|z
    ·exact hpw x z
    ·rw[Hk.mp z]; omega
   generalize((p.1,p.2++[(w:Hg)]):Pt)=h at gv;have vl:(v++[h]).length=v.length+1:=by rw[G3]; rfl
   dsimp only[fA,wC,wT,wE,wA,wV,wG,ak];have ev:v.map ag++[ag h]=(v++[h]).map ag:=by rw[Hy]; rfl
   show ab (aQ (cL (by rw[ev,G1]; omega))) ?_
   dsimp only;rw[ev];have fb:=λ(Q:QW)=>jm (fuel:=fuel) (d:=d) (Q:=Q) h3 hfb gv ∅ ∅ ((k2.trans (Ka.push.trans k3)).get _ _ e)
   unfold ak at fb;show fb _ λz hz=>?_
   rcases hz with⟨rfl,hz⟩|⟨i,rfl,hz⟩
   ·show ab (show aJ .is .non .non S3=gV (.bl true,S3)from rfl) ?_
    dsimp only[wB];exact#[λ_=>#[hz,rfl,.refl],λz=>by cases z]
   ·show ab (show aJ .is (.int i) .non S3=gV (.bl false,S3)from rfl) ?_
    dsimp only[wB];exact#[λz=>(by cases z),λ_=>#[hz,.refl]]
  ·show k _ _ aj ?_ ((k2.trans (Ka.push.trans k3)).trans .push);have:=(k2.trans (Ka.push.trans k3)).len;exact this
structure Sea (defs:G0 (Hs×Df)):Prop where
 three:Is defs ("three_at" : Hs) 4 6 aY
 fbar:Is defs ("first_bar" : Hs) 2 4 aU
 lwish:Is defs ("longer_wishes" : Hs) 2 5 br
 wover:Is defs ("wishes_over" : Hs) 3 7 cu
 byway:Is defs ("longer_by_a_way" : Hs) 4 5 bA
 bypt:Is defs ("longer_by_a_point" : Hs) 3 8 bF
def qe (X:Sea defs){Mqa N:G0 W}{b0:W}{a n q:G9}{u:Wd}{p r:Pt}{U:G0 (T×W)}(hM:Mqa.length=a)(hN:N.length=n)(ha3:a<=3)(hn3:n<=3)(hC:Cf a n U u p r)(hul:u.length<=3)(e:S[q]?=gV (.dic U))
  (k:∀(l:G9) S',S'[l]?=gV (.lst ((i9 U a n u p r).map cW))->S.length<=l->Ka S S'->Q (.ref l,S')) :
  wO (aF (am defs fuel (d+4)) "longer_by_a_point" 3 [.tup [.tup Mqa,.tup N,b0],.ref q,.tup [ak u,ag p,ag r]] S) Q:=by
 show aq X.bypt rfl rfl λQ' hR=>?_
 replace k:∀(l:G9) S',S'[l]?=gV (.lst ((i9 U a n u p r).map cW))->S.length<=l->Ka S S'->Q' (.rt (.ref l),S'):=λl S' a b c=>hR _ _ (k l S' a b c)
 clear hR;change wZ _ _ bF [gV (.tup [.tup Mqa,.tup N,b0]),gV (.ref q),gV (.tup [ak u,ag p,ag r]),td,td,td,td,td] S Q';have wl:=wK (U:=U) (u:=u) ha3 hn3 hul;have ww:=λ(S:aa) (Q:QW) e=>kX (defs:=defs) (fuel:=fuel) (d:=d) (S:=S) (Q:=Q) (Mqa:=Mqa) (N:=N) (b0:=b0) (q:=q) X.three X.fbar X.lwish X.wover hM hN ha3 hn3 hC.gu (HK hul #v[]) (U:=U) e
 have bw:=λ(v:Wd) (p:Pt) (S:aa) (Q:QW) hv hv1 hvl hp0 hpl hpw e=>wL (defs:=defs) (fuel:=fuel) (d:=d) (S:=S) (Q:=Q) (m0:=.tup Mqa) (N:=N) (b0:=b0) (q:=q) (a:=a) (n:=n) (U:=U) (v:=v) (p:=p) X.three X.fbar X.byway hN hn3 hv hv1 hvl hp0 hpl hpw e
 generalize W.tup [.tup Mqa,.tup N,b0]=R at ww bw;have hF:∀x:Pt,((gS U (u++[x]) n p).flatMap λh=>(gS U (u++[x]) n r).map λh'=>(u++[x],h,h')).length<=9:=λx=>by
  have h1:=iB (F:=λh=>(gS U (u++[x]) n r).map λh'=>(u++[x],h,h')) (m:=3) (λh=>by rw[G1]; exact HK nk hn3) (gS U (u++[x]) n p)
  have h2:=nk (U:=U) (v:=u++[x]) (n:=n) (p:=p);omega
 unfold i9 at k;generalize hwF:kD U u a n=ws at k wl ww;dsimp only[bF];show st ?_;dsimp only[wS,wE,wA,Hh];nofun
 show eM rfl rfl ?_;dsimp only[wE,wA,wV,wG];show ac #v[] rfl (ww _ _ (ay e) λt S2 e2 ht k2=>?_)
 have hSt:S.length < t:=by
  have h1:(S++[O.lst []]).length=S.length+1:=by simp
  have h2:(S++[O.lst []]).length<=t:=ht;omega
 show#[t,ws.map ag,λi Z S'=>(∃a4 a5 a6 a7,Z=[gV R,gV (.ref q),gV (.tup [ak u,ag p,ag r]),gV (.ref S.length),a4,a5,a6,a7])/\S'[S.length]?=gV (.lst (((ws.take i).flatMap λx=>(gS U (u++[x]) n p).flatMap λh=>(gS U (u++[x]) n r).map λh'=>(u++[x],h,h')).map cW))/\S'[t]?=gV (.lst (ws.map ag))/\Ka S S',rfl,#[#[_,_,_,_,rfl],k2.get _ _ aj,e2,Ka.push.trans k2],λ_ _ _ h=>h.2.2.1,?_,?_]
 ·rintro i w Z S3 hw ⟨⟨a4,a5,a6,a7,rfl⟩,e3,t3,k3⟩;clear hK;rw[Hc,G6]at hw;obtain⟨x,hx,rfl⟩:=hw;have hxm:=Hn hx;rw[<- hwF]at hxm;obtain⟨g1,g2,g3,_⟩:=kF.mp hxm;have gv:GoodW a n (u++[x]):=hC.gu.snoc (m:=x.1) (ws:=x.2) g1 g2 g3;have vl:(u++[x]).length=u.length+1:=by rw[G3]; rfl
  have hil:i < ws.length:=(Hm.mp hx).1;show ab (show fF (.nm 4) (ag x) [gV R,gV (.ref q),gV (.tup [ak u,ag p,ag r]),gV (.ref S.length),a4,a5,a6,a7] S3=gV ([gV R,gV (.ref q),gV (.tup [ak u,ag p,ag r]),gV (.ref S.length),gV (ag x),a5,a6,a7],S3)from rfl) ?_
  intro Q3 hn _;show st ?_;left;show ac #v[] rfl ?_
  dsimp only[ak];have ev:u.map ag++[ag x]=(u++[x]).map ag:=by rw[Hy]; rfl
  show ab (aQ (cL (by rw[ev,G1]; omega))) ?_
  dsimp only;rw[ev];have hs:∀xs:Wd,W.tup (xs.map ag)=ak xs:=λ_=>rfl
  rw[hs,hs];show st ?_;left;show ac #v[] rfl (bw (u++[x]) r _ _ gv ∅ ∅ hC.gq.mark (by rw[hC.gq.len,vl]) hC.gq.way (k3.get _ _ e) λt6 S4 e6 ht6 k4=>?_)
  have t4:=k4.get _ _ t3;have e4:=k4.get _ _ e3;have hS3:=cp t3;nofun
  show eM rfl rfl ?_;dsimp only[wE,wA,wV,wG];show ac #v[] rfl (bw (u++[x]) p _ _ gv ∅ ∅ hC.gp.mark (by rw[hC.gp.len,vl]) hC.gp.way ((k3.trans k4).get _ _ e) λt7 S5 e7 ht7 k5=>?_)
  have lp:=nk (U:=U) (v:=u++[x]) (n:=n) (p:=p);have lr:=nk (U:=U) (v:=u++[x]) (n:=n) (p:=r);have hF':=hF x;have eD:ws.take (i+1)=ws.take i++[x]:=by rw[Ig,hx]; rfl
  have fl:=iB (F:=λx=>(gS U (u++[x]) n p).flatMap λh=>(gS U (u++[x]) n r).map λh'=>(u++[x],h,h')) hF (ws.take i)
  rw[HD]at fl;have h46:=cp e6;have h4:S.length < t6:=by have:S3.length<=t6:=ht6; omega
  have h7:S.length < t7:=by have:S4.length<=t7:=ht7; have:=k4.len; omega
  show#[t7,(gS U (u++[x]) n p).map ag,λj Z S'=>(∃a7,Z=[gV R,gV (.ref q),gV (.tup [ak u,ag p,ag r]),gV (.ref S.length),gV (ag x),gV (ak (u++[x])),gV (.ref t6),a7])/\S'[S.length]?=gV (.lst (((ws.take i).flatMap (λx=>(gS U (u++[x]) n p).flatMap λh=>(gS U (u++[x]) n r).map λh'=>(u++[x],h,h'))++((gS U (u++[x]) n p).take j).flatMap λh=>(gS U (u++[x]) n r).map λh'=>(u++[x],h,h')).map cW))/\S'[t7]?=gV (.lst ((gS U (u++[x]) n p).map ag))/\S'[t6]?=gV (.lst ((gS U (u++[x]) n r).map ag))/\S'[t]?=gV (.lst (ws.map ag))/\Ka S S',rfl,#[#[_,rfl],by rw[MU,Oh,IQ]; exact k5.get _ _ e4,e7,k5.get _ _ e6,k5.get _ _ t4,(k3.trans k4).trans k5],λ_ _ _ h=>h.2.2.1,?_,?_]
  ·rintro j w Z S6 hw ⟨⟨a7,rfl⟩,e8,f7,f6,ft,k8⟩;clear hK hn;rw[Hc,G6]at hw;obtain⟨h,hh,rfl⟩:=hw;have hjl:j < (gS U (u++[x]) n p).length:=(Hm.mp hh).1;show ab (show fF (.nm 7) (ag h) [gV R,gV (.ref q),gV (.tup [ak u,ag p,ag r]),gV (.ref S.length),gV (ag x),gV (ak (u++[x])),gV (.ref t6),a7] S6=gV ([gV R,gV (.ref q),gV (.tup [ak u,ag p,ag r]),gV (.ref S.length),gV (ag x),gV (ak (u++[x])),gV (.ref t6),gV (ag h)],S6)from rfl) ?_
   intro Q4 hn4 _;show st ?_;left;show#[dg e8,?_];show kA (gS U (u++[x]) n r) ag (λ_=>true) (λh'=>cW (u++[x],h,h')) [gV (ak (u++[x])),gV (ag h)] rfl rfl rfl rfl ∅ #[t6,rfl,f6,.refl] (λh' _ S7 k7=>?_) λS7 k7=>?_
   ·dsimp only[fA,wC,wE,wA,wV,wG];exact#[λ_=>#[rfl,rfl,.refl],λz=>by cases z]
   ·rw[bP];have kk:=k7.trans (Ka.push (o:=O.lst ((gS U (u++[x]) n r).map λh'=>cW (u++[x],h,h'))))
    have gl:=iB (F:=λh=>(gS U (u++[x]) n r).map λh'=>(u++[x],h,h')) (m:=3) (λh=>by rw[G1]; omega) ((gS U (u++[x]) n p).take j)
    rw[HD]at gl;show EC (kk.get _ _ e8) aj ?_ (aP (hn4 _ _ #[#[_,rfl],?_,?_,?_,?_,(k8.trans kk).late (Hj _)]))
    ·rw[G1,G3,G1];omega
    ·rw[bY (kk.get _ _ e8),Ig,hh];simp[JJ,Hy,cW,K9]
    ·rw[cg ∅]; exact kk.get _ _ f7
    ·rw[cg ∅]; exact kk.get _ _ f6
    ·rw[cg ∅]; exact kk.get _ _ ft
  ·rintro Z S6 ⟨⟨a7,rfl⟩,e8,f7,f6,ft,k8⟩;rw[G1,Il]at e8;show hK _ _ (aP (hn _ _ #[#[_,_,_,_,rfl],?_,ft,k8]));rw[eD,JJ,List.flatMap_singleton];exact e8
 ·rintro Z S3 ⟨⟨a4,a5,a6,a7,rfl⟩,e3,t3,k3⟩;rw[G1,Il]at e3;show hK _ _ (st ?_);dsimp only[wS,wE,wV,wG];exact k _ _ e3 (Hj _) k3
end
abbrev bB:Ss:=
 #v[.set 4 (.sl (.own "all_bars" 5 #v[.v 0,.v 1,.ix (.v 2) (.c (.int 0)),.ix (.v 2) (.c (.int 1)),.ix (.v 2) (.c (.int 2))]) .no (.yes (.v 3))),.ite (.cmp .notin (.c .non) (.v 4)) #v[.ret (.v 2)] .nil,.set 5 (.me .index (.v 4) #v[.c .non]),.loop (.nm 6) (.seq (.own "longer_by_a_point" 3 #v[.v 0,.v 1,.v 2])) #v[.ite (.cmp .isnot (.ix (.own "all_bars" 5 #v[.v 0,.v 1,.ix (.v 6) (.c (.int 0)),.ix (.v 6) (.c (.int 1)),.ix (.v 6) (.c (.int 2))]) (.v 5)) (.c .non)) #v[.set 7 (.own "unfilled_behind" 4 #v[.v 0,.v 1,.v 6,.v 3]),.ite (.cmp .isnot (.v 7) (.c .non)) #v[.ret (.v 7)] .nil] .nil],.ret (.c .non)]
abbrev ce:Ss:=
 #v[.set 2 (.own "barred_threes" 1 #v[.v 0]),.loop (.nm 3) (.rng #v[.bi .len #v[.ix (.v 0) (.c (.int 0))]]) #v[.loop (.nm 4) (.rng2 #v[.v 3,.bi .len #v[.ix (.v 0) (.c (.int 0))]]) #v[.set 5 (.own "unfilled_behind" 4 #v[.v 0,.v 2,.tup #v[.tup .nil,.tup #v[.v 3,.tup .nil],.tup #v[.v 4,.tup .nil]],.v 1]),.ite (.cmp .isnot (.v 5) (.c .non)) #v[.ret (.v 5)] .nil]],.ret (.c .non)]
abbrev fW:Ss:=
 #v[.ret (.own "first_unfilled" 2 #v[.v 0,.bi .len #v[.ix (.v 0) (.c (.int 1))]])]
def kI {U:G0 (T×W)}{bs:G0 Hg}{a k:G9}{u:Wd}{p q:Pt}{i:G9}(h1:GoodP a k u.length p)(h2:GoodP a k u.length q)(hi:i<=bs.length):∃w,(db (λv p=>bz U v p u.length (u.length+1)) bs u p q)[i]?=gV w/\NI w/\CV w = !bo U bs u p q i:=by
 by_cases hn:i < bs.length
 ·show#[bT (λk=>bz U (cK bs u p q i) k u.length (u.length+1)) u.length,?_,jn _ _,?_]
  ·unfold db;rw[HV (by rw[G1,HG]; exact hn),Hc,Jv hn]; rfl
  ·unfold bo;rw[HE hn,lT,List.not_any_eq_all_not];rw[JI,HC,HC];have key:∀k∈Ho u.length,bz U (cK bs u p q i) k u.length (u.length+1)=bd U (iz u p q (bs.getD i 0) k):=λk hk=>by
    unfold bz bd;rw[qc h1 h2 (Hu.mp hk)]
   exact#[λh k hk=>by rw[<- key k hk]; exact h k hk,λh k hk=>by rw[key k hk]; exact h k hk]
 ·obtain rfl:i=bs.length:=∅
  show#[iy p q,?_,p9 _ _,?_]
  ·unfold db;rw[Ik (by rw[G1,HG]; exact Hj _),G1,HG,Km]; rfl
  ·unfold bo;rw[HX hn,NZ];unfold iy nh
   by_cases e:p.1=q.1
   ·rw[HE e,lT,h1.len,e,II,KN];congr 1
    funext p
    rw[NZ]
   ·rw[HX e,show(p.1==q.1)=false by simpa using e]; rfl
def nq {w:W}(h:NI w):nJ w .non=CV w:=by
 rcases h with rfl|⟨i,rfl⟩ <;> rfl
def lX {Yq:G0 W}{c:G9}{f:G9->HA}(hl:Yq.length=c)(h:∀i < c,∃w,Yq[i]?=gV w/\NI w/\CV w = !f i):(∀w∈Yq,NI w)/\(((Yq.any λz=>nJ z .non)=false/\∀i < c,f i=true)\/∃i < c,(Yq.any λz=>nJ z .non)=true/\(Yq.findIdx? λz=>nJ z .non)=gV i/\f i=false/\∀j < i,f j=true):=by
 have ni:∀w∈Yq,NI w:=λw hw=>by
  obtain⟨i,hi,e⟩:=Lq hw;obtain⟨w',h1,h2,_⟩:=h i ∅
  rw[Hi hi,e]at h1;cases h1; exact h2
 show#[ni,?_];cases hf:Yq.findIdx? λz=>nJ z .non with
 | none=>
  rw[List.findIdx?_eq_none_iff]at hf;show .inl #[NY.mpr λx hx=>by rw[hf x hx]; exact Ht,λi hi=>?_]
  obtain⟨w,h1,h2,h3⟩:=h i hi;have:=hf w (Hn h1);rw[nq h2,h3]at this
  simpa using this
 | some i=>
  obtain⟨hi,h1,h0⟩:=JV.mp hf;obtain⟨w,h2,h3,h4⟩:=h i ∅
  rw[Hi hi]at h2;cases h2;rw[nq h3,h4]at h1;show .inr #[i,∅,Lj.mpr #[_,Iu hi,by rw[nq h3,h4]; exact h1],rfl,by simpa using h1,λj hj=>?_]
  obtain⟨w,w2,w3,w4⟩:=h j ∅
  have:=h0 j hj;rw[Hi ∅]at w2
  cases w2;rw[nq w3,w4]at this
  simpa using this
def rE {Yq:G0 W}(h:∀w∈Yq,NI w):Yq.all bX=true:=HC.mpr λw hw=>by
 rcases h w hw with rfl|⟨i,rfl⟩ <;> rfl
def o4 {S:aa}{Yq:G0 W}(h:∀w∈Yq,NI w):aJ .notin .non (.tup Yq) S=gV (.bl (!(Yq.any λz=>nJ z .non)),S):=by
 have hf:(bX .non&&Yq.all bX)=true:=by rw[rE h]; rfl
 simp only[aJ,dF,r9,Bx,fH,hf,Ki,HR]
def wM {S:aa}{w:W}(h:NI w):aJ .isnot w .non S=gV (.bl (!CV w),S):=by
 rcases h with rfl|⟨i,rfl⟩ <;> rfl
def zU {S:aa}{Yq:G0 W}{i:G9}{Q:QW}(h:∀w∈Yq,NI w)(hi:(Yq.findIdx? λz=>nJ z .non)=gV i)(q:Q (.int (i:Hg),S)):wO (Me.index.fn (.tup Yq) [.non] S) Q:=by
 show ab ?_ q;change g5 (.tup Yq) [.non] S=_;simp only[g5,rE h,Ki,hi,HR]
abbrev eA (U:G0 (T×W))(bs:G0 Hg)(a c:G9):G9->Wd×Pt×Pt->G7 (Wd×Pt×Pt)
 | 0,x=>match (Ho c).find? λi=>!bo U bs x.1 x.2.1 x.2.2 i with
  | none=>gV x
  | some _=>td
 | m+1,x=>match (Ho c).find? λi=>!bo U bs x.1 x.2.1 x.2.2 i with
  | none=>gV x
  | some i=>(i9 U a bs.length x.1 x.2.1 x.2.2).findSome? λy=>if bo U bs y.1 y.2.1 y.2.2 i then eA U bs a c m y else td
abbrev EJ:G7 (Wd×Pt×Pt)->W
 | none=>.non
 | some x=>cW x
def o5 {U:G0 (T×W)}{bs:G0 Hg}{a c m:G9}{u:Wd}{p r:Pt}(h:∀i < c,bo U bs u p r i=true):eA U bs a c m (u,p,r)=gV (u,p,r):=by
 have e:((Ho c).find? λi=>!bo U bs u p r i)=td:=JS.mpr λi hi=>by rw[h i (Hu.mp hi)]; exact Ht
 cases m <;> (unfold eA; dsimp only; rw[e])
def wQ {U:G0 (T×W)}{bs:G0 Hg}{a c m i:G9}{u:Wd}{p r:Pt}(hi:i < c)(h:bo U bs u p r i=false)(h0:∀j < i,bo U bs u p r j=true):eA U bs a c (m+1) (u,p,r)=(i9 U a bs.length u p r).findSome? λy=>if bo U bs y.1 y.2.1 y.2.2 i then eA U bs a c m y else td:=by
 have e:((Ho c).find? λi=>!bo U bs u p r i)=gV i:=gQ (P:=λi=>!bo U bs u p r i) hi (by rw[h]; rfl) λj hj=>by rw[h0 j hj]; rfl
 rw[eA];dsimp only;rw[e]
def zV {α β:Type}{L:G0 α}{G:α->G7 β}{j:G9}{x:α}{z:β}(hx:L[j]?=gV x)(h0:∀y∈L.take j,G y=td)(h1:G x=gV z):L.findSome? G=gV z:=by
 obtain⟨hj,e⟩:=Hm.mp hx;have:L=L.take j++x::L.drop (j+1):=by
  conv=>lhs; rw[<- Ku j L]
  rw[List.drop_eq_getElem_cons hj,e]
 rw[this,List.findSome?_append,LF.mpr h0,List.findSome?_cons,h1]; rfl
abbrev Gz (a:G9)(bs:G0 Hg)(U:G0 (T×W))(c:G9)(u:Wd)(p q:Pt)(w:W):Prop:=(w=.non/\fU a bs U c u p q)\/∃x:Wd×Pt×Pt,w=cW x/\Cf a bs.length U x.1 x.2.1 x.2.2/\Full U bs c x.1 x.2.1 x.2.2/\x.1.length<=c
section
variable{defs:G0 (Hs×Df)}{fuel:G9}
def qf (F:Fil defs)(X:Sea defs)(hg:Is defs ("unfilled_behind" : Hs) 4 8 bB){ms:G0 W}{b0:W}{ns:G0 Hs}{bs:G0 Hg}{a q c:G9}{U:G0 (T×W)}(hb:GoodB bs)(hnl:ns.length=bs.length)(hml:ms.length=a)(ha3:a<=3)(cl:Cl bs U)(hc1:c<=bs.length+1) :
  ∀(m d:G9) (S:aa) (Q:QW) (u:Wd) (p r:Pt),Cf a bs.length U u p r->rD U bs c u p r<=m->u.length+m<=c->S[q]?=gV (.dic U)->(∀w S',Gz a bs U c u p r w->w=EJ (eA U bs a c m (u,p,r))->Ka S S'->Q (w,S'))->
  wO (aF (am defs fuel (d+m+5)) "unfilled_behind" 4 [.tup [.tup ms,.tup (He aD ns bs),b0],.ref q,.tup [ak u,ag p,ag r],.int (c:Hg)] S) Q:=by
 have hb3:bs.length<=3:=by rcases hb with rfl|rfl|rfl|rfl|rfl|rfl <;> decide
 have zl:(He aD ns bs).length=bs.length:=by rw[IT,hnl]; omega
 intro m
 induction m with
 | zero=>?_
 | succ m ih=>?_
 all_goals
  intro d S Q u p r hC hleft hlen e k;show aq hg rfl rfl λQ' hR=>?_
  replace k:=λw S' x z y=>hR _ _ (k w S' x z y)
  clear hR;change wZ _ _ bB [gV (.tup [.tup ms,.tup (He aD ns bs),b0]),gV (.ref q),gV (.tup [ak u,ag p,ag r]),gV (.int (c:Hg)),td,td,td,td] S Q';dsimp only[bB];nofun
  dsimp only[wS,wE,wA,wP,wV,wG,Hh];show ac #v[] rfl (ac #v[] rfl (ac #v[] rfl ?_))
  have bl:(db (λv p=>bz U v p u.length (u.length+1)) bs u p r).length=bs.length+1:=lS
  have lk:=lX (c:=c) (Yq:=(db (λv p=>bz U v p u.length (u.length+1)) bs u p r).take c) (f:=bo U bs u p r) (by rw[HD]; omega) (λi hi=>by rw[NA,HE hi]; exact kI hC.gp hC.gq ∅)
  show gR F hb hnl hC.gu hC.gp hC.gq ∅ e λS1 k1=>?_
  dsimp only[wN];show ab (show fE (.tup (db (λv p=>bz U v p u.length (u.length+1)) bs u p r)) td (gV (c:Hg)) S1=gV (.tup ((db (λv p=>bz U v p u.length (u.length+1)) bs u p r).take c),S1) by simp only[fE,cU]) ?_
  show hK _ _ ?_;clear hK K;generalize(db (λv p=>bz U v p u.length (u.length+1)) bs u p r).take c=Yq at lk
  clear bl;obtain⟨ni,lk⟩:=lk;nofun
  dsimp only[wS,wT,wE,wV,wG];show ab (o4 ni) ?_;dsimp only[wB]
 ·rcases lk with⟨h1,h2⟩|⟨i,hi,_,_,h4,_⟩
  ·rw[h1];show ae (Q0:=Q') (λ_ Q2 _ hr=>?_) (λz=>by cases z)
   show st ?_;dsimp only[wS,wE,wV,wG];exact hr _ _ (k _ _ (.inr #[(u,p,r),rfl,hC,h2,by change u.length<=c; omega]) (by rw[o5 h2]; rfl) k1)
  ·have:0 < rD U bs c u p r:=Mq (Ji.mpr #[Hu.mpr hi,by rw[h4]; rfl])
   omega
 ·rcases lk with⟨h1,h2⟩|⟨i,hi,h1,h3,h4,h5⟩
  ·rw[h1];show ae (Q0:=Q') (λ_ Q2 _ hr=>?_) (λz=>by cases z)
   show st ?_;dsimp only[wS,wE,wV,wG];exact hr _ _ (k _ _ (.inr #[(u,p,r),rfl,hC,h2,by change u.length<=c; omega]) (by rw[o5 h2]; rfl) k1)
  ·rw[h1];show ae (Q0:=Q') (λz=>by cases z) (λ_ Q2 hn _=>aP (hn _ _ (hK _ _ ?_)))
   clear hn hK K;nofun
   left;show#[rfl,zU ni h3 (hK _ _ ?_)];clear hK K;nofun
   show eM rfl rfl ?_;dsimp only[wE,wA,wV,wG];show qe (d:=d+m+1) X hml zl ha3 hb3 hC ∅ (k1.get _ _ e) λl S2 e2 hl2 k2=>?_
   have ho:=λ(x:Wd×Pt×Pt) (hx:x∈i9 U a bs.length u p r)=>zS (bs:=bs) hC hx
   have hns:(∀x∈i9 U a bs.length u p r,bo U bs x.1 x.2.1 x.2.2 i=true->fU a bs U c x.1 x.2.1 x.2.2)->fU a bs U c u p r:=CG hb cl hi h4;rw[wQ hi h4 h5]at k;generalize i9 U a bs.length u p r=L at e2 ho hns k;show#[l,L.map cW,λj Z S'=>(∃a6 a7,Z=[gV (.tup [.tup ms,.tup (He aD ns bs),b0]),gV (.ref q),gV (.tup [ak u,ag p,ag r]),gV (.int (c:Hg)),gV (.tup Yq),gV (.int (i:Hg)),a6,a7])/\(∀x∈L.take j,bo U bs x.1 x.2.1 x.2.2 i=true->fU a bs U c x.1 x.2.1 x.2.2/\eA U bs a c m x=td)/\S'[l]?=gV (.lst (L.map cW))/\Ka S S',rfl,#[#[_,_,rfl],(λx hx=>by cases hx),e2,k1.trans k2],λ_ _ _ h=>h.2.2.1,?_,?_]
   ·rintro j w Z S3 hw ⟨⟨a6,a7,rfl⟩,hno,e3,k3⟩;clear hK;rw[Hc,G6]at hw;obtain⟨x,hx,rfl⟩:=hw;obtain⟨xC,xl,xh⟩:=ho x (Hn hx);have more:(bo U bs x.1 x.2.1 x.2.2 i=true->fU a bs U c x.1 x.2.1 x.2.2/\eA U bs a c m x=td)->∀y∈L.take (j+1),bo U bs y.1 y.2.1 y.2.2 i=true->fU a bs U c y.1 y.2.1 y.2.2/\eA U bs a c m y=td:=λh y hy=>by
     rw[Ig,hx]at hy;rcases HI.mp hy with z|z
     ·exact hno y z
     ·obtain rfl:y=x:=by simpa using z
      exact h
    show ab (show fF (.nm 6) (cW x) [gV (.tup [.tup ms,.tup (He aD ns bs),b0]),gV (.ref q),gV (.tup [ak u,ag p,ag r]),gV (.int (c:Hg)),gV (.tup Yq),gV (.int (i:Hg)),a6,a7] S3=gV ([gV (.tup [.tup ms,.tup (He aD ns bs),b0]),gV (.ref q),gV (.tup [ak u,ag p,ag r]),gV (.int (c:Hg)),gV (.tup Yq),gV (.int (i:Hg)),gV (.tup [ak x.1,ag x.2.1,ag x.2.2]),a7],S3)from rfl) ?_
    intro Q3 hn3 hr3;nofun
    dsimp only[wS,wT,wE,wA,wV,wG];show ac #v[] rfl (ac #v[] rfl (ac #v[] rfl ?_))
    show gR (d:=d+m+2) F hb hnl xC.gu xC.gp xC.gq ∅ (k3.get _ _ e) λS4 k4=>?_
    obtain⟨w,w1,w2,w3⟩:=kI (bs:=bs) (i:=i) (U:=U) xC.gp xC.gq ∅
    show ac (Hf i) (by rw[Hr]; exact w1) (ab (wM w2) ?_)
    dsimp only[wB];rw[w3,NZ];show ae (Q0:=Q3) (λhh Q5 hn5 hr5=>?_) (λhh Q5 hn5 _=>aP (hn5 _ _ (hK _ _ (aP (hn3 _ _ #[#[_,_,rfl],more (λz=>by rw[z]at hh; cases hh),k4.get _ _ e3,k3.trans k4])))))
    show st ?_;left;show ih d _ _ x.1 x.2.1 x.2.2 xC ?_ ∅ ((k3.trans k4).get _ _ e) λw S5 hw hwe k5=>?_
    ·have:=zR (c:=c) hi xh h4 hh;unfold rD at hleft ⊢;omega
    show aM λK2 hK2=>?_
    dsimp only[wS,wT,wE,wV,wG];have hun:∀z,eA U bs a c m x=gV z->w=cW z:=λz hz=>by rw[hwe,hz]; rfl
    rcases hw with⟨rfl,hw⟩|⟨y,rfl,y1⟩
    ·show ab (show aJ .isnot .non .non S5=gV (.bl false,S5)from rfl) ?_
     dsimp only[wB];exact ae (Q0:=Q5) (λz=>by cases z) (λ_ Q6 hn6 _=>aP (hn6 _ _ (hK2 _ _ (aP (hn5 _ _ (hK _ _ (aP (hn3 _ _ #[#[_,_,rfl],more λ_=>#[hw,by cases hz:eA U bs a c m x with|none=>rfl|some z=>exact nomatch hun z hz],(k4.trans k5).get _ _ e3,(k3.trans k4).trans k5]))))))))
    ·show ab (show aJ .isnot (cW y) .non S5=gV (.bl true,S5)from rfl) ?_
     dsimp only[wB];show ae (Q0:=Q5) (λ_ Q6 _ hr6=>?_) (λz=>by cases z)
     show st ?_;dsimp only[wS,wE,wV,wG];exact hr6 _ _ (hr5 _ _ (hr3 _ _ (k _ _ (.inr #[y,rfl,y1]) (by
      rw[hwe];cases hz:eA U bs a c m x with
      | none=>rw[hz]at hwe; cases hwe
      | some z=>rw[zV hx (λy' hy'=>by cases hq:bo U bs y'.1 y'.2.1 y'.2.2 i with|true=>rw[HE rfl]; exact(hno y' hy' hq).2|false=>rfl) (by rw[hh,HE rfl]; exact hz)]) ((k3.trans k4).trans k5))))
   ·rintro Z S3 ⟨⟨a6,a7,rfl⟩,hno,e3,k3⟩;rw[G1,Il]at hno;show hK _ _ (st ?_);dsimp only[wS,wE];exact k _ _ (.inl #[rfl,hns λx hx hq=>(hno x hx hq).1]) (by rw[LF.mpr λy' hy'=>by cases hq:bo U bs y'.1 y'.2.1 y'.2.2 i with|true=>rw[HE rfl]; exact(hno y' hy' hq).2|false=>rfl]; rfl) k3
end
abbrev E5 (a:G9)(bs:G0 Hg)(U:G0 (T×W))(c:G9)(w:W):Prop:=(w=.non/\¬ Gy a bs U c)\/∃x:Wd×Pt×Pt,w=cW x/\Cf a bs.length U x.1 x.2.1 x.2.2/\Full U bs c x.1 x.2.1 x.2.2/\x.1.length<=c
abbrev E6 (a:G9)(bs:G0 Hg)(U:G0 (T×W))(c:G9)(w:W):Prop:=(w=.non/\∀i j:G9,i<=j->j < a->eA U bs a c c ([],((i:Hg),[]),((j:Hg),[]))=td)\/∃i j:G9,i<=j/\j < a/\(∃y,w=cW y/\eA U bs a c c ([],((i:Hg),[]),((j:Hg),[]))=gV y)/\∀i' j':G9,i'<=j'->j' < a->(i' < i\/(i'=i/\j' < j))->eA U bs a c c ([],((i':Hg),[]),((j':Hg),[]))=td
def rF {u v:Wd}(h:ak u=ak v):u=v:=by
 have:=congrArg W.t h;rw[vQ,vQ]at this;exact m6 (IH this)
def rG {p q:Pt}(h:ag p=ag q):p=q:=by
 have:ak [p]=ak [q]:=by
  change W.tup [ag p]=W.tup [ag q];rw[h]
 exact Qi (rF this) |>.1
def nr {x y:Wd×Pt×Pt}(h:cW x=cW y):x=y:=by
 obtain⟨u,p,q⟩:=x;obtain⟨u',p',q'⟩:=y;unfold cW at h;simp only[W.tup.injEq,Qb,and_true]at h;obtain⟨h1,h2,h3⟩:=h;rw[rF h1,rG h2,rG h3]
def CH {a n i j:G9}{U:G0 (T×W)}(hi:i < a)(hj:j < a):Cf a n U [] ((i:Hg),[]) ((j:Hg),[]):=
 #[.nil,λk hk=>(by cases hk),#[#[Hf _,by show(i:Hg) < a; omega],rfl,λw hw=>nomatch hw],rfl,#[#[Hf _,by show(j:Hg) < a; omega],rfl,λw hw=>nomatch hw],rfl]
section
variable{defs:G0 (Hs×Df)}{fuel d:G9}{S:aa}{Q:QW}
structure Unl (defs:G0 (Hs×Df)):Prop where
 fil:Fil defs
 sea:Sea defs
 behind:Is defs ("unfilled_behind" : Hs) 4 8 bB
 first:Is defs ("first_unfilled" : Hs) 2 6 ce
def ja (hfu:20 < fuel)(L:Unl defs){ms:G0 W}{ns:G0 Hs}{bs:G0 Hg}{a c:G9}{gs:G0 Wd}(hb:GoodB bs)(hnl:ns.length=bs.length)(hml:ms.length=a)(ha3:a<=3)(hgs:∀g∈gs,GoodW a bs.length g/\g.length=3)(h64:gs.length<=100)(hc:bs.length<=c)(hc1:c<=bs.length+1)
  (k:∀w U S',HasD U (bJ bs gs)->E5 a bs U c w->E6 a bs U c w->Ka S S'->Q (w,S')) :
  wO (aF (am defs fuel (d+c+6)) "first_unfilled" 2 [.tup [.tup ms,.tup (He aD ns bs),.tup (gs.map ak)],.int (c:Hg)] S) Q:=by
 show aq L.first rfl rfl λQ' hR=>?_
 replace k:∀w U S',HasD U (bJ bs gs)->E5 a bs U c w->E6 a bs U c w->Ka S S'->Q' (.rt w,S'):=λw x S' h1 h2 h3 h4=>hR _ _ (k w x S' h1 h2 h3 h4)
 clear hR;change wZ _ _ ce [gV (.tup [.tup ms,.tup (He aD ns bs),.tup (gs.map ak)]),gV (.int (c:Hg)),td,td,td,td] S Q';dsimp only[ce];nofun
 left;show kq (d:=d+c+1) hfu L.fil.parts L.fil.part L.fil.longer L.fil.barred hb hnl hgs h64 λq U S1 e1 h1 _ k1=>hK _ _ ?_
 clear hK K;have cl:=EH hb hgs h1;have hk:∀w S',E5 a bs U c w->E6 a bs U c w->Ka S S'->Q' (.rt w,S'):=λw S'=>k w U S' h1
 have un:∀(i j:G9) (S:aa) (Q:QW),i < a->j < a->S[q]?=gV (.dic U)->(∀w S',Gz a bs U c [] ((i:Hg),[]) ((j:Hg),[]) w->w=EJ (eA U bs a c c ([],((i:Hg),[]),((j:Hg),[])))->Ka S S'->Q (w,S'))->wO (aF (am defs fuel (d+c+5)) "unfilled_behind" 4 [.tup [.tup ms,.tup (He aD ns bs),.tup (gs.map ak)],.ref q,.tup [.tup [],.tup [.int i,.tup []],.tup [.int j,.tup []]],.int (c:Hg)] S) Q:=λi j S Q hi hj e h=>qf L.fil L.sea L.behind hb hnl hml ha3 cl hc1 c d S Q [] ((i:Hg),[]) ((j:Hg),[]) (CH hi hj) (by
  unfold rD;exact HK (Jg _ _) (by rw[HG]; exact Hj _)) (by simp) e h
 have la:∀(S:aa) (Q:QW),Q (.int (a:Hg),S)->wO (g8 (.tup [.tup ms,.tup (He aD ns bs),.tup (gs.map ak)]) (.int 0) S) λp=>wO (Bi.len.fn [p.1] p.2) Q:=λS Q q=>by
  show ac #v[] rfl (aC ?_)
  rw[hml]; exact q
 clear k;generalize W.tup [.tup ms,.tup (He aD ns bs),.tup (gs.map ak)]=R at un la;nofun
 show bD (a:Hg) (λi Z S'=>(∃a3 a4 a5,Z=[gV R,gV (.int (c:Hg)),gV (.ref q),a3,a4,a5])/\(∀i' j',i' < i->i'<=j'->j' < a->fU a bs U c [] ((i':Hg),[]) ((j':Hg),[])/\eA U bs a c c ([],((i':Hg),[]),((j':Hg),[]))=td)/\S'[q]?=gV (.dic U)/\Ka S S') rfl rfl ∅ ?_ ?_ ?_
 ·dsimp only[wE,wA,wV,wG];exact la _ _ #[rfl,#[_,_,_,rfl],(λi' j' h=>∅),e1,k1]
 ·rintro i Z S2 hi ⟨⟨a3,a4,a5,rfl⟩,hno,e2,k2⟩ Q2 hn2 hr2;clear hK;have hia:i < a:=∅
  dsimp only[Hh];nofun
  show cr (i:Hg) (a:Hg) (λm Z S'=>(∃a4 a5,Z=[gV R,gV (.int (c:Hg)),gV (.ref q),gV (.int i),a4,a5])/\(∀j',i<=j'->j' < i+m->fU a bs U c [] ((i:Hg),[]) ((j':Hg),[])/\eA U bs a c c ([],((i:Hg),[]),((j':Hg),[]))=td)/\S'[q]?=gV (.dic U)/\Ka S S') rfl rfl rfl ∅ ?_ ?_ ?_
  ·dsimp only[wE,wA,wV,wG];exact#[rfl,la _ _ #[rfl,#[_,_,rfl],(λj' h1 h2=>∅),e2,k2]]
  ·rintro m Z S3 hm ⟨⟨a4,a5,rfl⟩,hno3,e3,k3⟩ Q3 hn3 hr3;clear hK;rw[show(i:Hg)+m=((i+m:G9):Hg) by omega]
   have hja:i+m < a:=∅
   generalize hj:i+m=j at hja;dsimp only[Hh];show st ?_;left;show un i j _ _ hia hja e3 λw S4 hw hwe k4=>?_
   nofun
   dsimp only[wS,wT,wE,wV,wG];rcases hw with⟨rfl,hw⟩|⟨y,rfl,y1⟩
   ·show ab (show aJ .isnot .non .non S4=gV (.bl false,S4)from rfl) ?_
    dsimp only[wB];show ae (Q0:=Q3) (λz=>by cases z) (λ_ Q6 hn6 _=>aP (hn6 _ _ (hK _ _ (aP (hn3 _ _ #[#[_,_,rfl],λj' h1 h2=>?_,k4.get _ _ e3,k3.trans k4])))))
    by_cases ej:j'=j
    ·rw[ej];show#[hw,?_];cases hz:eA U bs a c c ([],((i:Hg),[]),((j:Hg),[]))with
     | none=>rfl
     | some z=>rw[hz]at hwe; cases hwe
    ·exact hno3 j' h1 ∅
   ·show ab (show aJ .isnot (cW y) .non S4=gV (.bl true,S4)from rfl) ?_
    dsimp only[wB];show ae (Q0:=Q3) (λ_ Q6 _ hr6=>?_) (λz=>by cases z)
    show st ?_;dsimp only[wS,wE,wV,wG];exact hr6 _ _ (hr3 _ _ (hr2 _ _ (hk _ _ (.inr #[y,rfl,y1]) (.inr #[i,j,∅,hja,#[y,rfl,by
     cases hz:eA U bs a c c ([],((i:Hg),[]),((j:Hg),[]))with
     | none=>rw[hz]at hwe; cases hwe
     | some z=>rw[hz]at hwe; rw[nr hwe]],λi' j' h1 h2 h3=>by
     rcases h3 with h3|⟨rfl,h3⟩
     ·exact(hno i' j' h3 h1 h2).2
     ·exact(hno3 j' h1 ∅).2]) (k3.trans k4))))
  ·rintro Z S3 ⟨⟨a4,a5,rfl⟩,hno3,e3,k3⟩;show hK _ _ (aP (hn2 _ _ #[#[_,_,_,rfl],λi' j' h1 h2 h3=>?_,e3,k3]))
   by_cases ei:i'=i
   ·subst ei;exact hno3 j' h2 ∅
   ·exact hno i' j' ∅ h2 h3
 ·rintro Z S2 ⟨⟨a3,a4,a5,rfl⟩,hno,e2,k2⟩;show hK _ _ (st ?_);dsimp only[wS,wE];show hk _ _ (.inl #[rfl,EI hb cl hc λi j h1 h2 h3=>(hno i j ∅ h2 h3).1]) (.inl #[rfl,λi j h1 h2=>(hno i j ∅ h1 h2).2]) k2
def wR (hfu:20 < fuel)(L:Unl defs)(hpo:Is defs ("put_on" : Hs) 1 1 fW){ms:G0 W}{ns:G0 Hs}{bs:G0 Hg}{a:G9}{gs:G0 Wd}(hb:GoodB bs)(hnl:ns.length=bs.length)(hml:ms.length=a)(ha3:a<=3)(hgs:∀g∈gs,GoodW a bs.length g/\g.length=3)(h64:gs.length<=100)
  (k:∀w U S',HasD U (bJ bs gs)->E5 a bs U bs.length w->E6 a bs U bs.length w->Ka S S'->Q (w,S')) :
  wO (aF (am defs fuel (d+11)) "put_on" 1 [.tup [.tup ms,.tup (He aD ns bs),.tup (gs.map ak)]] S) Q:=by
 show aq hpo rfl rfl λQ' hR=>?_
 change wZ _ _ fW [gV (.tup [.tup ms,.tup (He aD ns bs),.tup (gs.map ak)])] S Q';have hb3:bs.length<=3:=by rcases hb with rfl|rfl|rfl|rfl|rfl|rfl <;> decide
 dsimp only[fW];show st ?_;left;show ac #v[] rfl (aC ?_)
 rw[IT,hnl,JM,show d+10=(d+4 - bs.length)+bs.length+6 by omega]
 exact ja hfu L hb hnl hml ha3 hgs h64 ∅ ∅ λw U S' h1 h2 h3 h4=>hR _ _ (k w U S' h1 h2 h3 h4)
end
abbrev fg:Ss:=
 #v[.ret (.and (.isi "int" (.v 0)) (.not (.isi "bool" (.v 0))))]
abbrev dq:Ss:=
 #v[.ret (.and (.isi "tuple" (.v 0)) (.cmp .eq (.bi .len #v[.v 0]) (.v 1)))]
abbrev dM:Ss:=
 #v[.ret (.and (.own "is_tuple_of" 2 #v[.v 0,.v 1]) (.bi .all #v[.comp (.own "is_whole" 1 #v[.v 1]) (.nm 1) (.seq (.v 0)) .nil [td,td]]))]
abbrev fj:Ss:=
 #v[.ret (.and (.isi "tuple" (.v 1)) (.bi .all #v[.comp (.own "is_point" 3 #v[.v 3,.v 2,.v 1]) (.tp [1,2]) (.enu #v[.v 1]) .nil [td,td,td,gV 0]]))]
abbrev fm:Ss:=
 #v[.ite (.not (.own "has_point_form" 2 #v[.v 1,.v 2])) #v[.ret (.c (.bl false))] .nil,.set 3 (.chn .le .lt (.c (.int 0)) (.ix (.v 1) (.c (.int 0))) (.bi .len #v[.ix (.v 0) (.c (.int 0))])),.ret (.and (.v 3) (.bi .all #v[.comp (.chn .le .lt (.c (.int 0)) (.v 1) (.bi .len #v[.ix (.v 2) (.c (.int 1))])) (.nm 1) (.seq (.ix (.v 1) (.c (.int 1)))) .nil [td,td,gV 0]]))]
abbrev cf:Ss:=
 #v[.ret (.and (.own "is_tuple_of" 2 #v[.v 0,.c (.int 2)]) (.and (.own "is_whole" 1 #v[.ix (.v 0) (.c (.int 0))]) (.own "is_numbers" 2 #v[.ix (.v 0) (.c (.int 1)),.v 1])))]
abbrev bN:Ss:=
 #v[.ite (.or (.not (.own "is_tuple_of" 2 #v[.v 1,.c (.int 3)])) (.not (.own "is_world" 2 #v[.v 0,.ix (.v 1) (.c (.int 0))]))) #v[.ret (.c (.bl false))] .nil,.ite (.not (.bi .all #v[.comp (.own "is_point" 3 #v[.v 2,.v 1,.bi .len #v[.ix (.v 3) (.c (.int 0))]]) (.nm 1) (.seq (.sl (.v 1) (.yes (.c (.int 1))) .no)) .nil [td,td,gV 0,gV 1]])) #v[.ret (.c (.bl false))] .nil,.ret (.bi .all #v[.comp (.cmp .is (.own "first_barred" 2 #v[.v 2,.op .add (.ix (.v 3) (.c (.int 0))) (.tup #v[.v 1])]) (.c .non)) (.nm 1) (.seq (.sl (.v 1) (.yes (.c (.int 1))) .no)) .nil [td,td,gV 0,gV 1]])]
section
variable{defs:G0 (Hs×Df)}{fuel d:G9}{S:aa}{Q:QW}
structure Knd (defs:G0 (Hs×Df)):Prop where
 whole:Is defs ("is_whole" : Hs) 1 1 fg
 tup:Is defs ("is_tuple_of" : Hs) 2 2 dq
 nums:Is defs ("is_numbers" : Hs) 2 2 dM
 world:Is defs ("is_world" : Hs) 2 2 fj
 point:Is defs ("is_point" : Hs) 3 4 fm
 form:Is defs ("has_point_form" : Hs) 2 2 cf
def GoodW.pt {a n k:G9}{u:Wd}{p:Pt}(h:GoodW a n u)(hp:u[k]?=gV p):GoodP a n k p:=#[h.mark k p hp,h.len k p hp,h.way k p hp]
end
inductive Thg (S:aa):W->Prop
 | non:Thg S .non
 | bl {b:HA}:Thg S (.bl b)
 | int {i:Hg}:Thg S (.int i)
 | str {x:Hs}:Thg S (.str x)
 | tup {xs:G0 W} (h:∀x∈xs,Thg S x) (hl:xs.length<=100):Thg S (.tup xs)
 | lst {l:G9} (h:∃xs,S[l]?=gV (O.lst xs)):Thg S (.ref l)
def Thg.mono {S S':aa}{w:W}(h:Thg S w)(k:∀l:G9,(∃xs,S[l]?=gV (O.lst xs))->∃xs,S'[l]?=gV (O.lst xs)):Thg S' w:=by
 induction h with
 | non=>exact .non
 | bl=>exact .bl
 | int=>exact .int
 | str=>exact .str
 | tup h hl ih=>exact .tup ih hl
 | lst h=>exact .lst (k _ h)
def Thg.ka {S S':aa}{w:W}(h:Thg S w)(k:Ka S S'):Thg S' w:=h.mono λ_ #[xs,e]=>#[xs,k.get _ _ e]
def Thg.kp {S S':aa}{w:W}{r:G9}(h:Thg S w)(k:Kp r S S')(f:Fl S' r):Thg S' w:=h.mono λl #[xs,e]=>by
 by_cases z:l=r
 ·subst z;obtain⟨_,_,_,_,_,_,f⟩:=f;exact#[_,f.at_r]
 ·exact#[xs,k.get _ _ z e]
def Thg.pt {S:aa}{p:Pt}(h:p.2.length<=100):Thg S (ag p):=.tup (λx hx=>by
 rcases HF.mp hx with rfl|hx
 ·exact .int
 ·cases Hk.mp hx;show .tup (λy hy=>?_) (by rw[G1]; exact h)
  obtain⟨i,_,rfl⟩:=Hz.mp hy;exact .int) (HU rfl)
abbrev Gk:W->HA|.tup _=>true|_=>false
abbrev tF:W->HA|.int _=>true|_=>false
abbrev EK:W->HA|.bl _=>true|_=>false
def nu {S:aa}{l:G9}{c:IN}(h:∃xs,S[l]?=gV (.lst xs))(hc:on.contains c=true):sF S (.ref l) c=gV ("list" == c||("list" == "bool" && c == "int")):=by
 obtain⟨xs,e⟩:=h;have e2:E2 S (.ref l)=gV "list":=by simp only[E2,aG e]
 unfold sF;rw[e2];exact HE hc
def Thg.t {S:aa}{w:W}(h:Thg S w):sF S w "tuple" = gV (Gk w):=by
 cases h with
 | lst h=>exact nu h rfl
 | _=>rfl
def Thg.n {S:aa}{w:W}(h:Thg S w):sF S w "int" = gV (tF w||EK w):=by
 cases h with
 | lst h=>exact nu h rfl
 | _=>rfl
def Thg.b {S:aa}{w:W}(h:Thg S w):sF S w "bool" = gV (EK w):=by
 cases h with
 | lst h=>exact nu h rfl
 | _=>rfl
abbrev iC (p:Prop):HA:=@decide p (KY p)
def cy {p:Prop}:iC p=true↔p:=@decide_eq_true_iff p (KY p)
def fX {p:Prop}(h:p):iC p=true:=cy.mpr h
def rH {p:Prop}(h:¬ p):iC p=false:=Jt.mpr λz=>h (cy.mp z)
def nv {p:Prop}{b:HA}(h:b=true↔p):iC p=b:=by
 cases b
 ·exact rH λz=>Ht (h.mpr z)
 ·exact fX (h.mp rfl)
def qg (L:G0 HA):gI (L.map W.bl)=gV L:=by
 induction L with
 | nil=>rfl
 | cons b L ih=>rw[IK]; dsimp only[gI]; rw[ih]; rfl
def kJ {S:aa}{l:G9}{L:G0 HA}{Q:QW}(h:S[l]?=gV (.lst (L.map W.bl)))(q:Q (.bl (L.all id),S)):wO (Bi.all.fn [.ref l] S) Q:=by
 show ab ?_ q;simp only[Bi.fn,BA,aG h,qg,HR]
abbrev wW (n:G9):W->HA|.tup xs=>xs.length==n|_=>false
def rJ:∀ {ws:G0 W},ws.all tF=true->∃zs:G0 Hg,ws=zs.map W.int
 | [],_=>#[[],rfl]
 | w::ws,h=>by
  rw[HW,G8]at h;obtain⟨zs,rfl⟩:=rJ h.2;cases w with
  | int i=>exact#[i::zs,rfl]
  | _=>cases h.1
def wX {zs:G0 Hg}:(zs.map W.int).all tF=true:=HC.mpr λx hx=>by
 obtain⟨i,_,rfl⟩:=Hz.mp hx; rfl
def jb {p q:Pt}(h:ag p=ag q):p=q:=by
 unfold ag at h;injection h with h
 injection h with h1 h2
 injection h1 with h1
 injection h2 with h2 _
 injection h2 with h2
 have:p.2=q.2:=(KU λx y z=>by injection z).mp h2
 exact OE h1 this
def AC {S:aa}{x:Hg}{n:G9}{Q:QW}{F:QW->Prop}(hF:∀Q:QW,Q (.int (n:Hg),S)->F Q)(k:Q (.bl (decide (0<=x)&&decide (x < (n:Hg))),S)):wO (r9 .le (.int 0) (.int x) S) λb=>(b=true->F λr=>wO (dF .lt (.int x) r.1 r.2) Q)/\(b=false->Q (.bl false,S)):=by
 show ab (show r9 .le (.int 0) (.int x) S=gV (decide (0<=x))from rfl) #[λz=>hF _ (ab (show dF .lt (.int x) (.int (n:Hg)) S=gV (.bl (decide (x < (n:Hg))),S)from rfl) ?_),λz=>?_]
 ·rw[z,KN]at k; exact k
 ·rw[z,MK]at k; exact k
section
variable{defs:G0 (Hs×Df)}{fuel d:G9}{S:aa}{Q:QW}
def rK (X:Knd defs){w:W}(h:Thg S w)(k:Q (.bl (tF w),S)):wO (aF (am defs fuel (d+1)) "is_whole" 1 [w] S) Q:=by
 show aq X.whole rfl rfl λQ' hR=>?_
 replace k:=hR _ _ k;change wZ _ _ fg [gV w] S Q';dsimp only[fg];show st ?_;dsimp only[wS,wE,wV,wG];show ab h.n #[λz=>ab h.b ?_,λz=>?_]
 ·cases w <;> first|exact k|cases z
 ·cases w <;> first|exact k|cases z
def wY (X:Knd defs){w:W}{n:G9}(h:Thg S w)(k:Q (.bl (wW n w),S)):wO (aF (am defs fuel (d+1)) "is_tuple_of" 2 [w,.int (n:Hg)] S) Q:=by
 show aq X.tup rfl rfl λQ' hR=>?_
 replace k:=hR _ _ k;change wZ _ _ dq [gV w,gV (.int (n:Hg))] S Q';dsimp only[dq];show st ?_;left;show ab h.t #[λz=>?_,λz=>?_]
 ·cases w with
  | tup xs=>
   show aC (ab ie ?_);have e:((xs.length:Hg)==(n:Hg))=(xs.length==n):=by rw[JI,NB,NB]; omega
   rw[e]; exact k
  | _=>cases z
 ·cases w <;> first|exact k|cases z
def CI (X:Knd defs){w:W}{n:G9}(h:Thg S w)(k:∀S',Ka S S'->Q (.bl (iC (∃zs:G0 Hg,w=.tup (zs.map W.int)/\zs.length=n)),S')):wO (aF (am defs fuel (d+2)) "is_numbers" 2 [w,.int (n:Hg)] S) Q:=by
 show aq X.nums rfl rfl λQ' hR=>?_
 replace k:∀(b:HA) S',(b=true↔∃zs:G0 Hg,w=.tup (zs.map W.int)/\zs.length=n)->Ka S S'->Q' (.rt (.bl b),S'):=λb S' e a=>by rw[<- nv e]; exact hR _ _ (k S' a)
 clear hR;change wZ _ _ dM [gV w,gV (.int (n:Hg))] S Q';dsimp only[dM];show st ?_;left;show wY (d:=d) X h #[λz=>?_,λz=>?_]
 ·cases h with
  | tup hx hl=>
   rename_i xs;show i4 xs id (λ_=>true) (λx=>.bl (tF x)) [] rfl rfl rfl rfl ∅ #[by rw[Op],.refl] (λx hx' S2 k2=>?_) λS2 k2=>?_
   ·dsimp only[fA,wC,wE,wA,wV,wG];exact#[λ_=>rK (d:=d) X ((hx x hx').ka k2) #[rfl,rfl,.refl],λz=>by cases z]
   ·rw[bP];show kJ (L:=xs.map tF) (by rw[IX]; exact aj) (k _ _ ?_ (k2.trans .push))
    rw[K7];constructor
    ·intro a;obtain⟨zs,rfl⟩:=rJ a;exact#[zs,rfl,by simpa [wW]using z]
    ·rintro⟨zs,e,_⟩;cases e;exact wX
  | _=>cases z
 ·show k _ S #[λy=>(by cases y),?_] .refl
  rintro⟨zs,rfl,e⟩;simp[wW,e]at z
def CJ (X:Knd defs){w:W}{n:G9}(h:Thg S w)(k:∀S',Ka S S'->Q (.bl (iC (∃p:Pt,w=ag p/\p.2.length=n)),S')):wO (aF (am defs fuel (d+3)) "has_point_form" 2 [w,.int (n:Hg)] S) Q:=by
 show aq X.form rfl rfl λQ' hR=>?_
 replace k:∀(b:HA) S',(b=true↔∃p:Pt,w=ag p/\p.2.length=n)->Ka S S'->Q' (.rt (.bl b),S'):=λb S' e a=>by rw[<- nv e]; exact hR _ _ (k S' a)
 clear hR;change wZ _ _ cf [gV w,gV (.int (n:Hg))] S Q';dsimp only[cf];show st ?_;left;show wY (d:=d+1) (n:=2) X h #[λz=>?_,λz=>?_]
 ·cases h with
  | tup hx hl=>
   rename_i xs
   match xs,z with
   | [m,t],_=>
    show ac #v[] rfl (rK (d:=d+1) X (hx m Ic) #[λz=>?_,λz=>?_])
    ·show ac #v[] rfl (CI (d:=d) X (hx t (HN _ Ic)) λS' a=>k _ S' ?_ a)
     rw[cy];cases m with
     | int i=>
      constructor
      ·rintro⟨zs,rfl,e⟩;exact#[(i,zs),rfl,e]
      ·rintro⟨p,e,e2⟩;cases e;exact#[p.2,rfl,e2]
     | _=>cases z
    ·show k _ S #[λy=>(by cases y),λ#[p,e,_]=>?_] .refl
     cases e;cases z
  | _=>cases z
 ·show k _ S #[λy=>(by cases y),λ#[p,e,_]=>?_] .refl
  subst e;cases z
def rL (X:Knd defs){Mqa N:G0 W}{b0 w:W}{a n s:G9}(hM:Mqa.length=a)(hN:N.length=n)(h:Thg S w)(k:∀S',Ka S S'->Q (.bl (iC (∃p,w=ag p/\GoodP a n s p)),S')):wO (aF (am defs fuel (d+4)) "is_point" 3 [.tup [.tup Mqa,.tup N,b0],w,.int (s:Hg)] S) Q:=by
 show aq X.point rfl rfl λQ' hR=>?_
 replace k:∀(b:HA) S',(b=true↔∃p,w=ag p/\GoodP a n s p)->Ka S S'->Q' (.rt (.bl b),S'):=λb S' e a=>by rw[<- nv e]; exact hR _ _ (k S' a)
 clear hR;change wZ _ _ fm [gV (.tup [.tup Mqa,.tup N,b0]),gV w,gV (.int (s:Hg)),td] S Q';dsimp only[fm];nofun
 dsimp only[wS,wT,wE,wA,wV,wG];show CJ (d:=d) X h λS1 k1=>?_
 show ab (show dc S1 (.bl (iC _))=gV (iC _)from rfl) ?_
 show ae (Q0:=Q') (λz Q2 _ hr=>st ?_) (λz Q2 hn _=>aP (hn _ _ (hK _ _ ?_)))
 ·dsimp only[wS,wE];show hr _ _ (k _ S1 #[λy=>(by cases y),λ#[p,e,g]=>?_] k1)
  rw[fX #[p,e,g.len]]at z;cases z
 clear hn hK K;obtain⟨p,hl⟩:=cy.mp (show iC (∃p:Pt,w=ag p/\p.2.length=s)=true by simpa using z)
 obtain⟨rfl,hl⟩:=hl;have hp1:p.2.length<=100:=by
  cases h with
  | tup hx _=>
   have:=hx (.tup (p.2.map W.int)) (HN _ Ic);cases this with
   | tup _ hl=>rw[G1]at hl; exact hl
 clear z h;have l0:∀(S:aa) (Q:QW),Q (.int (a:Hg),S)->wO (g8 (.tup [.tup Mqa,.tup N,b0]) (.int 0) S) λp=>wO (Bi.len.fn [p.1] p.2) Q:=λS Q q=>by
  show ac #v[] rfl (aC ?_)
  rw[hM]; exact q
 have l1:∀(S:aa) (Q:QW),Q (.int (n:Hg),S)->wO (g8 (.tup [.tup Mqa,.tup N,b0]) (.int 1) S) λp=>wO (Bi.len.fn [p.1] p.2) Q:=λS Q q=>by
  show ac #v[] rfl (aC ?_)
  rw[hN]; exact q
 generalize W.tup [.tup Mqa,.tup N,b0]=R at l0 l1;show st ?_;dsimp only[wS,wE,wA,wV,wG,Hh,ag];show ac #v[] rfl ?_
 show AC (F:=λQ=>wO (g8 R (.int 0) S1) λp=>wO (Bi.len.fn [p.1] p.2) Q) (l0 S1) ?_
 show st ?_;left;show#[λz=>?_,λz=>k _ S1 #[λy=>(by cases y),λ#[p',e,g]=>?_] k1]
 ·show i4 p.2 W.int (λ_=>true) (λx=>.bl (decide (0<=x)&&decide (x < (n:Hg)))) [gV R] rfl rfl rfl rfl ∅ ?_ (λx hx S2 k2=>?_) λS2 k2=>?_
  ·dsimp only[wE,wV,wG];exact ac #v[] rfl #[rfl,.refl]
  ·dsimp only[fA,wC,wE,wA,wV,wG];exact#[λ_=>AC (F:=λQ=>wO (g8 R (.int 1) S2) λp=>wO (Bi.len.fn [p.1] p.2) Q) (l1 S2) #[rfl,rfl,.refl],λz=>by cases z]
  ·rw[bP];show kJ (L:=p.2.map λx=>decide (0<=x)&&decide (x < (n:Hg))) (by rw[IX]; exact aj) (k _ _ #[λy=>#[p,rfl,?_,hl,λx hx=>?_],λ#[p',e,g]=>?_] (k1.trans (k2.trans .push)))
   ·simpa using z
   ·rw[K7]at y;have:=HC.mp y x hx
    simpa using this
   ·cases jb e;rw[K7,HC];intro x hx
    simpa using g.way x hx
 ·cases jb e;have:=g.mark;rw[Kt]at z;rcases z with z|z
  ·exact absurd this.1 (JR z)
  ·exact absurd this.2 (JR z)
abbrev unI:W->Hg|.int i=>i|_=>0
abbrev EM:W->Pt|.tup [m,.tup ws]=>(unI m,ws.map unI)|_=>(0,[])
def w8 (p:Pt):EM (ag p)=p:=by
 show(p.1,(p.2.map W.int).map unI)=p;rw[IX,show unI∘W.int=id from rfl,Op]
def xf {xs:G0 W}{a n:G9}:(∀j < xs.length,∃p,xs[j]?=gV (ag p)/\GoodP a n j p)↔∃u,W.tup xs=ak u/\GoodW a n u:=by
 constructor
 ·intro h;show#[xs.map EM,?_,?_]
  ·change W.tup xs=.tup ((xs.map EM).map ag);rw[IX];congr 1;show La λj=>?_
   rw[Hc]
   by_cases hj:j < xs.length
   ·obtain⟨p,e,_⟩:=h j hj;rw[e,HR];change _=gV (ag (EM (ag p)));rw[w8]
   ·rw[JU ∅]; rfl
  ·have key:∀(k:G9) (q:Pt),(xs.map EM)[k]?=gV q->GoodP a n k q:=λk q e=>by
    rw[Hc,G6]at e;obtain⟨x,hx,rfl⟩:=e;obtain⟨p,e,g⟩:=h k (Hm.mp hx).1;rw[hx]at e;cases e;rw[w8]; exact g
   exact#[λk q e=>(key k q e).mark,λk q e=>(key k q e).len,λk q e=>(key k q e).way]
 ·rintro⟨u,e,g⟩ j hj;cases e;rw[G1]at hj;exact#[u[j],by rw[Hc,Hi hj]; rfl,g.pt (Hi hj)]
def zW (X:Knd defs){Mqa N:G0 W}{b0 w:W}{a n:G9}(hM:Mqa.length=a)(hN:N.length=n)(h:Thg S w)(k:∀S',Ka S S'->Q (.bl (iC (∃u,w=ak u/\GoodW a n u)),S')):wO (aF (am defs fuel (d+5)) "is_world" 2 [.tup [.tup Mqa,.tup N,b0],w] S) Q:=by
 show aq X.world rfl rfl λQ' hR=>?_
 replace k:∀(b:HA) S',(b=true↔∃u,w=ak u/\GoodW a n u)->Ka S S'->Q' (.rt (.bl b),S'):=λb S' e a=>by rw[<- nv e]; exact hR _ _ (k S' a)
 clear hR;change wZ _ _ fj [gV (.tup [.tup Mqa,.tup N,b0]),gV w] S Q';dsimp only[fj];show st ?_;left;show ab h.t #[λz=>?_,λz=>k _ S #[λy=>(by cases y),λ#[u,e,_]=>by subst e; cases z] .refl]
 cases h with
 | tup hx hl=>
  rename_i xs;show rh xs (λi ys Z2 S2=>(∃a1 a2,Z2=[td,a1,a2,gV (.tup [.tup Mqa,.tup N,b0])])/\ys=((Ho i).map λj=>iC (∃p,xs[j]?=gV (ag p)/\GoodP a n j p)).map W.bl/\Ka S S2) rfl rfl rfl #[rfl,#[_,_,rfl],rfl,.refl] ?_ ?_
  ·rintro i x ys Z2 S2 hx' ⟨⟨a1,a2,rfl⟩,rfl,k2⟩;show ab (show fF (.tp [1,2]) (.tup [.int i,x]) [td,a1,a2,gV (.tup [.tup Mqa,.tup N,b0])] S2=gV ([td,gV (.int i),gV x,gV (.tup [.tup Mqa,.tup N,b0])],S2)from rfl) ?_
   dsimp only[fA,wC,wE,wA,wV,wG];show#[λ_=>rL (d:=d) (s:=i) X hM hN ((hx x (Hn hx')).ka k2) λS3 k3=>#[#[_,_,rfl],?_,k2.trans k3],λz=>by cases z]
   rw[Jd,Hy,Hy];congr 1;show[W.bl _]=[W.bl (iC (∃p,xs[i]?=gV (ag p)/\GoodP a n i p))];rw[hx'];congr 3;exact propext #[λ#[p,e,g]=>#[p,by rw[e],g],λ#[p,e,g]=>#[p,by cases e; rfl,g]]
  ·rintro ys Z2 S2 ⟨_,rfl,k2⟩;show#[kU (by rw[G1,G1,HG]; omega),kJ aj (k _ _ ?_ (k2.trans .push))]
   rw[<- xf,K7,HC];exact#[λy j hj=>cy.mp (y j (Hu.mpr hj)),λy j hj=>fX (y j (Hu.mp hj))]
 | _=>cases z
end
abbrev dy:Ss:=
 #v[.ret (.and (.own "is_base_with_two" 2 #v[.v 0,.v 1]) (.cmp .notin (.c .non) (.sl (.own "barred_by" 4 #v[.v 0,.ix (.v 1) (.c (.int 0)),.ix (.v 1) (.c (.int 1)),.ix (.v 1) (.c (.int 2))]) .no (.yes (.neg (.c (.int 1)))))))]
section
variable{defs:G0 (Hs×Df)}{fuel d:G9}{S:aa}{Q:QW}
structure Bwt (defs:G0 (Hs×Df)):Prop where
 knd:Knd defs
 ft:Is defs ("first_three" : Hs) 2 5 bR
 fb:Is defs ("first_barred" : Hs) 2 2 b7
 by':Is defs ("barred_by" : Hs) 4 4 dv
 bwt:Is defs ("is_base_with_two" : Hs) 2 2 bN
def CK {U:G0 (T×W)}{bs:G0 Hg}{gs:G0 Wd}{u:Wd}{p q:Pt}(h:HasD U (bJ bs gs)):db (PB ((bJ bs gs).map dB) u.length) bs u p q=db (λv p=>bz U v p u.length (u.length+1)) bs u p q:=by
 have:PB ((bJ bs gs).map dB) u.length=λv p=>bz U v p u.length (u.length+1):=funext λv=>funext λp=>(h.get _).symm
 rw[this]
end
abbrev di:Ss:=
 #v[.ret (.op .add (.v 1) (.tup #v[.v 2,.tup #v[.ix (.v 3) (.c (.int 0)),.op .add (.ix (.v 3) (.c (.int 1))) (.tup #v[.ix (.ix (.ix (.v 0) (.c (.int 1))) (.v 4)) (.c (.int 1))])]]))]
section
variable{defs:G0 (Hs×Df)}{fuel d:G9}{S:aa}{Q:QW}
def qh (hg:Is defs ("_law_both" : Hs) 5 5 di){m0 b0:W}{ns:G0 Hs}{bs:G0 Hg}{u:Wd}{one other:Pt}{n:G9}(hnl:ns.length=bs.length)(hn:n < bs.length)(hu:u.length<=900)(ho:other.2.length<=900)(k:Q (ak (cK bs u one other n),S)) :
  wO (aF (am defs fuel (d+1)) "_law_both" 5 [.tup [m0,.tup (He aD ns bs),b0],ak u,ag one,ag other,.int n] S) Q:=by
 show aq hg rfl rfl λQ' hR=>?_
 replace k:=hR _ _ k;change wZ _ _ di [gV (.tup [m0,.tup (He aD ns bs),b0]),gV (ak u),gV (ag one),gV (ag other),gV (.int n)] S Q';have hb:=ar (d:=0) hn;dsimp only[di];show st ?_;left;show ac #v[] rfl (ac #v[] rfl ?_)
 show ac #v[] rfl (ac (Hf n) (by rw[Hr]; exact kj (Hi ∅) hb) (ac #v[] rfl ?_))
 show ab (aQ (cL ?_)) ?_
 ·rw[G3,G1]; show _+1<=_; omega
 dsimp only;have ev:u.map ag++[ag one,.tup [.int other.1,.tup (other.2.map W.int++[.int (bs.getD n 0)])]]=(cK bs u one other n).map ag:=by
  unfold cK;simp[ag]
 unfold ak at k ⊢;show ab (aQ (cL ?_)) ?_
 ·rw[G3,G1]; show _+2<=_; omega
 dsimp only;rw[ev];exact k
end
abbrev dz:Ss:=
 #v[.set 5 (.lst .nil),.loop (.nm 6) (.rng #v[.bi .len #v[.ix (.v 0) (.c (.int 1))]]) #v[.ite (.own "_law_last_may" 4 #v[.v 0,.v 1,.own "_law_both" 5 #v[.v 0,.v 2,.v 3,.v 4,.v 6],.op .add (.bi .len #v[.v 2]) (.c (.int 1))]) #v[.ex (.me .append (.v 5) #v[.v 6])] .nil],.ret (.op .add (.v 5) (.op .mul (.lst #v[.neg (.c (.int 1))]) (.bi .int #v[.cmp .eq (.v 3) (.v 4)])))]
def qi {xs:G0 Hg}{b:Hg}:(xs++[b]).getD xs.length 0=b:=by
 rw[Hx,Ik (Hj _),Km]; rfl
def xg {X:G0 T}{U:G0 (T×W)}{bs:G0 Hg}{a:G9}{u:Wd}{one other:Pt}{n:G9}(hk:∀t,(bW U t).isSome=decide (t∈X))(h2:GoodP a bs.length u.length other)(hm:cb U u u.length other=true) :
  cb U (u++[one]) (u++[one]).length (other.1,other.2++[bs.getD n 0])=(Ho u.length).all λp=>!iA X bs u one other n p:=by
 have hl:(u++[one]).length=u.length+1:=by rw[G3]; rfl
 have key:∀p < u.length,bV U (u++[one]) (other.1,other.2++[bs.getD n 0]) p u.length=iA X bs u one other n p:=λp hp=>by
  unfold bV iA iz;dsimp only;rw[aE hp,bM,aZ (by rw[h2.len]; exact hp),hk]
  have:(other.2++[bs.getD n 0]).getD u.length 0=bs.getD n 0:=by rw[<- h2.len]; exact qi
  rw[this]
 rw[JI,bE,HC,hl];constructor
 ·intro h p hp;have hp:=Hu.mp hp;rw[<- key p hp,h u.length ∅ p hp]; rfl
 ·intro h q hq p hp
  by_cases e:q=u.length
  ·subst e;have:=h p (Hu.mpr hp);rw[key p hp]
   simpa using this
  ·have hq':q < u.length:=∅
   have:=bE.mp hm q hq' p hp;unfold bV at this ⊢;dsimp only;rw[aE (JL hp hq'),aE hq',aZ (by rw[h2.len]; omega),aZ (by rw[h2.len]; omega)]
   exact this
def EN {one other:Pt}{s:G9}(h1:one.2.length=s)(h2:other.2.length=s):decide (one=other)=nh one other s:=by
 unfold nh;rw[JI,HM,G8,NB,HC];constructor
 ·rintro rfl;exact#[rfl,λp _=>by rw[II]]
 ·rintro⟨e,h⟩;show OE e (La λi=>?_)
  by_cases hi:i < s
  ·have:=eq_of_beq (h i (Hu.mpr hi));rw[ar (d:=0) ∅,ar (d:=0) ∅,this]
  ·rw[JU ∅,JU ∅]
def o6 {P:G9->HA}{n:G9}:(((Ho n).filter P).map λ(i:G9)=>(i:Hg)).length<=n:=by
 rw[G1];exact HK (Jg _ _) (by rw[HG]; exact Hj _)
section
variable{defs:G0 (Hs×Df)}{fuel d:G9}{S:aa}{Q:QW}
def zX (hm:Is defs ("_law_last_may" : Hs) 4 8 aH)(hbo:Is defs ("_law_both" : Hs) 5 5 di)(hg:Is defs ("_law_fills" : Hs) 5 7 dz){m0 b0:W}{ns:G0 Hs}{bs:G0 Hg}{a q:G9}{X:G0 T}{u:Wd}{one other:Pt}{U:G0 (T×W)}(hb:GoodB bs)(hnl:ns.length=bs.length)(hu:GoodW a bs.length u)(h1:GoodP a bs.length u.length one)(h2:GoodP a bs.length u.length other)(hul:u.length<=800)(e:S[q]?=gV (.dic U))
  (hk:∀t,(bW U t).isSome=decide (t∈X)) (hmay:cb U u u.length other=true)
  (k:∀(l:G9) S',S'[l]?=gV (.lst (al (fB (iA X bs u one other) (nh one other u.length) bs.length u.length)))->S.length<=l->Ka S S'->Q (.ref l,S')) :
  wO (aF (am defs fuel (d+2)) "_law_fills" 5 [.tup [m0,.tup (He aD ns bs),b0],.ref q,ak u,ag one,ag other] S) Q:=by
 show aq hg rfl rfl λQ' hR=>?_
 replace k:∀(l:G9) S',S'[l]?=gV (.lst (al (fB (iA X bs u one other) (nh one other u.length) bs.length u.length)))->S.length<=l->Ka S S'->Q' (.rt (.ref l),S'):=λl S' a b c=>hR _ _ (k l S' a b c)
 clear hR;change wZ _ _ dz [gV (.tup [m0,.tup (He aD ns bs),b0]),gV (.ref q),gV (ak u),gV (ag one),gV (ag other),td,td] S Q';have hb3:bs.length<=3:=by rcases hb with rfl|rfl|rfl|rfl|rfl|rfl <;> decide
 have ul:(u.map ag).length=u.length:=G1 ..;have sl:((u++[one]).length:Hg)=(u.length:Hg)+1:=by rw[G3,HS]; rfl
 have hul2:(u++[one]).length<=1000:=by rw[G3,HS]; omega
 have gu:GoodW a bs.length (u++[one]):=hu.snoc (m:=one.1) (ws:=one.2) h1.mark h1.len h1.way;generalize hR0:W.tup [m0,.tup (He aD ns bs),b0]=R;have lw:∀(S:aa) (Q:QW),Q (.int (bs.length:Hg),S)->wO (g8 R (.int 1) S) λp=>wO (Bi.len.fn [p.1] p.2) Q:=λS Q q=>by
  subst hR0;show ac #v[] rfl (aC ?_)
  rw[IT,hnl,JM]; exact q
 have lb:∀(n:G9) (S:aa) (Q:QW),n < bs.length->Q (ak (u++[one]++[(other.1,other.2++[bs.getD n 0])]),S)->wO (aF (am defs fuel (d+1)) "_law_both" 5 [R,ak u,ag one,ag other,.int n] S) Q:=λn S Q hn q=>by
  subst hR0;exact qh (d:=d) hbo hnl hn ∅ (by rw[h2.len]; omega) q
 clear hR0;have hP:=λn=>xg (n:=n) (one:=one) hk h2 hmay
 unfold fB at k;generalize hPd:(λi=>(Ho u.length).all λp=>!iA X bs u one other i p)=P at k
 have hP:∀n,cb U (u++[one]) (u++[one]).length (other.1,other.2++[bs.getD n 0])=P n:=λn=>by rw[hP n,<- hPd]
 clear hPd;dsimp only[dz];show st ?_;dsimp only[wS,wE,wA,Hh];nofun
 show bD (bs.length:Hg) (λi Z S'=>(∃a6,Z=[gV R,gV (.ref q),gV (ak u),gV (ag one),gV (ag other),gV (.ref S.length),a6])/\S'[S.length]?=gV (.lst (al (((Ho i).filter P).map λ(i:G9)=>(i:Hg))))/\Ka S S') rfl rfl ∅ ?_ ?_ ?_
 ·dsimp only[wE,wA,wV,wG];exact lw _ _ #[rfl,#[_,rfl],aj,.push]
 ·rintro i Z S2 hi ⟨⟨a6,rfl⟩,e2,k2⟩ Q2 hn _;clear hK;have hib:i < bs.length:=∅
  dsimp only[Hh];nofun
  dsimp only[wS,wT,wE,wA,wV,wG];show lb i _ _ hib (aC ?_);rw[ul];show ab cQ ?_;dsimp only;rw[<- sl];show kH (d:=d) hm gu (by show(other.2++[_]).length=_; rw[G3,h2.len,G3]; rfl) hul2 (k2.get _ _ e) ?_
  rw[hP];show ab (show dc S2 (.bl (P i))=gV (P i)from rfl) ?_
  show ae (Q0:=Q2) (λhp Q3 hn3 _=>?_) (λhp Q3 hn3 _=>aP (hn3 _ _ (hK _ _ (aP (hn _ _ #[#[_,rfl],?_,k2])))))
  ·show st ?_;left;show#[dg e2,jl e2 ?_ (aP (hn3 _ _ (hK _ _ (aP (hn _ _ #[#[_,rfl],?_,k2.late (Hj _)])))))]
   ·have:=o6 (P:=P) (n:=i);unfold al;rw[G1];omega
   ·rw[bY e2,Jd,Kl,Hy,Oi,hp];unfold al;rw[Hy]; rfl
  ·rw[Jd,Kl,Oi,hp]
   simpa using e2
 ·rintro Z S2 ⟨⟨a6,rfl⟩,e2,k2⟩;rw[Hr]at e2;show hK _ _ ?_;clear hK K;show st ?_;dsimp only[wS,wE,wA,wV,wG,wN];show ab ED ?_;rw[EN h1.len h2.len];generalize nh one other u.length=c at k;obtain⟨g,hg,eg,er⟩ : ∃g:G9,g<=1/\(∀S,Bi.int.fn [.bl c] S=gV (.int (g:Hg),S))/\al (if c then[-1]else[])=Iq g (W.int (-1)):=by
   cases c
   ·exact#[0,#v[],λ_=>rfl,rfl]
   ·exact#[1,#v[],λ_=>rfl,rfl]
  show ab (eg _) ?_;dsimp only;show Ex aj ∅ ?_
  have hl:=o6 (P:=P) (n:=bs.length);show ab (kb (ay (ay e2)) aj (cL (by unfold al; rw[G3,MC,G1]; omega))) (k _ _ ?_ ?_ (((k2.trans .push).trans .push).trans .push))
  ·unfold al at er ⊢;rw[Hy,er];exact aj
  ·have:=k2.len;simp; omega
end
abbrev eR:Ss:=
 #v[.loop (.nm 3) (.rng2 #v[.c (.int 2),.bi .len #v[.v 2]]) #v[.ite (.not (.own "_law_last_may" 4 #v[.v 0,.v 1,.v 2,.v 3])) #v[.ret (.c (.bl false))] .nil],.ret (.c (.bl true))]
abbrev b8:Ss:=
 #v[.loop (.tp [2,3]) (.enu #v[.v 1]) #v[.ite (.or (.not (.isi "tuple" (.v 3))) (.or (.cmp .ne (.bi .len #v[.v 3]) (.c (.int 2))) (.or (.not (.isi "tuple" (.ix (.v 3) (.c (.int 1))))) (.cmp .ne (.bi .len #v[.ix (.v 3) (.c (.int 1))]) (.v 2))))) #v[.ret (.c (.bl false))] .nil,.set 5 (.op .add (.lst #v[.tup #v[.ix (.v 3) (.c (.int 0)),.bi .len #v[.ix (.v 0) (.c (.int 0))]]]) (.comp (.tup #v[.v 1,.bi .len #v[.ix (.v 2) (.c (.int 1))]]) (.nm 1) (.seq (.ix (.v 3) (.c (.int 1)))) .nil [td,td,gV 0])),.loop (.tp [4,6]) (.seq (.v 5)) #v[.ite (.or (.isi "bool" (.v 4)) (.or (.not (.isi "int" (.v 4))) (.not (.chn .le .lt (.c (.int 0)) (.v 4) (.v 6))))) #v[.ret (.c (.bl false))] .nil]],.ret (.c (.bl true))]
abbrev cY:Ss:=
 #v[.ite (.or (.not (.isi "tuple" (.v 2))) (.or (.cmp .ne (.bi .len #v[.v 2]) (.c (.int 3))) (.not (.isi "tuple" (.ix (.v 2) (.c (.int 0))))))) #v[.ret (.c (.bl false))] .nil,.asg [4,5,6] (.v 2),.loop (.nm 7) (.seq (.tup #v[.v 5,.v 6])) #v[.ite (.or (.not (.own "_law_is_world" 2 #v[.v 0,.op .add (.v 4) (.tup #v[.v 7])])) (.not (.own "_law_may" 3 #v[.v 0,.v 1,.op .add (.v 4) (.tup #v[.v 7])]))) #v[.ret (.c (.bl false))] .nil],.set 8 (.own "_law_fills" 5 #v[.v 0,.v 1,.v 4,.v 5,.v 6]),.ret (.or (.cmp .eq (.v 8) (.lst .nil)) (.and (.v 3) (.cmp .eq (.v 8) (.lst #v[.neg (.c (.int 1))]))))]
abbrev CW (n:G9)(bw:HA):G9:=if bw then n else n+1
def qj {X:G0 T}{U:G0 (T×W)}{bs:G0 Hg}{u:Wd}{p q:Pt}{i k:G9}(hk:∀t,(bW U t).isSome=decide (t∈X)):iA X bs u p q i k=bd U (iz u p q (bs.getD i 0) k):=(hk _).symm
def xi {X:G0 T}{U:G0 (T×W)}{bs:G0 Hg}{u:Wd}{p q:Pt}{bw:HA}(hk:∀t,(bW U t).isSome=decide (t∈X)):Full U bs (CW bs.length bw) u p q↔(fB (iA X bs u p q) (nh p q u.length) bs.length u.length=[]\/(bw=true/\fB (iA X bs u p q) (nh p q u.length) bs.length u.length=[-1])):=by
 have key:∀i < bs.length,((i:Hg)∈fB (iA X bs u p q) (nh p q u.length) bs.length u.length↔bo U bs u p q i=false):=λi hi=>by
  rw[lU];constructor
  ·rintro(⟨j,e,_,h⟩|⟨e,_⟩)
   ·obtain rfl:i=j:=∅
    rw[Jt];intro z;obtain⟨k,hk1,hk2⟩:=(dL hi).mp z;have:=h k hk1;rw[qj hk,hk2]at this; cases this
   ·omega
  ·intro h;show .inl #[i,rfl,hi,λk hk1=>?_]
   rw[Jt];intro z;rw[qj hk]at z;rw[(dL hi).mpr #[k,hk1,z]]at h; cases h
 have keyS:((-1:Hg)∈fB (iA X bs u p q) (nh p q u.length) bs.length u.length↔bo U bs u p q bs.length=false):=by
  rw[lU];have:bo U bs u p q bs.length = !nh p q u.length:=by unfold bo; rw[HX (Iw _)]
  rw[this];constructor
  ·rintro(⟨j,e,_,_⟩|⟨_,h⟩)
   ·omega
   ·rw[h]; rfl
  ·intro h;exact .inr #[rfl,by simpa using h]
 have ways:(∀i < bs.length,bo U bs u p q i=true)->fB (iA X bs u p q) (nh p q u.length) bs.length u.length=if nh p q u.length then[-1]else[]:=λh=>by
  have e:(Ho bs.length).filter (λi=>(Ho u.length).all λk=>!iA X bs u p q i k)=[]:=List.filter_eq_nil_iff.mpr λi hi=>by
   have hi:=Hu.mp hi;obtain⟨k,hk1,hk2⟩:=(dL hi).mp (h i hi);intro z;have:=HC.mp z k (Hu.mpr hk1);rw[qj hk,hk2]at this; cases this
  unfold fB;rw[e]; rfl
 generalize hL:fB (iA X bs u p q) (nh p q u.length) bs.length u.length=L at key keyS ways;unfold Full CW;cases bw with
 | true=>
  rw[HE rfl];constructor
  ·intro h;rw[ways h];cases nh p q u.length
   ·exact .inl rfl
   ·exact .inr #[rfl,rfl]
  ·intro h i hi;cases hh:bo U bs u p q i with
   | true=>rfl
   | false=>
    have:=(key i hi).mpr hh;rcases h with h|⟨_,h⟩
    ·rw[h]at this; cases this
    ·rw[h]at this;have:=Hk.mp this;omega
 | false=>
  rw[HX Ht];constructor
  ·intro h;have hw:=ways λi hi=>h i ∅
   have hs:nh p q u.length=false:=by
    have:=h bs.length (Jq _);unfold bo at this;rw[HX (Iw _)]at this
    simpa using this
   rw[hs]at hw;exact .inl hw
  ·intro h i hi;have h:L=[]:=by
    rcases h with h|⟨z,_⟩
    ·exact h
    ·cases z
   cases hh:bo U bs u p q i with
   | true=>rfl
   | false=>
    by_cases hn:i < bs.length
    ·have:=(key i hn).mpr hh;rw[h]at this; cases this
    ·obtain rfl:i=bs.length:=∅
     have:=keyS.mpr hh;rw[h]at this; cases this
section
variable{defs:G0 (Hs×Df)}{fuel d:G9}{S:aa}{Q:QW}
def zY {M:Hs->FF}{Z:Fm}{i j l:G9}{bw:HA}{L:G0 Hg}(e:S[l]?=gV (.lst (al L)))(hi:∀P:W->Prop,P (.ref l)->wV Z i P)(hj:∀P:W->Prop,P (.bl bw)->wV Z j P)
  (k:∀(c:HA) S',(c=true↔(L=[]\/(bw=true/\L=[-1])))->Ka S S'->Q (.bl c,S')) :
  wE M (.or (.cmp .eq (.v i) (.lst .nil)) (.and (.v j) (.cmp .eq (.v i) (.lst #v[.neg (.c (.int 1))])))) Z S Q:=by
 dsimp only[wE,wA,wN];show hi _ (ab (AA (ay e) aj) ?_);dsimp only[wB];have e0:(al L).isEmpty=L.isEmpty:=by cases L <;> rfl
 rw[e0];show#[λh=>k true _ #[λ_=>.inl (Mb.mp h),λ_=>rfl] .push,λh=>?_]
 have hne:L≠[]:=λz=>by rw[z]at h; cases h
 show hj _ ?_;dsimp only[wB];show#[λhb=>hi _ (ab (Cu (xs:=L) (ys:=[-1]) (ay (ay e)) aj) ?_),λhb=>k false _ #[λz=>(by cases z),λz=>?_] .push]
 ·show k _ _ #[λz=>.inr #[hb,ID z],λz=>?_] (Ka.push.trans .push)
  rcases z with z|⟨_,z⟩
  ·exact absurd z hne
  ·exact IL z
 ·rcases z with z|⟨z,_⟩
  ·exact absurd z hne
  ·rw[hb]at z; cases z
end
abbrev o7 (a:G9)(bs:G0 Hg)(U:G0 (T×W))(c:G9)(w:W):Prop:=∃x:Wd×Pt×Pt,w=cW x/\Cf a bs.length U x.1 x.2.1 x.2.2/\Full U bs c x.1 x.2.1 x.2.2
def xj {u v:Wd}(h:ak u=ak v):u=v:=by
 unfold ak at h;injection h with h
 exact(KU λx y z=>jb z).mp h
def EO {S:aa}{w:W}{P:G9->G9->G9->HA}{n:G9}(h:Ans P n w):aJ .is w .non S=gV (.bl (iC (∀i j k,i < j->j < k->k < n->P i j k=false)),S):=by
 rcases h with⟨rfl,h⟩|⟨i,j,k,rfl,h1,h2,h3,h4,_⟩
 ·rw[fX h]; rfl
 ·rw[rH λz=>by rw[z i j k h1 h2 h3]at h4; cases h4]; rfl
def xk {U:G0 (T×W)}{bs:G0 Hg}{gs:G0 Wd}{u:Wd}(h:HasD U (bJ bs gs)):(∀i j k,i < j->j < k->k < u.length->decide (dB (b6 u i j k)∈(bJ bs gs).map dB)=false)↔Std U u:=by
 constructor
 ·intro z k hk j hj i hi;unfold bz;rw[h.get];exact z i j k hi hj hk
 ·intro z i j k hi hj hk;have:=z k hk j hj i hi;unfold bz at this;rw[h.get]at this;exact this
def CL {α:Type}{f:α->HA}{x y:α}:([x,y].map f).all id=true↔f x=true/\f y=true:=by
 rw[IK,IK,HW,HW,G8,G8];exact#[λh=>#[h.1,h.2.1],λh=>#[h.1,h.2,rfl]]
section
variable{defs:G0 (Hs×Df)}{fuel d:G9}{S:aa}{Q:QW}
def qk (hfu:20 < fuel)(F:Fil defs)(B:Bwt defs){ms:G0 W}{ns:G0 Hs}{bs:G0 Hg}{a:G9}{gs:G0 Wd}{U:G0 (T×W)}{w:W}(hb:GoodB bs)(hnl:ns.length=bs.length)(hml:ms.length=a)(hgs:∀g∈gs,GoodW a bs.length g/\g.length=3)(h64:gs.length<=100)(hk:HasD U (bJ bs gs))(hw:Thg S w)
  (k:∀(b:HA) S',(b=true↔∃x:Wd×Pt×Pt,w=cW x/\Cf a bs.length U x.1 x.2.1 x.2.2)->Ka S S'->Q (.bl b,S')) :
  wO (aF (am defs fuel (d+7)) "is_base_with_two" 2 [.tup [.tup ms,.tup (He aD ns bs),.tup (gs.map ak)],w] S) Q:=by
 show aq B.bwt rfl rfl λQ' hR=>?_
 replace k:∀(b:HA) S',(b=true↔∃x:Wd×Pt×Pt,w=cW x/\Cf a bs.length U x.1 x.2.1 x.2.2)->Ka S S'->Q' (.rt (.bl b),S'):=λb S' e a=>hR _ _ (k b S' e a)
 clear hR;have no:∀S',(¬ ∃x:Wd×Pt×Pt,w=cW x/\Cf a bs.length U x.1 x.2.1 x.2.2)->Ka S S'->Q' (.rt (.bl false),S'):=λS' h=>k false S' #[λz=>(by cases z),λz=>absurd z h]
 change wZ _ _ bN [gV (.tup [.tup ms,.tup (He aD ns bs),.tup (gs.map ak)]),gV w] S Q';have zl:(He aD ns bs).length=bs.length:=by rw[IT,hnl,JM]
 have iw:=λ(S:aa) (Q:QW) (w:W)=>zW (defs:=defs) (fuel:=fuel) (d:=d+1) (S:=S) (Q:=Q) (w:=w) (b0:=.tup (gs.map ak)) B.knd hml zl
 have ip:=λ(S:aa) (Q:QW) (w:W) (s:G9)=>rL (defs:=defs) (fuel:=fuel) (d:=d+2) (S:=S) (Q:=Q) (w:=w) (s:=s) (b0:=.tup (gs.map ak)) B.knd hml zl
 have fb:=λ(S:aa) (Q:QW) (u:Wd) (gu:GoodW a bs.length u) (hl:u.length<=1000)=>kz (defs:=defs) (fuel:=fuel) (d:=d+1) (S:=S) (Q:=Q) (m0:=.tup ms) hfu F.parts F.part F.longer F.barred F.three B.ft B.fb hb hnl hgs h64 gu hl
 generalize W.tup [.tup ms,.tup (He aD ns bs),.tup (gs.map ak)]=R at iw ip fb;dsimp only[bN];nofun
 dsimp only[wS,wT,wE,wA,wV,wG];show wY (d:=d+5) (n:=3) B.knd hw ?_;show ab (show dc S (.bl (wW 3 w))=gV (wW 3 w)from rfl) #[λz=>?_,λz=>?_]
 ·show ae (Q0:=Q') (λ_ Q2 _ hr=>st ?_) (λz=>by cases z)
  dsimp only[wS,wE];show hr _ _ (no S ?_ .refl);rintro⟨x,rfl,_⟩;cases z
 obtain⟨t,p,q,rfl⟩ : ∃t p q,w=.tup [t,p,q]:=by
  cases w with
  | tup xs=>
   match xs,z with
   | [t,p,q],_=>exact#[t,p,q,rfl]
  | _=>cases z
 clear z;obtain⟨ht,hp,hq⟩ : Thg S t/\Thg S p/\Thg S q:=by
  cases hw with
  | tup h _=>exact#[h _ (by simp),h _ (by simp),h _ (by simp)]
 show ac #v[] rfl (iw _ _ t ht λS1 k1=>?_)
 show ab (show dc S1 (.bl (iC _))=gV (iC _)from rfl) ?_
 show ae (Q0:=Q') (λz Q2 _ hr=>st ?_) (λz Q2 hn _=>aP (hn _ _ (hK _ _ ?_)))
 ·dsimp only[wS,wE];show hr _ _ (no S1 ?_ k1);rintro⟨x,e,hC⟩;injection e with e
  injection e with e _
  rw[fX #[x.1,e,hC.gu]]at z;cases z
 clear hn hK K;obtain⟨u,hu⟩:=cy.mp (show iC (∃u,t=ak u/\GoodW a bs.length u)=true by simpa using z)
 obtain⟨rfl,gu⟩:=hu;clear z;have ul:(u.map ag).length=u.length:=G1 ..;have u1:u.length<=100:=by
  cases ht with
  | tup _ h=>rw[ul]at h; exact h
 have hpq:∀h∈[p,q],Thg S h:=λh hh=>by
  rcases HF.mp hh with rfl|hh
  ·exact hp
  ·cases Hk.mp hh; exact hq
 nofun
 dsimp only[wS,wT,wE,wA];show i4 [p,q] id (λ_=>true) (λh=>.bl (iC (∃p,h=ag p/\GoodP a bs.length u.length p))) [gV R,gV (.tup [ak u,p,q])] rfl rfl rfl rfl (HU rfl) ?_ (λh hh S2 k2=>?_) λS2 k2=>?_
 ·dsimp only[wE,wP,wV,wG,wN];exact ab (show fE (.tup [ak u,p,q]) (gV 1) td S1=gV (.tup [p,q],S1)from rfl) #[rfl,.refl]
 ·dsimp only[fA,wC,wE,wA,wV,wG];show#[λ_=>ac #v[] rfl (aC ?_),λz=>by cases z]
  rw[ul];exact ip _ _ _ _ ((hpq h hh).ka (k1.trans k2)) λS3 k3=>#[rfl,rfl,k3]
 rw[bP];dsimp only;show kJ (L:=[p,q].map λh=>iC (∃p,h=ag p/\GoodP a bs.length u.length p)) (by rw[IX]; exact aj) ?_
 show ab (show dc _ (.bl _)=gV _ from rfl) ?_
 have k2':=k1.trans (k2.trans (Ka.push (o:=O.lst ([p,q].map λh=>W.bl (iC (∃p,h=ag p/\GoodP a bs.length u.length p))))))
 generalize S2++[O.lst ([p,q].map λh=>W.bl (iC (∃p,h=ag p/\GoodP a bs.length u.length p)))]=S3 at k2'
 show ae (Q0:=Q') (λz Q2 _ hr=>st ?_) (λz Q2 hn _=>aP (hn _ _ (hK _ _ ?_)))
 ·dsimp only[wS,wE];show hr _ _ (no S3 ?_ k2');rintro⟨x,e,hC⟩;injection e with e
  injection e with e1 e
  injection e with e2 e
  injection e with e3 _
  cases xj e1;have:=(CL (f:=λh=>iC (∃p',h=ag p'/\GoodP a bs.length x.1.length p'))).mpr #[fX #[x.2.1,e2,hC.gp],fX #[x.2.2,e3,hC.gq]]
  rw[this]at z;cases z
 clear hn hK K;obtain⟨h1,h2⟩:=CL.mp (show([p,q].map λh=>iC (∃p,h=ag p/\GoodP a bs.length u.length p)).all id=true by simpa using z)
 obtain⟨p',h1⟩:=cy.mp h1;obtain⟨q',h2⟩:=cy.mp h2;obtain⟨rfl,gp⟩:=h1;obtain⟨rfl,gq⟩:=h2;clear z;show st ?_;dsimp only[wS,wE,wA];show i4 [p',q'] ag (λ_=>true) (λh=>.bl (iC (Std U (u++[h])))) [gV R,gV (.tup [ak u,ag p',ag q'])] rfl rfl rfl rfl (HU rfl) ?_ (λh hh S4 k4=>?_) λS4 k4=>?_
 ·dsimp only[wE,wP,wV,wG,wN];exact ab (show fE (.tup [ak u,ag p',ag q']) (gV 1) td S3=gV (.tup ([p',q'].map ag),S3)from rfl) #[rfl,.refl]
 ·have gh:GoodP a bs.length u.length h:=by
   rcases HF.mp hh with rfl|hh
   ·exact gp
   ·cases Hk.mp hh; exact gq
  dsimp only[fA,wC,wE,wA,wV,wG];show#[λ_=>ac #v[] rfl ?_,λz=>by cases z]
  dsimp only[ak];have ev:u.map ag++[ag h]=(u++[h]).map ag:=by rw[Hy]; rfl
  show ab (aQ (cL (by rw[G3,ul]; show _+1<=_; omega))) ?_
  dsimp only;rw[ev];have fb1:=λ(Q:QW)=>fb S4 Q (u++[h]) (gh.snoc gu) (by rw[G3,HS]; omega)
  unfold ak at fb1;show fb1 _ λw S5 hw k5=>?_
  show ab (EO hw) #[rfl,?_,k5];rw[propext (xk hk)]
 ·rw[bP];show kJ (L:=[p',q'].map λh=>iC (Std U (u++[h]))) (by rw[IX]; exact aj) (k _ _ ?_ (k2'.trans (k4.trans .push)))
  rw[CL,cy,cy,Std.both,Std.both];constructor
  ·rintro⟨⟨s1,m1⟩,_,m2⟩;exact#[(u,p',q'),rfl,gu,s1,gp,m1,gq,m2]
  ·rintro⟨x,e,hC⟩;cases nr (x:=(u,p',q')) e;exact#[#[hC.su,hC.mp],hC.su,hC.mq]
def CM {U:G0 (T×W)}{bs:G0 Hg}{a:G9}{u:Wd}{p q:Pt}{c:G9}{Yq:G0 W}(hC:Cf a bs.length U u p q)(hY:Yq.length=c)(h:∀i < c,∃w,Yq[i]?=gV w/\NI w/\CV w = !bo U bs u p q i){Q:QW}
  (k:∀b:HA,(b=true↔o7 a bs U c (cW (u,p,q)))->Q (.bl b,S)):wO (aJ .notin .non (.tup Yq) S) Q:=by
 obtain⟨ni,lk⟩:=lX hY h;show ab (o4 ni) (k _ ?_);rcases lk with⟨h1,h2⟩|⟨i,hi,h3,_,h4,_⟩
 ·rw[h1];exact#[λ_=>#[(u,p,q),rfl,hC,h2],λ_=>rfl]
 ·rw[h3];show#[λz=>(by cases z),λ#[x,e,_,hF]=>?_]
  cases nr e;rw[hF i hi]at h4;cases h4
def o8 (hfu:20 < fuel)(F:Fil defs)(B:Bwt defs)(hg:Is defs ("is_put_on" : Hs) 2 2 dy){ms:G0 W}{ns:G0 Hs}{bs:G0 Hg}{a:G9}{gs:G0 Wd}{U:G0 (T×W)}{w:W}(hb:GoodB bs)(hnl:ns.length=bs.length)(hml:ms.length=a)(hgs:∀g∈gs,GoodW a bs.length g/\g.length=3)(h64:gs.length<=100)(hk:HasD U (bJ bs gs))(hw:Thg S w)
  (k:∀(b:HA) S',(b=true↔o7 a bs U bs.length w)->Ka S S'->Q (.bl b,S')) :
  wO (aF (am defs fuel (d+8)) "is_put_on" 2 [.tup [.tup ms,.tup (He aD ns bs),.tup (gs.map ak)],w] S) Q:=by
 show aq hg rfl rfl λQ' hR=>?_
 replace k:∀(b:HA) S',(b=true↔o7 a bs U bs.length w)->Ka S S'->Q' (.rt (.bl b),S'):=λb S' x y=>hR _ _ (k b S' x y)
 clear hR;change wZ _ _ dy [gV (.tup [.tup ms,.tup (He aD ns bs),.tup (gs.map ak)]),gV w] S Q';dsimp only[dy];show st ?_;dsimp only[wS,wE,wA,wP,wV,wG,wN];show qk (d:=d) hfu F B hb hnl hml hgs h64 hk hw λb S1 hbw k1=>#[λz=>?_,λz=>?_]
 ·obtain⟨⟨u,p,q⟩,rfl,hC⟩:=hbw.mp z;dsimp only at hC;have u1:u.length<=100:=by
   cases hw with
   | tup h _=>
    have:=h (ak u) Ic;cases this with
    | tup _ h=>rw[G1]at h; exact h
  dsimp only[cW];show ac #v[] rfl (ac #v[] rfl (ac #v[] rfl ?_))
  show oY (d:=d+2) hfu F B.by' hb hnl hgs h64 hC.gu hC.gp hC.gq ∅ λS2 k2=>?_
  rw[CK hk];have bl:(db (λv p=>bz U v p u.length (u.length+1)) bs u p q).length=bs.length+1:=lS
  show ab (show fE (.tup (db (λv p=>bz U v p u.length (u.length+1)) bs u p q)) td (gV (-1)) S2=gV (.tup (db (λv p=>bz U v p u.length (u.length+1)) bs u p q).dropLast,S2) by simp only[fE,iq]) ?_
  dsimp only;show CM hC (by rw[Ja,bl]; rfl) (λi hi=>?_) λb hb=>k b _ hb (k1.trans k2)
  rw[Le,HE (by rw[bl]; omega)]
  exact kI hC.gp hC.gq ∅
 ·show k false _ #[λy=>(by cases y),λ#[x,e,hC,_]=>?_] k1
  rw[hbw.mpr #[x,e,hC]]at z;cases z
def ql (hg:Is defs ("_law_last_may" : Hs) 4 8 aH){R:W}{a n q k:G9}{u:Wd}{U:G0 (T×W)}(hu:GoodW a n u)(hk:k < u.length)(hl:u.length<=1000)(e:S[q]?=gV (.dic U))(kk:Q (.bl (cb U u k (u.getD k (0,[]))),S)) :
  wO (aF (am defs fuel (d+1)) "_law_last_may" 4 [R,.ref q,ak u,.int (k:Hg)] S) Q:=by
 show aq hg rfl rfl λQ' hR=>?_
 replace kk:=hR _ _ kk;clear hR;change wZ _ _ aH [gV R,gV (.ref q),gV (ak u),gV (.int (k:Hg)),td,td,td,td] S Q';have hh:(u.getD k (0,[])).2.length=k:=hu.len k _ (ar (d:=(0,[])) hk);have at':∀p < k,((u.map ag)[((p:G9):Hg).toNat]?=gV (ag (u.getD p (0,[])))):=λp hp=>cq ∅
 have hw:∀p < k,(al (u.getD k (0,[])).2)[((p:G9):Hg).toNat]?=gV (.int ((u.getD k (0,[])).2.getD p 0)):=λp hp=>by
  rw[Hr]; unfold al; rw[Hc,ar (d:=0) ∅]; rfl
 dsimp only[aH];show st ?_;dsimp only[wS,wE,wV,wG];show ac (Hf _) (cq hk) ?_;generalize u.getD k (0,[])=h at hh hw kk;dsimp only[wU,ag];show ab (show cF [4,5] [.int h.1,.tup (h.2.map W.int)] [gV R,gV (.ref q),gV (ak u),gV (.int (k:Hg)),td,td,td,td]=gV [gV R,gV (.ref q),gV (ak u),gV (.int (k:Hg)),gV (.int h.1),gV (.tup (al h.2)),td,td]from rfl) ?_
 nofun
 show cr 1 (k:Hg) (λm Z S'=>(∃a6 a7,Z=[gV R,gV (.ref q),gV (ak u),gV (.int (k:Hg)),gV (.int h.1),gV (.tup (al h.2)),a6,a7])/\(∀j < m+1,∀i < j,bV U u h i j=false)/\S'=S) rfl rfl rfl ∅ #[rfl,rfl,#[_,_,rfl],λj hj i hi=>∅,rfl] ?_ ?_
 ·rintro m Z S1 hm1 ⟨⟨a6,a7,rfl⟩,hb,rfl⟩ Q2 hn2 hr2;clear hK;rw[show(1:Hg)+m=((m+1:G9):Hg) by omega]
  have hmu:m+1 < k:=∅
  generalize hj:m+1=j at hmu hn2 hb;dsimp only[Hh];nofun
  show bD (j:Hg) (λi Z S'=>(∃a7,Z=[gV R,gV (.ref q),gV (ak u),gV (.int (k:Hg)),gV (.int h.1),gV (.tup (al h.2)),gV (.int (j:Hg)),a7])/\(∀x < i,bV U u h x j=false)/\S'=S1) rfl rfl ∅ #[rfl,#[_,rfl],λx hx=>∅,rfl] ?_ ?_
  ·rintro i Z S2 hi ⟨⟨a7,rfl⟩,hb2,rfl⟩ Q3 hn3 hr3;clear hK;have hij:i < j:=∅
   have lj:i < (u.getD j (0,[])).2.length:=by rw[hu.len j _ (ar (d:=(0,[])) ∅)]; exact hij
   dsimp only[Hh];nofun
   dsimp only[wS,wT,wE,wA,wV,wG];show ac (Hf i) (at' i ∅) (ac #v[] rfl (ac (Hf j) (at' j hmu) (ac #v[] rfl (ac (Hf j) (at' j hmu) (ac #v[] rfl (ac (w:=.int ((u.getD j (0,[])).2.getD i 0)) (Hf i) (by rw[Hr,Hc,ar (d:=0) lj]; rfl) (ac (Hf i) (hw i ∅) (ac (Hf j) (hw j hmu) ?_))))))))
   show ab (show aJ .isin (ak [((u.getD i (0,[])).1,[]),((u.getD j (0,[])).1,[(u.getD j (0,[])).2.getD i 0]),(h.1,[h.2.getD i 0,h.2.getD j 0])]) (.ref q) S2=gV (.bl (bV U u h i j),S2) by simp only[aJ,eU e,gO]; rfl) ?_
   dsimp only[wB];show ae (Q0:=Q3) (λz Q5 _ hr5=>st ?_) (λz Q5 hn5 _=>aP (hn5 _ _ (hK _ _ (aP (hn3 _ _ #[#[_,rfl],λx hx=>?_,rfl])))))
   ·dsimp only[wS,wE];have:cb U u k h=false:=Jt.mpr λy=>by rw[bE.mp y j hmu i hij]at z; cases z
    rw[this]at kk;exact hr5 _ _ (hr3 _ _ (hr2 _ _ kk))
   ·by_cases hxi:x=i
    ·rw[hxi]; exact z
    ·exact hb2 x ∅
  ·rintro Z S2 ⟨⟨a7,rfl⟩,hb2,rfl⟩;rw[Hr]at hb2;show hK _ _ (aP (hn2 _ _ #[#[_,_,rfl],λx hx i hi=>?_,rfl]))
   by_cases hxi:x=j
   ·subst hxi; exact hb2 i hi
   ·exact hb x ∅ i hi
 ·rintro Z S1 ⟨⟨a6,a7,rfl⟩,hb,rfl⟩;show hK _ _ (st ?_);dsimp only[wS,wE];rw[bE.mpr λx hx i hi=>hb x ∅ i hi]at kk
  exact kk
def tH (hlm:Is defs ("_law_last_may" : Hs) 4 8 aH)(hg:Is defs ("_law_may" : Hs) 3 4 eR){R:W}{a n q:G9}{u:Wd}{U:G0 (T×W)}(hu:GoodW a n u)(hl:u.length<=1000)(e:S[q]?=gV (.dic U))(k:Q (.bl (iC (Std U u)),S)) :
  wO (aF (am defs fuel (d+2)) "_law_may" 3 [R,.ref q,ak u] S) Q:=by
 show aq hg rfl rfl λQ' hR=>?_
 replace k:=hR _ _ k;change wZ _ _ eR [gV R,gV (.ref q),gV (ak u),td] S Q';have ul:(u.map ag).length=u.length:=G1 ..;dsimp only[eR];nofun
 show cr 2 (u.length:Hg) (λm Z S'=>(∃a3,Z=[gV R,gV (.ref q),gV (ak u),a3])/\(∀k < m+2,k < u.length->∀j < k,∀i < j,bz U u i j k=false)/\S'=S) rfl rfl rfl ∅ ?_ ?_ ?_
 ·dsimp only[wE,wA,wV,wG];show#[rfl,aC ?_];rw[ul];exact#[rfl,#[_,rfl],λk hk _ j hj i hi=>∅,rfl]
 ·rintro m Z S1 hm ⟨⟨a3,rfl⟩,hb,rfl⟩ Q2 hn2 hr2;clear hK;rw[show(2:Hg)+m=((m+2:G9):Hg) by omega]
  have hmu:m+2 < u.length:=∅
  generalize hj:m+2=j at hmu hn2 hb;dsimp only[Hh];nofun
  dsimp only[wS,wT,wE,wA,wV,wG];show ql (d:=d) hlm hu hmu hl e ?_;show ab (show dc S1 (.bl _)=gV _ from rfl) ?_
  show ae (Q0:=Q2) (λz Q5 _ hr5=>st ?_) (λz Q5 hn5 _=>aP (hn5 _ _ (hK _ _ (aP (hn2 _ _ #[#[_,rfl],λx hx hxu y hy i hi=>?_,rfl])))))
  ·dsimp only[wS,wE];have:¬ Std U u:=λh=>by
    rw[bE.mpr λy hy i hi=>h j hmu y hy i hi]at z; cases z
   rw[rH this]at k;exact hr5 _ _ (hr2 _ _ k)
  ·by_cases hxi:x=j
   ·subst hxi;exact bE.mp (show cb U u x (u.getD x (0,[]))=true by simpa using z) y hy i hi
   ·exact hb x ∅ hxu y hy i hi
 ·rintro Z S1 ⟨⟨a3,rfl⟩,hb,rfl⟩;show hK _ _ (st ?_);dsimp only[wS,wE];rw[fX (p:=Std U u) λx hx y hy i hi=>hb x ∅ hx y hy i hi]at k
  exact k
abbrev zZ (n:G9):W->HA
 | .int i=>decide (0<=i)&&decide (i < (n:Hg))
 | _=>false
def jC {n:G9}{w:W}:zZ n w=true↔∃i:Hg,w=.int i/\0<=i/\i < n:=by
 constructor
 ·intro h;cases w with
  | int i=>
   replace h:(decide (0<=i)&&decide (i < (n:Hg)))=true:=h;rw[G8]at h;exact#[i,rfl,ID h.1,ID h.2]
  | _=>cases h
 ·rintro⟨i,rfl,h0,h1⟩;show(decide (0<=i)&&decide (i < (n:Hg)))=true;rw[IL h0,IL h1]; rfl
def xm {a n s:G9}{m:W}{ws:G0 W}(hl:ws.length=s)(h0:zZ a m=true)(h:∀w∈ws,zZ n w=true):∃p,W.tup [m,.tup ws]=ag p/\GoodP a n s p:=by
 obtain⟨i,rfl,i0,i1⟩:=jC.mp h0;have:∀ws:G0 W,(∀w∈ws,zZ n w=true)->∃zs:G0 Hg,ws=zs.map W.int/\∀z∈zs,0<=z/\z < (n:Hg):=by
  intro ws
  induction ws with
  | nil=>exact λ_=>#[[],rfl,λz hz=>nomatch hz]
  | cons w ws ih=>
   intro h;obtain⟨zs,rfl,hz⟩:=ih λw hw=>h w (HN _ hw)
   obtain⟨j,rfl,j0,j1⟩:=jC.mp (h w Ic);exact#[j::zs,rfl,Lm.mpr #[#[j0,j1],hz]]
 obtain⟨zs,rfl,hz⟩:=this ws h;exact#[(i,zs),rfl,#[i0,i1],by rw[G1]at hl; exact hl,hz]
def o9 (hg:Is defs ("_law_is_world" : Hs) 2 7 b8){Mqa N:G0 W}{b0:W}{a n:G9}{xs:G0 W}(hM:Mqa.length=a)(hN:N.length=n)(hx:∀x∈xs,Thg S x)(hl:xs.length<=200)(k:∀S',Ka S S'->Q (.bl (iC (∃u,W.tup xs=ak u/\GoodW a n u)),S')) :
  wO (aF (am defs fuel (d+1)) "_law_is_world" 2 [.tup [.tup Mqa,.tup N,b0],.tup xs] S) Q:=by
 show aq hg rfl rfl λQ' hR=>?_
 replace k:∀S',Ka S S'->Q' (.rt (.bl (iC (∀j < xs.length,∃p,xs[j]?=gV (ag p)/\GoodP a n j p))),S'):=λS' a=>by rw[propext xf]; exact hR _ _ (k S' a)
 clear hR;change wZ _ _ b8 [gV (.tup [.tup Mqa,.tup N,b0]),gV (.tup xs),td,td,td,td,td] S Q';have l0:∀(S:aa) (Q:QW),Q (.int (a:Hg),S)->wO (g8 (.tup [.tup Mqa,.tup N,b0]) (.int 0) S) λp=>wO (Bi.len.fn [p.1] p.2) Q:=λS Q q=>by
  show ac #v[] rfl (aC ?_)
  rw[hM]; exact q
 have l1:∀(S:aa) (Q:QW),Q (.int (n:Hg),S)->wO (g8 (.tup [.tup Mqa,.tup N,b0]) (.int 1) S) λp=>wO (Bi.len.fn [p.1] p.2) Q:=λS Q q=>by
  show ac #v[] rfl (aC ?_)
  rw[hN]; exact q
 generalize W.tup [.tup Mqa,.tup N,b0]=R at l0 l1;dsimp only[b8];nofun
 show zO xs (λi Z S'=>(∃a2 a3 a4 a5 a6,Z=[gV R,gV (.tup xs),a2,a3,a4,a5,a6])/\(∀j < i,∃p,xs[j]?=gV (ag p)/\GoodP a n j p)/\Ka S S') rfl rfl #[rfl,#[_,_,_,_,_,rfl],λj hj=>∅,.refl] ?_ ?_
 ·rintro i x Z S1 hxi ⟨⟨a2,a3,a4,a5,a6,rfl⟩,hb,k1⟩;clear hK;have hi:i < xs.length:=(Hm.mp hxi).1;have tx:=(hx x (Hn hxi)).ka k1;show ab (show fF (.tp [2,3]) (.tup [.int i,x]) [gV R,gV (.tup xs),a2,a3,a4,a5,a6] S1=gV ([gV R,gV (.tup xs),gV (.int i),gV x,a4,a5,a6],S1)from rfl) ?_
  intro Q2 hn2 hr2;have no:∀S',(¬ ∃p,x=ag p/\GoodP a n i p)->Ka S S'->Q2 (.rt (.bl false),S'):=λS' h ka=>by
   show hr2 _ _ ?_;have:=k S' ka;rw[rH λz=>by
    obtain⟨p,e,g⟩:=z i hi;rw[hxi]at e;cases e;exact h #[p,rfl,g]]at this
   exact this
  nofun
  dsimp only[wS,wT,wE,wA,wV,wG];have ret:(¬ ∃p,x=ag p/\GoodP a n i p)->∀(t:HA),t=true->∀Q':QO,(∀Z' S',K Z' S'->Q' (.nx Z',S'))->(∀o S',(∀Z',o≠.nx Z')->Q2 (o,S')->Q' (o,S'))->(t=true->mY (am defs fuel d) fuel #v[.ret (.c (.bl false))] [gV R,gV (.tup xs),gV (.int i),gV x,a4,a5,a6] S1 Q')/\(t=false->mY (am defs fuel d) fuel .nil [gV R,gV (.tup xs),gV (.int i),gV x,a4,a5,a6] S1 Q'):=λh t ht=>ae (Q0:=Q2) (λ_ Q5 _ hr5=>st (by
    dsimp only[wS,wE];exact hr5 _ _ (no _ h k1))) λz=>by rw[ht]at z; cases z
  show ab tx.t #[λz=>ret (λ#[p,e,_]=>by subst e; exact Ht z) _ rfl,λz=>?_]
  cases tx with
  | tup ty hyl=>
   rename_i ys;show aC (ab vI #[λzt=>ret (λ#[p,e,_]=>by cases e; exact Ht zt) _ rfl,λz=>?_])
   obtain⟨m,t,rfl⟩ : ∃m t,ys=[m,t]:=by
    match ys,z with
    | [m,t],_=>exact#[m,t,rfl]
    | [],z=>cases z
    | [_],z=>cases z
    | _::_::_::_,z=>
     simp at z;omega
   clear z;have tt:=ty t (HN _ Ic);have tm:=ty m Ic;show ac #v[] rfl ?_
   show ab tt.t #[λzt=>ret (λ#[p,e,_]=>by cases e; exact Ht zt) _ rfl,λz=>?_]
   cases tt with
   | @tup ws tz hzl=>
    show ac #v[] rfl (aC (ab vI ?_))
    dsimp only[wB]
    by_cases hwl:ws.length=i
    rotate_left
    ·show ret (λ#[p,e,g]=>?_) _ ?_
     ·cases e;have:=g.len;rw[G1]at hwl;exact hwl this
     ·have:((ws.length:Hg)==(i:Hg))=false:=by rw[KF]; omega
      rw[this]; rfl
    have:((ws.length:Hg)==(i:Hg))=true:=by rw[NB]; omega
    rw[this];clear ret this;show ae (Q0:=Q2) (λz=>by cases z) (λ_ Q5 hn5 _=>aP (hn5 _ _ (hK _ _ ?_)))
    clear hn5 hK K z;show st ?_;left;show ac #v[] rfl (l0 _ _ ?_)
    show i4 ws id (λ_=>true) (λz=>.tup [z,.int (n:Hg)]) [gV R] rfl rfl rfl rfl ∅ ?_ (λz hz S3 k3=>?_) λS3 k3=>?_
    ·dsimp only[wE,wV,wG];exact ac #v[] rfl #[by rw[Op],.refl]
    ·dsimp only[fA,wC,wE,wA,wV,wG];exact#[λ_=>l1 _ _ #[rfl,rfl,.refl],λz=>by cases z]
    rw[bP];dsimp only;have k3':=k1.trans (Ka.push.trans k3);have e1:=k3.get _ _ (aj (S:=S1) (o:=O.lst [.tup [m,.int (a:Hg)]]));show ab (kb (ay e1) aj (cL (by rw[G3,G1]; show 1+_<=_; omega))) ?_
    have kk:=(k3'.trans (Ka.push (o:=O.lst (ws.map λz=>W.tup [z,.int (n:Hg)])))).trans (Ka.push (o:=O.lst ([.tup [m,.int (a:Hg)]]++ws.map λz=>W.tup [z,.int (n:Hg)])))
    have kk1:Ka S1 (S3++[O.lst (ws.map λz=>W.tup [z,.int (n:Hg)])]++[O.lst ([.tup [m,.int (a:Hg)]]++ws.map λz=>W.tup [z,.int (n:Hg)])]):=((Ka.push.trans k3).trans .push).trans .push
    have e5:(S3++[O.lst (ws.map λz=>W.tup [z,.int (n:Hg)])]++[O.lst ([.tup [m,.int (a:Hg)]]++ws.map λz=>W.tup [z,.int (n:Hg)])])[(S3++[O.lst (ws.map λz=>W.tup [z,.int (n:Hg)])]).length]?=gV (O.lst ([.tup [m,.int (a:Hg)]]++ws.map λz=>W.tup [z,.int (n:Hg)])):=aj
    generalize S3++[O.lst (ws.map λz=>W.tup [z,.int (n:Hg)])]++[O.lst ([.tup [m,.int (a:Hg)]]++ws.map λz=>W.tup [z,.int (n:Hg)])]=S5 at kk e5 kk1
    generalize(S3++[O.lst (ws.map λz=>W.tup [z,.int (n:Hg)])]).length=t5 at e5
    have each:∀v∈[W.tup [m,.int (a:Hg)]]++ws.map λz=>W.tup [z,.int (n:Hg)],∃(z:W) (y:G9),v=.tup [z,.int (y:Hg)]/\Thg S1 z/\((∃p,W.tup [m,.tup ws]=ag p/\GoodP a n i p)->zZ y z=true):=by
     intro v hv;rcases HI.mp hv with h|h
     ·show#[m,a,Hk.mp h,tm,λ#[p,e,g]=>?_]
      cases e;exact jC.mpr #[_,rfl,g.mark.1,g.mark.2]
     ·obtain⟨z,hz,rfl⟩:=Hz.mp h;show#[z,n,rfl,tz z hz,λ#[p,e,g]=>?_]
      cases e;obtain⟨y,hy,rfl⟩:=Hz.mp hz;exact jC.mpr #[_,rfl,g.way y hy]
    nofun
    show jA t5 ([.tup [m,.int (a:Hg)]]++ws.map λz=>W.tup [z,.int (n:Hg)]) (λj Z S'=>(∃a4 a6,Z=[gV R,gV (.tup xs),gV (.int i),gV (.tup [m,.tup ws]),a4,gV (.ref t5),a6])/\(∀v∈([W.tup [m,.int (a:Hg)]]++ws.map λz=>W.tup [z,.int (n:Hg)]).take j,∀(z:W) (y:G9),v=.tup [z,.int (y:Hg)]->zZ y z=true)/\S'=S5) rfl rfl #[rfl,#[_,_,rfl],(λv hv=>nomatch hv),rfl] (λ_ _ _ h=>by rw[h.2.2]; exact e5) ?_ ?_
    ·rintro j v Z S6 hv ⟨⟨a4,a6,rfl⟩,hok,rfl⟩;clear hK;obtain⟨z,y,rfl,tz',himp⟩:=each v (Hn hv);replace tz':=tz'.ka kk1;show ab (show fF (.tp [4,6]) (.tup [z,.int (y:Hg)]) [gV R,gV (.tup xs),gV (.int i),gV (.tup [m,.tup ws]),a4,gV (.ref t5),a6] S6=gV ([gV R,gV (.tup xs),gV (.int i),gV (.tup [m,.tup ws]),gV z,gV (.ref t5),gV (.int (y:Hg))],S6)from rfl) ?_
     intro Q3 hn3 hr3;nofun
     dsimp only[wS,wT,wE,wA,wV,wG];have bad:zZ y z=false->∀(t:HA),t=true->∀Q':QO,(∀Z' S',K Z' S'->Q' (.nx Z',S'))->(∀o S',(∀Z',o≠.nx Z')->Q3 (o,S')->Q' (o,S'))->(t=true->mY (am defs fuel d) fuel #v[.ret (.c (.bl false))] [gV R,gV (.tup xs),gV (.int i),gV (.tup [m,.tup ws]),gV z,gV (.ref t5),gV (.int (y:Hg))] S6 Q')/\(t=false->mY (am defs fuel d) fuel .nil [gV R,gV (.tup xs),gV (.int i),gV (.tup [m,.tup ws]),gV z,gV (.ref t5),gV (.int (y:Hg))] S6 Q'):=λh t ht=>ae (Q0:=Q3) (λ_ Q5 _ hr5=>st (by
       dsimp only[wS,wE];exact hr5 _ _ (hr3 _ _ (no _ (λg=>by rw[himp g]at h; cases h) kk)))) λz=>by rw[ht]at z; cases z
     have good:zZ y z=true->∀(t:HA),t=false->∀Q':QO,(∀Z' S',K Z' S'->Q' (.nx Z',S'))->(∀o S',(∀Z',o≠.nx Z')->Q3 (o,S')->Q' (o,S'))->(t=true->mY (am defs fuel d) fuel #v[.ret (.c (.bl false))] [gV R,gV (.tup xs),gV (.int i),gV (.tup [m,.tup ws]),gV z,gV (.ref t5),gV (.int (y:Hg))] S6 Q')/\(t=false->mY (am defs fuel d) fuel .nil [gV R,gV (.tup xs),gV (.int i),gV (.tup [m,.tup ws]),gV z,gV (.ref t5),gV (.int (y:Hg))] S6 Q'):=λh t ht=>ae (Q0:=Q3) (λz=>by rw[ht]at z; cases z) λ_ Q5 hn5 _=>aP (hn5 _ _ (hK _ _ (aP (hn3 _ _ #[#[_,_,rfl],λv' hv' z' y' e'=>by
       rw[Ig,hv]at hv';rcases HI.mp hv' with g|g
       ·exact hok v' g z' y' e'
       ·cases Hk.mp g;injection e' with e'
        injection e' with e1 e'
        injection e' with e2 _
        injection e2 with e2
        rw[<- e1,show y'=y by omega]; exact h,rfl]))))
     clear hK;show ab tz'.b #[λq=>bad (by cases z <;> first|rfl|cases q) _ rfl,λq=>?_]
     show ab tz'.n #[λq2=>bad (by cases z <;> first|rfl|cases q2) _ rfl,λq2=>?_]
     cases z with
     | int v0=>
      show ab (show r9 .le (.int 0) (.int v0) S6=gV (decide (0<=v0))from rfl) #[λq3=>?_,λq3=>?_]
      ·show ab (show dF .lt (.int v0) (.int (y:Hg)) S6=gV (.bl (decide (v0 < (y:Hg))),S6)from rfl) ?_
       dsimp only[wB];have ev:zZ y (.int v0)=decide (v0 < (y:Hg)):=by show(decide (0<=v0)&&_)=_; rw[q3,KN]
       cases hd:decide (v0 < (y:Hg))with
       | true=>exact good (by rw[ev,hd]) _ rfl
       | false=>exact bad (by rw[ev,hd]) _ rfl
      ·exact bad (by show(decide (0<=v0)&&_)=_; rw[q3,MK]) _ rfl
     | bl=>cases q
     | _=>cases q2
    ·rintro Z S6 ⟨⟨a4,a6,rfl⟩,hok,rfl⟩;rw[Il]at hok;show hK _ _ (aP (hn2 _ _ #[#[_,_,_,_,_,rfl],λj hj=>?_,kk]))
     by_cases hji:j=i
     ·subst hji;obtain⟨p,e,g⟩:=xm (m:=m) (n:=n) (a:=a) hwl (hok _ (by simp) m a rfl) λw hw=>hok _ (HH _ (Hz.mpr #[w,hw,rfl])) w n rfl
      exact#[p,by rw[hxi,e],g]
     ·exact hb j ∅
   | _=>cases z
  | _=>cases z
 ·rintro Z S1 ⟨⟨a2,a3,a4,a5,a6,rfl⟩,hb,k1⟩;show hK _ _ (st ?_);dsimp only[wS,wE];have:=k _ k1;rw[fX hb]at this;exact this
end
def z5 {ts:G0 W}{h:W}{v:Wd}{a n:G9}(e:W.tup (ts++[h])=ak v)(g:GoodW a n v):∃u p,v=u++[p]/\ts=u.map ag/\h=ag p/\GoodW a n u/\GoodP a n u.length p:=by
 unfold ak at e;injection e with e
 obtain⟨u,l,rfl,e1,e2⟩:=List.map_eq_append_iff.mp e.symm;obtain⟨p,l',rfl,e3,e4⟩:=List.map_eq_cons_iff.mp e2;cases List.map_eq_nil_iff.mp e4;have key:∀(k:G9) (q:Pt),u[k]?=gV q->GoodP a n k q:=λk q hq=>g.pt (by rw[HV (Hm.mp hq).1]; exact hq)
 exact#[u,p,rfl,e1.symm,e3.symm,#[λk q h=>(key k q h).mark,λk q h=>(key k q h).len,λk q h=>(key k q h).way],g.pt (by rw[Ik (Hj _),Km]; rfl)]
structure Tl3 (defs:G0 (Hs×Df)):Prop where
 lmay:Is defs ("_law_last_may" : Hs) 4 8 aH
 both:Is defs ("_law_both" : Hs) 5 5 di
 fills:Is defs ("_law_fills" : Hs) 5 7 dz
 may:Is defs ("_law_may" : Hs) 3 4 eR
 isw:Is defs ("_law_is_world" : Hs) 2 7 b8
 unf:Is defs ("_law_unfilled" : Hs) 4 9 cY
section
variable{defs:G0 (Hs×Df)}{fuel d:G9}{S:aa}{Q:QW}
def qm (V:Tl3 defs){ms:G0 W}{b0:W}{ns:G0 Hs}{bs:G0 Hg}{a q:G9}{bw:HA}{X:G0 T}{U:G0 (T×W)}{w:W}(hb:GoodB bs)(hnl:ns.length=bs.length)(hml:ms.length=a)(hk:∀t,(bW U t).isSome=decide (t∈X))(e:S[q]?=gV (.dic U))(hw:Thg S w)
  (k:∀(b:HA) S',(b=true↔o7 a bs U (CW bs.length bw) w)->Ka S S'->Q (.bl b,S')) :
  wO (aF (am defs fuel (d+3)) "_law_unfilled" 4 [.tup [.tup ms,.tup (He aD ns bs),b0],.ref q,w,.bl bw] S) Q:=by
 show aq V.unf rfl rfl λQ' hR=>?_
 replace k:∀(b:HA) S',(b=true↔o7 a bs U (CW bs.length bw) w)->Ka S S'->Q' (.rt (.bl b),S'):=λb S' x y=>hR _ _ (k b S' x y)
 clear hR;have no:∀S',¬ o7 a bs U (CW bs.length bw) w->Ka S S'->Q' (.rt (.bl false),S'):=λS' h=>k false S' #[λz=>(by cases z),λz=>absurd z h]
 change wZ _ _ cY [gV (.tup [.tup ms,.tup (He aD ns bs),b0]),gV (.ref q),gV w,gV (.bl bw),td,td,td,td,td] S Q';have zl:(He aD ns bs).length=bs.length:=by rw[IT,hnl,JM]
 have fl:=λ(S:aa) (Q:QW) (u:Wd) (p r:Pt) (hC:Cf a bs.length U u p r) (hl:u.length<=800) e=>zX (defs:=defs) (fuel:=fuel) (d:=d) (S:=S) (Q:=Q) (m0:=.tup ms) (b0:=b0) (q:=q) V.lmay V.both V.fills hb hnl hC.gu hC.gp hC.gq hl e hk hC.mq
 have iw:=λ(S:aa) (Q:QW) (xs:G0 W)=>o9 (defs:=defs) (fuel:=fuel) (d:=d+1) (S:=S) (Q:=Q) (xs:=xs) (b0:=b0) V.isw hml zl
 generalize W.tup [.tup ms,.tup (He aD ns bs),b0]=R at fl iw;dsimp only[cY];nofun
 dsimp only[wS,wT,wE,wA,wV,wG];have ret:¬ o7 a bs U (CW bs.length bw) w->∀(t:HA),t=true->∀Q2:QO,(∀Z' S',K Z' S'->Q2 (.nx Z',S'))->(∀o S',(∀Z',o≠.nx Z')->Q' (o,S')->Q2 (o,S'))->(t=true->mY (am defs fuel (d+2)) fuel #v[.ret (.c (.bl false))] [gV R,gV (.ref q),gV w,gV (.bl bw),td,td,td,td,td] S Q2)/\(t=false->mY (am defs fuel (d+2)) fuel .nil [gV R,gV (.ref q),gV w,gV (.bl bw),td,td,td,td,td] S Q2):=λh t ht=>ae (Q0:=Q') (λ_ Q5 _ hr5=>st (by
   dsimp only[wS,wE];exact hr5 _ _ (no _ h .refl))) λz=>by rw[ht]at z; cases z
 show ab hw.t #[λzt=>ret (λ#[x,e,_]=>by subst e; exact Ht zt) _ rfl,λzt=>?_]
 cases hw with
 | @tup xs hx hxl=>
  show aC (ab vI #[λzt=>ret (λ#[x,e,_]=>by cases e; exact Ht zt) _ rfl,λz3=>?_])
  obtain⟨t,p,r,rfl⟩ : ∃t p r,xs=[t,p,r]:=by
   match xs,z3 with
   | [t,p,r],_=>exact#[t,p,r,rfl]
   | [],z=>cases z
   | [_],z=>cases z
   | [_,_],z=>cases z
   | _::_::_::_::_,z=>
    simp at z;omega
  clear z3 zt;have ht:=hx t Ic;have hpr:∀h∈[p,r],Thg S h:=λh hh=>hx h (HN _ hh)
  show ac #v[] rfl ?_
  show ab ht.t ?_;dsimp only[wB];cases ht with
  | @tup ts hts htl=>
   show ae (Q0:=Q') (λz=>by cases z) (λ_ Q2 hn _=>aP (hn _ _ (hK _ _ ?_)))
   clear hn hK ret K;show st ?_;dsimp only[wS,wE,wV,wG,wU];show ab (show cF [4,5,6] [.tup ts,p,r] [gV R,gV (.ref q),gV (.tup [.tup ts,p,r]),gV (.bl bw),td,td,td,td,td]=gV [gV R,gV (.ref q),gV (.tup [.tup ts,p,r]),gV (.bl bw),gV (.tup ts),gV p,gV r,td,td]from rfl) ?_
   nofun
   show for_tup [p,r] (λi Z S'=>(∃a7,Z=[gV R,gV (.ref q),gV (.tup [.tup ts,p,r]),gV (.bl bw),gV (.tup ts),gV p,gV r,a7,td])/\(∀h∈[p,r].take i,∃u p',ts=u.map ag/\h=ag p'/\GoodW a bs.length u/\GoodP a bs.length u.length p'/\Std U (u++[p']))/\Ka S S') rfl rfl #[rfl,#[_,rfl],(λh hh=>nomatch hh),.refl] ?_ ?_
   ·rintro i h Z S1 hi ⟨⟨a7,rfl⟩,hok,k1⟩;clear hK;have hh:=Hn hi;show ab (show fF (.nm 7) h [gV R,gV (.ref q),gV (.tup [.tup ts,p,r]),gV (.bl bw),gV (.tup ts),gV p,gV r,a7,td] S1=gV ([gV R,gV (.ref q),gV (.tup [.tup ts,p,r]),gV (.bl bw),gV (.tup ts),gV p,gV r,gV h,td],S1)from rfl) ?_
    intro Q2 hn2 hr2;nofun
    dsimp only[wS,wT,wE,wA,wV,wG];have fw:(ts++[h]).length<=101:=by rw[G3]; show _+1<=_; omega
    show ab (aQ (cL ∅)) ?_
    dsimp only;have bad:∀S',Ka S S'->(¬ ∃u p',ts=u.map ag/\h=ag p'/\GoodW a bs.length u/\GoodP a bs.length u.length p'/\Std U (u++[p']))->Q2 (.rt (.bl false),S'):=λS' ka hno=>hr2 _ _ (no _ (λ#[x,ex,hC,_]=>hno (by
     injection ex with ex
     injection ex with e1 ex
     injection ex with e2 ex
     injection ex with e3 _
     injection e1 with e1
     rcases HF.mp hh with rfl|hh
     ·exact#[x.1,x.2.1,e1,e2,hC.gu,hC.gp,Std.both.mpr #[hC.su,hC.mp]]
     ·cases Hk.mp hh;exact#[x.1,x.2.2,e1,e3,hC.gu,hC.gq,Std.both.mpr #[hC.su,hC.mq]])) ka)
    show iw _ _ (ts++[h]) (λy hy=>?_) ∅ λS2 k2=>?_
    ·rcases HI.mp hy with g|g
     ·exact(hts y g).ka k1
     ·cases Hk.mp g; exact(hpr h hh).ka k1
    show ab (show dc S2 (.bl _)=gV _ from rfl) #[λz=>?_,λz=>?_]
    ·show ae (Q0:=Q2) (λ_ Q5 _ hr5=>st ?_) λz=>by cases z
     dsimp only[wS,wE];show hr5 _ _ (bad _ (k1.trans k2) λ#[u,p',e1,e2,gu,gp,_]=>?_)
     rw[fX #[u++[p'],by rw[e1,e2]; show W.tup _=.tup _; rw[Hy]; rfl,gp.snoc gu]]at z
     cases z
    obtain⟨v,hv⟩:=cy.mp (show iC (∃u,W.tup (ts++[h])=ak u/\GoodW a bs.length u)=true by simpa using z)
    obtain⟨ev,gv⟩:=hv;clear z;show ab (aQ (cL ∅)) ?_
    dsimp only;have vl:v.length<=101:=by
     have:(ts++[h]).length=v.length:=by
      unfold ak at ev;injection ev with ev
      rw[ev,G1]
     omega
    rw[ev];show tH (d:=d) V.lmay V.may gv ∅ ((k1.trans k2).get _ _ e) ?_
    show ab (show dc S2 (.bl _)=gV _ from rfl) ?_
    obtain⟨u,p',rfl,e1,e2,gu,gp⟩:=z5 ev gv;show ae (Q0:=Q2) (λz Q5 _ hr5=>st ?_) (λz Q5 hn5 _=>aP (hn5 _ _ (hK _ _ (aP (hn2 _ _ #[#[_,rfl],λy hy=>?_,k1.trans k2])))))
    ·dsimp only[wS,wE];show hr5 _ _ (bad _ (k1.trans k2) λ#[u',p'',f1,f2,_,_,hs]=>?_)
     have:u'=u:=(KU λx y z=>jb z).mp (f1.symm.trans e1)
     subst this;cases jb (f2.symm.trans e2);rw[fX hs]at z;cases z
    ·rw[Ig,hi]at hy;rcases HI.mp hy with g|g
     ·exact hok y g
     ·cases Hk.mp g;exact#[u,p',e1,e2,gu,gp,cy.mp (by simpa using z)]
   ·rintro Z S1 ⟨⟨a7,rfl⟩,hok,k1⟩;show hK _ _ ?_;clear hK K;obtain⟨u,p',rfl,rfl,gu,gp,sp⟩:=hok p Ic;obtain⟨u',r',e1,rfl,_,gr,sr⟩:=hok r (HN _ Ic);have:u'=u:=((KU λx y z=>jb z).mp e1).symm
    subst this;have hC:Cf a bs.length U u' p' r':=#[gu,(Std.both.mp sp).1,gp,(Std.both.mp sp).2,gr,(Std.both.mp sr).2];nofun
    left;have fl1:=λ(Q:QW)=>fl S1 Q u' p' r' hC (by rw[G1]at htl; omega) (k1.get _ _ e)
    unfold ak at fl1;show fl1 _ λl8 S2 e8 _ k2=>hK _ _ ?_
    clear hK K;show st ?_;dsimp only[wS];show zY e8 (λ_ h=>h) (λ_ h=>h) λc S3 hc k3=>k c _ ?_ ((k1.trans k2).trans k3)
    rw[hc,<- xi hk];constructor
    ·intro hF;exact#[(u',p',r'),rfl,hC,hF]
    ·rintro⟨x,ex,_,hF⟩;cases nr (x:=(u',p',r')) ex;exact hF
  | _=>
   show ae (Q0:=Q') (λ_ Q5 _ hr5=>st ?_) λz=>by cases z
   dsimp only[wS,wE];show hr5 _ _ (no _ (λ#[x,ex,_]=>?_) .refl)
   injection ex with ex
   injection ex with e1 ex
   cases e1
 | _=>cases zt
end
section
variable{defs:G0 (Hs×Df)}{fuel d:G9}{S:aa}{r:G9}{Q:QW}
def z6 {i:G9}{xs:G0 W}(h:S[i]?=gV (.lst xs))(q:Q (.ref S.length,S++[.lst xs])):wO (Bi.list.fn [.ref i] S) Q:=by
 show ab ?_ q;have h1:uC S i=td:=by simp[uC,h]
 simp only[Bi.fn,B3,jf,h1,jS,mW h,gD,fH,aG h]
def qo (G:Gen defs)(hg:Is defs ("_law_shuffled" : Hs) 2 4 bj){l:G9}{ls:G0 G9}(hf:Fl S r)(e:S[l]?=gV (.lst (aw ls)))(hnd:ls.Nodup)(hl:ls.length<=900)(hfu:ls.length < fuel)
  (k:∀(q:G9) (ps:G0 G9) S',S'[q]?=gV (.lst (aw ps))->ps.Nodup->(∀p∈ps,p∈ls)->ps.length=ls.length->S.length<=q->Fl S' r->Kp r S S'->Q (.ref q,S')) :
  wO (aF (am defs fuel (d+2)) "_law_shuffled" 2 [.ref r,.ref l] S) Q:=by
 show aq hg rfl rfl λQ' hR=>?_
 replace k:∀(q:G9) (ps:G0 G9) S',S'[q]?=gV (.lst (aw ps))->ps.Nodup->(∀p∈ps,p∈ls)->ps.length=ls.length->S.length<=q->Fl S' r->Kp r S S'->Q' (.rt (.ref q),S'):=λa b c e f g h i j m=>hR _ _ (k a b c e f g h i j m)
 clear hR;change wZ _ _ bj [gV (.ref r),gV (.ref l),td,td] S Q';have hrt:=hf.lt;have nl:∀xs:G0 G9,(aw xs).length=xs.length:=λxs=>G1 ..
 dsimp only[bj];show st ?_;left;show z6 e ?_;show st ?_;dsimp only[wS,wE,wA,Hh];have l1:(S++[O.lst (aw ls)]).length=S.length+1:=by simp
 nofun
 show Av (λm Z S'=>Z=[gV (.ref r),gV (.ref l),gV (.ref S.length),gV (.ref (S++[O.lst (aw ls)]).length)]/\∃xs ps:G0 G9,S'[S.length]?=gV (.lst (aw xs))/\S'[(S++[O.lst (aw ls)]).length]?=gV (.lst (aw ps))/\(xs++ps).Nodup/\(∀p∈xs++ps,p∈ls)/\xs.length+ps.length=ls.length/\xs.length=m/\Fl S' r/\Kp r S S') ls.length rfl rfl hfu #[rfl,ls,[],ay aj,aj,by rw[IQ]; exact hnd,λp hp=>by rw[IQ]at hp; exact hp,by simp,rfl,(hf.ka .push).ka .push,Kp.push.trans .push] ?_
 rintro m Z S2 ⟨rfl,xs,ps,e2,e3,nd,lt,hsz,hm,f2,k2⟩;rw[l1]at e3;rw[l1];have h2:=cp e2;have h3:=cp e3;dsimp only[wT,wE,wA,wV,wG];show ab (EG (ay e2) aj) ?_;dsimp only[wB];have e2':=ay (u:=O.lst []) e2;have e3':=ay (u:=O.lst []) e3;have f2':=f2.ka (Ka.push (o:=O.lst []));have k2':=k2.trans (Kp.push (o:=O.lst []));clear e2 e3 f2 k2 h2 h3;generalize S2++[O.lst []]=S2 at e2' e3' f2' k2';show#[λh=>?_,λh=>?_]
 ·have hx:xs≠[]:=λz=>by rw[z]at h; simp[aw]at h
  have hx0:0 < xs.length:=Kd.mpr hx;show#[m - 1,∅,λQ2 hn _=>?_]
  clear hK k;show st ?_;left;show#[dg e3',dg e2',rj e2' ?_];rw[nl];show aL (d:=d) G.pick f2' ∅ ∅ λv S3 v0 v1 f3 k3=>?_
  have e2'':=k3.get _ _ ∅ e2'
  have e3'':=k3.get _ _ ∅ e3'
  have hv:v.toNat < xs.length:=∅
  show EB e2'' v0 (jB (Hi hv)) (by rw[nl]; omega) ?_
  have e3s:(S3.set S.length (.lst ((aw xs).eraseIdx v.toNat)))[S.length+1]?=gV (.lst (aw ps)):=by rw[cg ∅]; exact e3''
  have pm:(xs.eraseIdx v.toNat++(ps++[xs[v.toNat]])).Perm (xs++ps):=by
   have h1:xs.Perm (xs[v.toNat]::xs.eraseIdx v.toNat):=(nL hv).symm;have h2:(ps++[xs[v.toNat]]).Perm (xs[v.toNat]::ps):=List.perm_append_singleton ..;show(Po _ h2).trans (Mc.trans ?_);exact(Pn ps h1).symm
  show jl e3s (by rw[nl]; omega) (aP (hn _ _ #[rfl,xs.eraseIdx v.toNat,ps++[xs[v.toNat]],?_,?_,pm.nodup_iff.mpr nd,λp hp=>lt p (pm.mem_iff.mp hp),?_,?_,(f3.own ∅).own ∅,((k2'.trans k3).late ∅).late ∅]))
  ·rw[cg ∅,bY e2'',oR]
  ·rw[bY e3s]; unfold aw; rw[Hy]; rfl
  ·rw[MW,HE hv,G3,HS]; omega
  ·rw[MW,HE hv]; omega
 ·have hx:xs=[]:=by
   cases xs with
   | nil=>rfl
   | cons x xs=>simp[aw]at h
  subst hx;show hK _ _ (st ?_);dsimp only[wS,wE,wV,wG];rw[Ov]at nd lt;exact k _ ps S2 e3' nd lt (by simpa using hsz) ∅ f2' k2'
end
section
variable{defs:G0 (Hs×Df)}{fuel d:G9}{S:aa}{Q:QW}
def z7 (G:Gen defs){m0 b0:W}{ns:G0 Hs}{bs:G0 Hg}{a l:G9}{u:Wd}{ps:G0 G9}(hb:GoodB bs)(hl:ns.length=bs.length)(hu:GoodW a bs.length u)(hps:∀p∈ps,p < u.length)(hnd:ps.Nodup)(hsz:ps.length < 1000)(el:S[l]?=gV (.lst (aw ps)))(k:∀S',Ka S S'->Q (ak (au bs u ps),S')) :
  wO (aF (am defs fuel (d+2)) "_law_part" 3 [.tup [m0,.tup (He aD ns bs),b0],ak u,.ref l] S) Q:=by
 show aq G.part rfl rfl λQ' hR=>?_
 replace k:∀S',Ka S S'->Q' (.rt (ak (au bs u ps)),S'):=λS' a=>hR _ _ (k S' a)
 clear hR;change wZ _ _ dh [gV (.tup [m0,.tup (He aD ns bs),b0]),gV (ak u),gV (.ref l),td,td,td] S Q';generalize hR0:W.tup [m0,.tup (He aD ns bs),b0]=R;have hlS:=cp el;dsimp only[dh];show st ?_;dsimp only[wS,wE,wA,Hh];nofun
 have nl:(aw ps).length=ps.length:=G1 ..;show bD (ps.length:Hg) (λk Z S'=>(∃a4 a5,Z=[gV R,gV (ak u),gV (.ref l),gV (.ref S.length),a4,a5])/\S'[S.length]?=gV (.lst (((au bs u ps).take k).map ag))/\S'[l]?=gV (.lst (aw ps))/\Ka S S') rfl rfl ∅ ?_ ?_ ?_
 ·dsimp only[wE,wA,wV,wG];show rj (ay el) ?_;rw[nl];exact#[rfl,#[td,td,rfl],aj,ay el,.push]
 ·rintro i Z S1 hi ⟨⟨a4,a5,rfl⟩,e1,l1,k1⟩ Q2 hn _;clear hK;have hi':i < ps.length:=∅
  have hp:ps[i]?=gV ps[i]:=Hi hi';have hpu:ps[i] < u.length:=hps _ (Iu hi');dsimp only[Hh];show st ?_;dsimp only[wS,wE,wV,wG,Hh];show eL l1 (jB hp) ?_;show st ?_;left;show#[dg e1,ac (Hf _) (cq hpu) (ac #v[] rfl ?_)]
  show kA (ps.take i) (λ(q:G9)=>W.int (q:Hg)) (λ_=>true) (λq=>W.int (bx bs u ps[i] q)) [gV (.int ps[i]),gV R,gV (ak u)] rfl rfl rfl rfl (by rw[HD]; omega) ?_ (λq hq S2 k2=>?_) λS2 k2=>?_
  ·dsimp only[wE,wP,wV,wG,wN];show ab (a:=(.ref S1.length,S1++[.lst (aw (ps.take i))])) ?_ #[_,rfl,aj,.push];simp only[fE,aG l1,cU];unfold aw;rw[Ks]
  ·dsimp only[fA,wC,wE,wA,wV,wG];subst hR0;have hqm:=J4 hq;show#[λ_=>lP (d:=d) G hb hl hu hpu (hps _ hqm) (λe=>?_) #[rfl,rfl,.refl],λz=>by cases z]
   obtain⟨j,hj,ej⟩:=KA.mp hq;rw[HD]at hj;rw[Kv]at ej;have:=(Jy hnd).mp (ej.trans e.symm);omega
  ·rw[bP];show d3 aj ?_;have e2:=ay (u:=O.lst ((ps.take i).map λq=>W.int (bx bs u ps[i] q))) (k2.get _ _ e1)
   have l2:=ay (u:=O.lst ((ps.take i).map λq=>W.int (bx bs u ps[i] q))) (k2.get _ _ l1)
   show jl e2 (by rw[G1,HD]; omega) (aP (hn _ _ #[#[_,_,rfl],?_,?_,((k1.trans k2).trans .push).late (Hj _)]))
   ·rw[bY e2];have ep:(au bs u ps)[i]?=gV ((u.getD ps[i] (0,[])).1,(ps.take i).map λq=>bx bs u ps[i] q):=by
     unfold au;rw[Hc,Jv hi',HR,getD_some hp]
    rw[Ig,ep];simp[ag,K9]
   ·rw[cg ∅]; exact l2
 ·rintro Z S1 ⟨⟨a4,a5,rfl⟩,e1,_,k1⟩;rw[Hr,<- aV bs u ps,Il]at e1;show hK _ _ (st ?_);left;exact d3 e1 (k _ k1)
end
abbrev aW:Ss:=
 #v[.asg [3,4] (.v 2),.set 5 (.bi .len #v[.ix (.v 1) (.c (.int 1))]),.set 6 (.lst #v[.lst #v[.v 3,.v 4],.tup #v[.v 3,.bi .list #v[.v 4]],.tup #v[.v 3],.tup #v[.v 3,.v 4,.v 4],.tup #v[.v 3,.op .add (.v 4) (.tup #v[.c (.int 0)])],.tup #v[.v 3,.sl (.v 4) (.yes (.c (.int 1))) .no]]),.set 6 (.op .add (.v 6) (.lst #v[.tup #v[.v 4,.v 3],.c .non,.tup #v[.bi .len #v[.ix (.v 1) (.c (.int 0))],.v 4],.tup #v[.neg (.c (.int 1)),.v 4],.tup #v[.cmp .eq (.v 3) (.c (.int 1)),.v 4],.tup #v[.bi .str #v[.v 3],.v 4]])),.set 6 (.op .add (.v 6) (.lst #v[.tup #v[.v 3,.op .add (.sl (.v 4) .no (.yes (.neg (.c (.int 1))))) (.tup #v[.v 5])],.tup #v[.v 3,.op .add (.sl (.v 4) .no (.yes (.neg (.c (.int 1))))) (.tup #v[.neg (.c (.int 1))])],.tup #v[.v 3,.op .add (.sl (.v 4) .no (.yes (.neg (.c (.int 1))))) (.tup #v[.c (.bl true)])]])),.set 6 (.op .add (.v 6) (.lst #v[.tup #v[.c .non,.v 4],.tup #v[.v 3,.c .non],.tup .nil,.v 3,.v 4,.tup #v[.own "_law_pick" 2 #v[.v 0,.bi .len #v[.ix (.v 1) (.c (.int 0))]],.v 4]])),.ex (.me .append (.v 6) #v[.tup #v[.v 3,.bi .tuple #v[.comp (.own "_law_pick" 2 #v[.v 2,.v 3]) (.nm 1) (.seq (.v 4)) .nil [td,td,gV 0,gV 5]]]]),.ret (.ix (.v 6) (.own "_law_pick" 2 #v[.v 0,.c (.int 22)]))]
abbrev bm:Ss:=
 #v[.asg [3,4,5] (.v 2),.set 6 (.own "_law_pick" 2 #v[.v 0,.c (.int 8)]),.ite (.cmp .eq (.v 6) (.c (.int 0))) #v[.set 7 (.lst #v[.c .non,.tup .nil,.lst #v[.v 3,.v 4,.v 5],.tup #v[.v 3,.v 4],.tup #v[.v 3,.v 4,.v 5,.v 5],.tup #v[.v 4,.v 5,.v 3],.c (.str ""),.v 3,.c (.int 0)]),.ret (.ix (.v 7) (.own "_law_pick" 2 #v[.v 0,.c (.int 9)]))] .nil,.ite (.cmp .eq (.v 6) (.c (.int 1))) #v[.ret (.tup #v[.ix (.lst #v[.bi .list #v[.v 3],.c .non,.c (.str ""),.c (.int 0),.v 4]) (.own "_law_pick" 2 #v[.v 0,.c (.int 5)]),.v 4,.v 5])] .nil,.ite (.and (.cmp .eq (.v 6) (.c (.int 2))) (.cmp .ne (.v 3) (.tup .nil))) #v[.set 8 (.own "_law_pick" 2 #v[.v 0,.bi .len #v[.v 3]]),.ret (.tup #v[.op .add (.op .add (.sl (.v 3) .no (.yes (.v 8))) (.tup #v[.own "_law_other_point" 3 #v[.v 0,.v 1,.ix (.v 3) (.v 8)]])) (.sl (.v 3) (.yes (.op .add (.v 8) (.c (.int 1)))) .no),.v 4,.v 5])] .nil,.ite (.and (.cmp .eq (.v 6) (.c (.int 3))) (.cmp .ne (.v 3) (.tup .nil))) #v[.ret (.tup #v[.sl (.v 3) .no (.yes (.neg (.c (.int 1)))),.v 4,.v 5])] .nil,.ite (.cmp .lt (.v 6) (.c (.int 6))) #v[.ret (.tup #v[.v 3,.own "_law_other_point" 3 #v[.v 0,.v 1,.v 4],.v 5])] .nil,.ite (.cmp .eq (.v 6) (.c (.int 6))) #v[.ret (.tup #v[.v 3,.v 4,.v 4])] .nil,.ret (.tup #v[.v 3,.v 4,.own "_law_other_point" 3 #v[.v 0,.v 1,.v 5]])]
def fc {α:Type}{P:α->Prop}{a:α}{l:G0 α}(h:P a)(t:∀x∈l,P x):∀x∈a::l,P x:=Lm.mpr #[h,t]
def fn {α:Type}{P:α->Prop}:∀x∈([]:G0 α),P x:=λ_ h=>nomatch h
def fa {α:Type}{P:α->Prop}{l l':G0 α}(h:∀x∈l,P x)(t:∀x∈l',P x):∀x∈l++l',P x:=λx hx=>(HI.mp hx).elim (h x) (t x)
def GB {S:aa}{zs:G0 Hg}:∀x∈al zs,Thg S x:=λx hx=>by
 obtain⟨i,_,rfl⟩:=Hz.mp hx; exact .int
def rM {S:aa}{xs:G0 W}{Q:QW}(q:Q (.ref S.length,S++[.lst xs])):wO (Bi.list.fn [.tup xs] S) Q:=by
 show ab ?_ q;simp only[Bi.fn,B3,jf,jS,gD,fH]
section
variable{defs:G0 (Hs×Df)}{fuel d:G9}{S:aa}{r:G9}{Q:QW}
def xn (G:Gen defs)(hg:Is defs ("_law_other_point" : Hs) 3 7 aW){Mqa N:G0 W}{b0:W}{a n s:G9}{p:Pt}(hM:Mqa.length=a)(ha1:0 < a)(ha3:a<=3)(hN:N.length=n)(hn1:0 < n)(hn3:n<=3)(hp:GoodP a n s p)(hs:s<=50)(hf:Fl S r)
  (k:∀w S',Thg S' w->Fl S' r->Kp r S S'->Q (w,S')) :
  wO (aF (am defs fuel (d+2)) "_law_other_point" 3 [.ref r,.tup [.tup Mqa,.tup N,b0],ag p] S) Q:=by
 show aq hg rfl rfl λQ' hR=>?_
 replace k:∀w S',Thg S' w->Fl S' r->Kp r S S'->Q' (.rt w,S'):=λw S' x y z=>hR _ _ (k w S' x y z)
 clear hR;obtain⟨m,to⟩:=p;have hl:(al to).length<=50:=by have:=hp.len; dsimp only at this; rw[show(al to).length=to.length from G1 ..]; omega
 have hm:=hp.mark;dsimp only at hm;change wZ _ _ aW [gV (.ref r),gV (.tup [.tup Mqa,.tup N,b0]),gV (.tup [.int m,.tup (al to)]),td,td,td,td] S Q';have hT:∀ {S:aa},∀x∈al to,Thg S x:=GB;generalize al to=T at hl hT;have l0:∀(S:aa) (Q:QW),Q (.int (a:Hg),S)->wO (g8 (.tup [.tup Mqa,.tup N,b0]) (.int 0) S) λp=>wO (Bi.len.fn [p.1] p.2) Q:=λS Q q=>by
  show ac #v[] rfl (aC ?_)
  rw[hM]; exact q
 have l1:∀(S:aa) (Q:QW),Q (.int (n:Hg),S)->wO (g8 (.tup [.tup Mqa,.tup N,b0]) (.int 1) S) λp=>wO (Bi.len.fn [p.1] p.2) Q:=λS Q q=>by
  show ac #v[] rfl (aC ?_)
  rw[hN]; exact q
 generalize W.tup [.tup Mqa,.tup N,b0]=R at l0 l1;have tT:∀ {S:aa},Thg S (.tup T):=.tup hT ∅
 have hD:∀ {S:aa},∀x∈T.dropLast,Thg S x:=λx hx=>hT x (MX _ hx)
 have tS:∀ {S:aa} {zs:G0 W} {y:W},(∀x∈zs,Thg S x)->zs.length<=50->Thg S y->Thg S (.tup (zs++[y])):=λh hz hy=>.tup (fa h (fc hy fn)) (by rw[G3]; show _+1<=_; omega)
 have t2:∀ {S:aa} {x y:W},Thg S x->Thg S y->Thg S (.tup [x,y]):=λhx hy=>.tup (fc hx (fc hy fn)) (HU rfl)
 have sd:∀S:aa,fE (.tup T) td (gV (-1)) S=gV (.tup (T.dropLast),S):=λS=>by
  simp only[fE,iq]
 have s1:∀S:aa,fE (.tup T) (gV 1) td S=gV (.tup (T.drop 1),S):=λS=>by rw[show(1:Hg)=((1:G9):Hg)from rfl]; simp only[fE,kg]
 have dl:T.dropLast.length<=50:=by rw[Ja]; omega
 have fw:∀ {zs:G0 W} {y:W},zs.length<=50->(zs++[y]).length<=sizeLine:=λhz=>cL (by rw[G3]; show _+1<=_; omega)
 dsimp only[aW];show st ?_;dsimp only[wS,wE,wV,wG,wU];show ab (show cF [3,4] [.int m,.tup T] [gV (.ref r),gV R,gV (.tup [.int m,.tup T]),td,td,td,td]=gV [gV (.ref r),gV R,gV (.tup [.int m,.tup T]),gV (.int m),gV (.tup T),td,td]from rfl) ?_
 show st ?_;left;show l1 _ _ ?_;nofun
 dsimp only[wS,wE,wA,wP,wV,wG,wN,Hh];show rM (ab (aQ (fw hl)) ?_);dsimp only;show ab (s1 _) (hK _ _ ?_);clear hK K;have M1:∃xs,(S++[O.lst [.int m,.tup T]]++[O.lst (T)]++[O.lst [.ref S.length,.tup [.int m,.ref (S++[O.lst [.int m,.tup T]]).length],.tup [.int m],.tup [.int m,.tup T,.tup T],.tup [.int m,.tup (T++[.int 0])],.tup [.int m,.tup (T.drop 1)]]])[(S++[O.lst [.int m,.tup T]]++[O.lst (T)]).length]?=gV (O.lst xs)/\xs.length=6/\∀x∈xs,Thg (S++[O.lst [.int m,.tup T]]++[O.lst (T)]++[O.lst [.ref S.length,.tup [.int m,.ref (S++[O.lst [.int m,.tup T]]).length],.tup [.int m],.tup [.int m,.tup T,.tup T],.tup [.int m,.tup (T++[.int 0])],.tup [.int m,.tup (T.drop 1)]]]) x:=by
  show#[_,aj,rfl,?_];show fc (.lst #[_,ay (ay aj)]) (fc (t2 .int (.lst #[_,ay aj])) (fc (.tup (fc .int fn) (HU rfl)) (fc (.tup (fc .int (fc tT (fc tT fn))) (HU rfl)) (fc (t2 .int (tS hT hl .int)) (fc (t2 .int (.tup (λx hx=>hT x (Oj _ _ hx)) ?_)) fn)))))
  rw[Jp]; omega
 have k1:Ka S (S++[O.lst [.int m,.tup T]]++[O.lst (T)]++[O.lst [.ref S.length,.tup [.int m,.ref (S++[O.lst [.int m,.tup T]]).length],.tup [.int m],.tup [.int m,.tup T,.tup T],.tup [.int m,.tup (T++[.int 0])],.tup [.int m,.tup (T.drop 1)]]]):=(Ka.push.trans .push).trans .push;have hL:S.length<=(S++[O.lst [.int m,.tup T]]++[O.lst (T)]).length:=by simp
 dsimp only;generalize S++[O.lst [.int m,.tup T]]++[O.lst (T)]++[O.lst [.ref S.length,.tup [.int m,.ref (S++[O.lst [.int m,.tup T]]).length],.tup [.int m],.tup [.int m,.tup T,.tup T],.tup [.int m,.tup (T++[.int 0])],.tup [.int m,.tup (T.drop 1)]]]=S1 at M1 k1;generalize(S++[O.lst [.int m,.tup T]]++[O.lst (T)]).length=c1 at M1 hL;obtain⟨xs,e1,x1,h1⟩:=M1;have f1:=hf.ka k1;have hrl:=hf.lt;replace k1:=k1.kp r;have more:∀(S1:aa) (c1:G9) (xs ys:G0 W),S1[c1]?=gV (.lst xs)->(∀x∈xs,Thg S1 x)->(∀x∈ys,Thg S1 x)->xs.length<=50->ys.length<=50->∀Q:QW,(∀c2 S2,S2[c2]?=gV (.lst (xs++ys))->S1.length<=c2->(∀x∈xs++ys,Thg S2 x)->Ka S1 S2->Q (.ref c2,S2))->wO (iD .add (.ref c1) (.ref S1.length) (S1++[.lst ys])) Q:=by
  intro S1 c1 xs ys e1 h1 h2 hx hy Q kk;show ab (kb (ay e1) aj (cL (by rw[G3]; omega))) (kk _ _ aj (by simp) (λx hx=>?_) (Ka.push.trans .push))
  exact(fa h1 h2 x hx).ka (Ka.push.trans .push)
 nofun
 dsimp only[wS,wE,wA,wP,wV,wG,wN,Hh];show l0 _ _ (ab ie ?_);dsimp only;show ab (show Bi.str.fn [.int m] S1=gV (.str (IW (toString m)),S1) by simp only[Bi.fn,yS]; rw[HE ∅]) ?_
 dsimp only;show more S1 c1 xs _ e1 h1 (fc (t2 tT .int) (fc .non (fc (t2 .int tT) (fc (t2 .int tT) (fc (t2 .bl tT) (fc (t2 .str tT) fn)))))) ∅ (HU rfl) _ λc2 S2 e2 hc2 h2 k2=>hK _ _ ?_
 clear hK K;have x2:(xs++[W.tup [.tup T,.int m],.non,.tup [.int (a:Hg),.tup T],.tup [.int (-1),.tup T],.tup [.bl (m==1),.tup T],.tup [.str (IW (toString m)),.tup T]]).length=12:=by rw[G3,x1]; rfl
 generalize xs++[W.tup [.tup T,.int m],.non,.tup [.int (a:Hg),.tup T],.tup [.int (-1),.tup T],.tup [.bl (m==1),.tup T],.tup [.str (IW (toString m)),.tup T]]=xs2 at e2 h2 x2;have f2:=f1.ka k2;have q2:c2≠r:=by have:=cp e1; have:=k1.len; omega
 replace k1:=k1.trans (k2.kp r);clear h1 e1 x1 k2 hL f1;nofun
 dsimp only[wS,wE,wA,wP,wV,wG,wN,Hh];show ab (sd _) ?_;dsimp only;show ab (aQ (fw dl)) (ab (sd _) ?_);dsimp only;show ab (aQ (fw dl)) (ab (sd _) ?_);dsimp only;show ab (aQ (fw dl)) ?_;dsimp only;show more S2 c2 xs2 _ e2 h2 (fc (t2 .int (tS hD dl .int)) (fc (t2 .int (tS hD dl .int)) (fc (t2 .int (tS hD dl .bl)) fn))) ∅ (HU rfl) _ λc3 S3 e3 hc3 h3 k3=>hK _ _ ?_
 clear hK K;have x3:(xs2++[W.tup [.int m,.tup (T.dropLast++[.int (n:Hg)])],.tup [.int m,.tup (T.dropLast++[.int (-1)])],.tup [.int m,.tup (T.dropLast++[.bl true])]]).length=15:=by rw[G3,x2]; rfl
 generalize xs2++[W.tup [.int m,.tup (T.dropLast++[.int (n:Hg)])],.tup [.int m,.tup (T.dropLast++[.int (-1)])],.tup [.int m,.tup (T.dropLast++[.bl true])]]=xs3 at e3 h3 x3;have f3:=f2.ka k3;have q3:c3≠r:=by have:=cp e2; have:=k1.len; omega
 replace k1:=k1.trans (k3.kp r);clear h2 e2 x2 k3 f2;nofun
 dsimp only[wS,wE,wA,wP,wV,wG,wN,Hh];show l0 _ _ (aL (d:=d) G.pick f3 ∅ ∅ λv S4 v0 v1 f4 k4=>?_)
 dsimp only;have e4:=k4.get _ _ q3 e3;have h4:∀x∈xs3,Thg S4 x:=λx hx=>(h3 x hx).kp k4 f4
 show more S4 c3 xs3 _ e4 h4 (fc (t2 .non tT) (fc (t2 .int .non) (fc (.tup fn (IS _)) (fc .int (fc tT (fc (t2 .int tT) fn)))))) ∅ (HU rfl) _ λc5 S5 e5 hc5 h5 k5=>hK _ _ ?_
 clear hK K;have x5:(xs3++[W.tup [.non,.tup T],.tup [.int m,.non],.tup [],.int m,.tup T,.tup [.int v,.tup T]]).length=21:=by rw[G3,x3]; rfl
 generalize xs3++[W.tup [.non,.tup T],.tup [.int m,.non],.tup [],.int m,.tup T,.tup [.int v,.tup T]]=xs5 at e5 h5 x5;have f5:=f4.ka k5;have L5:S.length<=c5:=HK k1.len (HK k4.len hc5);have q5:c5≠r:=∅
 replace k1:=(k1.trans k4).trans (k5.kp r);clear h3 e3 x3 k4 k5 h4 e4 f3 f4;nofun
 left;show#[dg e5,?_];show mZ (T) (λi ys Z2 S6=>(∃a1,Z2=[td,a1,gV (.ref r),gV (.int (n:Hg))])/\(∃zs:G0 Hg,ys=al zs/\zs.length=i)/\Fl S6 r/\Kp r S5 S6) rfl rfl rfl #[rfl,#[_,rfl],#[[],rfl,rfl],f5,.refl] ?_ ?_
 ·rintro i w ys Z2 S6 hw ⟨⟨a1,rfl⟩,⟨zs,rfl,hz⟩,f6,k6⟩;show ab (show fF (.nm 1) w [td,a1,gV (.ref r),gV (.int (n:Hg))] S6=gV ([td,gV w,gV (.ref r),gV (.int (n:Hg))],S6)from rfl) ?_
  dsimp only[fA,wC,wE,wA,wV,wG];show#[λ_=>aL (d:=d) G.pick f6 ∅ ∅ λv S7 v0 v1 f7 k7=>#[#[_,rfl],#[zs++[v],?_,by rw[G3,hz]; rfl],f7,k6.trans k7],λz=>by cases z]
  unfold al; rw[Hy]; rfl
 rintro ys Z2 S6 ⟨_,⟨zs,rfl,hz⟩,f6,k6⟩;show#[kU (by rw[show(al zs).length=zs.length from G1 ..]; omega),d3 aj ?_]
 dsimp only;have e6:=ay (u:=O.lst (al zs)) (k6.get _ _ q5 e5);have f6':=f6.ka (Ka.push (o:=O.lst (al zs)));have h6:∀x∈xs5,Thg (S6++[O.lst (al zs)]) x:=λx hx=>((h5 x hx).kp k6 f6).ka .push
 replace k1:=(k1.trans k6).trans (Kp.push (o:=O.lst (al zs)));generalize S6++[O.lst (al zs)]=S7 at e6 f6' h6 k1;show jl e6 ∅ (hK _ _ ?_)
 clear hK K;have e8:(S7.set c5 (O.lst (xs5++[.tup [.int m,.tup (al zs)]])))[c5]?=gV (O.lst (xs5++[.tup [.int m,.tup (al zs)]])):=bY e6;have h8:∀x∈xs5++[.tup [.int m,.tup (al zs)]],Thg (S7.set c5 (O.lst (xs5++[.tup [.int m,.tup (al zs)]]))) x:=by
  have mo:∀l:G9,(∃xs,S7[l]?=gV (O.lst xs))->∃xs,(S7.set c5 (O.lst (xs5++[.tup [.int m,.tup (al zs)]])))[l]?=gV (O.lst xs):=λl #[xs,e]=>by
   by_cases z:l=c5
   ·subst z; exact#[_,e8]
   ·exact#[xs,by rw[cg (Ne.symm z)]; exact e]
  exact fa (λx hx=>(h6 x hx).mono mo) (fc (t2 .int (.tup GB (by rw[show(al zs).length=zs.length from G1 ..]; omega))) fn)
 have f8:Fl (S7.set c5 (O.lst (xs5++[.tup [.int m,.tup (al zs)]]))) r:=f6'.own ∅
 have k8:Kp r S (S7.set c5 (O.lst (xs5++[.tup [.int m,.tup (al zs)]]))):=k1.late L5;have x8:(xs5++[W.tup [.int m,.tup (al zs)]]).length=22:=by rw[G3,x5]; rfl
 generalize S7.set c5 (O.lst (xs5++[.tup [.int m,.tup (al zs)]]))=S8 at e8 h8 f8 k8;generalize xs5++[W.tup [.int m,.tup (al zs)]]=xs8 at e8 h8 x8;show st ?_;left;show aL (d:=d) G.pick f8 #v[] #v[] λv S9 v0 v1 f9 k9=>?_
 have hv:v.toNat < xs8.length:=∅
 exact ij (k9.get _ _ q5 e8) v0 (Hi hv) (k _ _ ((h8 _ (Iu hv)).kp k9 f9) f9 (k8.trans k9))
end
abbrev dA:Ss:=
 #v[.set 4 (.v 3),.ite (.or (.cmp .is (.v 3) (.c .non)) (.cmp .eq (.own "_law_pick" 2 #v[.v 0,.c (.int 4)]) (.c (.int 0)))) #v[.set 4 (.own "_law_pair" 4 #v[.v 0,.v 1,.v 2,.own "_law_pick" 2 #v[.v 0,.c (.int 5)]])] .nil,.asg [5,6,7] (.v 4),.loop (.nm 8) (.rng #v[.own "_law_pick" 2 #v[.v 0,.c (.int 4)]]) #v[.set 9 (.own "_law_new_point" 4 #v[.v 0,.v 1,.v 2,.v 5]),.asg [10,11] (.tup #v[.c .non,.c .non]),.ite (.cmp .isnot (.v 9) (.c .non)) #v[.set 10 (.own "_law_new_ways" 6 #v[.v 0,.v 1,.v 2,.op .add (.v 5) (.tup #v[.v 9]),.ix (.v 6) (.c (.int 0)),.ix (.v 6) (.c (.int 1))]),.set 11 (.own "_law_new_ways" 6 #v[.v 0,.v 1,.v 2,.op .add (.v 5) (.tup #v[.v 9]),.ix (.v 7) (.c (.int 0)),.ix (.v 7) (.c (.int 1))])] .nil,.ite (.and (.cmp .isnot (.v 10) (.c .non)) (.cmp .isnot (.v 11) (.c .non))) #v[.pr3 5 6 7 #v[.op .add (.v 5) (.tup #v[.v 9]),.tup #v[.ix (.v 6) (.c (.int 0)),.v 10],.tup #v[.ix (.v 7) (.c (.int 0)),.v 11]]] .nil],.set 12 (.own "_law_shuffled" 2 #v[.v 0,.bi .list #v[.bi .range #v[.bi .len #v[.v 5]]]]),.set 13 (.comp (.tup #v[.ix (.v 1) (.c (.int 0)),.bi .tuple #v[.comp (.ix (.ix (.v 2) (.c (.int 1))) (.v 1)) (.nm 1) (.seq (.v 2)) .nil [td,td,gV 1]]]) (.nm 1) (.seq (.tup #v[.v 6,.v 7])) .nil [td,td,gV 12]),.ret (.tup #v[.own "_law_part" 3 #v[.v 1,.v 5,.v 12],.ix (.v 13) (.c (.int 0)),.ix (.v 13) (.c (.int 1))])]
def AD {S:aa}{u:Wd}:aJ .ne (ak u) (.tup []) S=gV (.bl (!decide (u=[])),S):=by cases u <;> rfl
def AE {S:aa}{u:Wd}{a n:G9}(hu:GoodW a n u)(hl:u.length<=50):∀x∈u.map ag,Thg S x:=λx hx=>by
 obtain⟨p,hp,rfl⟩:=Hz.mp hx;obtain⟨i,hi,e⟩:=Lq hp;exact .pt (by rw[hu.len i p (by rw[Hi hi,e])]; omega)
def qp {M:Hs->FF}{Z:Fm}{S:aa}{e:E}{n:G9}{m:Hg}{Q:QW}(hm:m=n)(he:∀Q:QW,Q (.int m,S)->wE M e Z S Q)(hn:n<=1000)(k:∀(t:G9) S',S'[t]?=gV (.lst (aw (Ho n)))->S.length<=t->Ka S S'->Q (.ref t,S')):wE M (.bi .list #v[.bi .range #v[e]]) Z S Q:=by
 have e1:Bi.range.fn [.int m] S=gV (.ref S.length,S++[.rng 0 m]):=by
  simp only[Bi.fn,mB];rw[HE #[∅,∅]]
 have h:wO (Bi.list.fn [.ref S.length] (S++[O.rng 0 m])) Q:=by
  subst hm;exact zM aj hn (k _ _ aj (by simp) (Ka.push.trans .push))
 have g:wO (Bi.range.fn [.int m] S) λp=>wO (Bi.list.fn [p.1] p.2) Q:=by
  rw[e1];exact h
 rw[wE,wA];rw[wE,wA];exact he _ g
section
variable{defs:G0 (Hs×Df)}{fuel d:G9}{S:aa}{r:G9}{Q:QW}
def xo (G:Gen defs)(ho:Is defs ("_law_other_point" : Hs) 3 7 aW)(hg:Is defs ("_law_spoilt_thing" : Hs) 3 9 bm){Mqa N:G0 W}{b0:W}{a n:G9}{u:Wd}{p q:Pt}(hM:Mqa.length=a)(ha1:0 < a)(ha3:a<=3)(hN:N.length=n)(hn1:0 < n)(hn3:n<=3)(hu:GoodW a n u)(hp:GoodP a n u.length p)(hq:GoodP a n u.length q)(hul:u.length<=50)(hf:Fl S r)
  (k:∀w S',Thg S' w->Fl S' r->Kp r S S'->Q (w,S')) :
  wO (aF (am defs fuel (d+3)) "_law_spoilt_thing" 3 [.ref r,.tup [.tup Mqa,.tup N,b0],cW (u,p,q)] S) Q:=by
 show aq hg rfl rfl λQ' hR=>?_
 replace k:∀w S',Thg S' w->Fl S' r->Kp r S S'->Q' (.rt w,S'):=λw S' x y z=>hR _ _ (k w S' x y z)
 clear hR;change wZ _ _ bm [gV (.ref r),gV (.tup [.tup Mqa,.tup N,b0]),gV (.tup [ak u,ag p,ag q]),td,td,td,td,td,td] S Q';have ot:=λ(S:aa) (Q:QW) (s:G9) (p:Pt) (hp:GoodP a n s p) (hs:s<=50) (hf:Fl S r)=>xn (defs:=defs) (fuel:=fuel) (d:=d) (S:=S) (Q:=Q) (b0:=b0) G ho hM ha1 ha3 hN hn1 hn3 hp hs hf
 generalize W.tup [.tup Mqa,.tup N,b0]=R at ot;have ul:(u.map ag).length=u.length:=G1 ..;have tp:∀ {S:aa},Thg S (ag p):=.pt (by rw[hp.len]; omega)
 have tq:∀ {S:aa},Thg S (ag q):=.pt (by rw[hq.len]; omega)
 have tU:∀ {S:aa},∀x∈u.map ag,Thg S x:=AE hu hul;have tu:∀ {S:aa},Thg S (ak u):=.tup tU ∅
 have t3:∀ {S:aa} {x y z:W},Thg S x->Thg S y->Thg S z->Thg S (.tup [x,y,z]):=λhx hy hz=>.tup (fc hx (fc hy (fc hz fn))) (HU rfl)
 dsimp only[bm];show st ?_;dsimp only[wS,wE,wV,wG,wU];show ab (show cF [3,4,5] [ak u,ag p,ag q] [gV (.ref r),gV R,gV (.tup [ak u,ag p,ag q]),td,td,td,td,td,td]=gV [gV (.ref r),gV R,gV (.tup [ak u,ag p,ag q]),gV (ak u),gV (ag p),gV (ag q),td,td,td]from rfl) ?_
 nofun
 left;show aL (d:=d+1) G.pick hf #v[] #v[] λv S1 v0 v1 f1 k1=>hK _ _ ?_
 clear hK K;nofun
 dsimp only[wS,wT,wE,wV,wG,ie,bv,wB];show ae (Q0:=Q') (λ_ Q2 _ hr=>?_) (λ_ Q2 hn _=>aP (hn _ _ (hK _ _ ?_)))
 ·clear hK;show st ?_;left;have e2:(S1++[O.lst [ak u,ag p,ag q]]++[O.lst [.non,.tup [],.ref S1.length,.tup [ak u,ag p],.tup [ak u,ag p,ag q,ag q],.tup [ag p,ag q,ak u],.str "",ak u,.int 0]])[(S1++[O.lst [ak u,ag p,ag q]]).length]?=gV (O.lst [.non,.tup [],.ref S1.length,.tup [ak u,ag p],.tup [ak u,ag p,ag q,ag q],.tup [ag p,ag q,ak u],.str "",ak u,.int 0]):=aj;have h2:∀x∈[W.non,.tup [],.ref S1.length,.tup [ak u,ag p],.tup [ak u,ag p,ag q,ag q],.tup [ag p,ag q,ak u],.str "",ak u,.int 0],Thg (S1++[O.lst [ak u,ag p,ag q]]++[O.lst [.non,.tup [],.ref S1.length,.tup [ak u,ag p],.tup [ak u,ag p,ag q,ag q],.tup [ag p,ag q,ak u],.str "",ak u,.int 0]]) x:=
   fc .non (fc (.tup fn (IS _)) (fc (.lst #[_,ay aj]) (fc (.tup (fc tu (fc tp fn)) (HU rfl)) (fc (.tup (fc tu (fc tp (fc tq (fc tq fn)))) (HU rfl)) (fc (t3 tp tq tu) (fc .str (fc tu (fc .int fn))))))))
  have k2:Ka S1 (S1++[O.lst [ak u,ag p,ag q]]++[O.lst [.non,.tup [],.ref S1.length,.tup [ak u,ag p],.tup [ak u,ag p,ag q,ag q],.tup [ag p,ag q,ak u],.str "",ak u,.int 0]]):=Ka.push.trans .push;have hq2:(S1++[O.lst [ak u,ag p,ag q]]).length≠r:=by have:=f1.lt; simp; omega
  generalize S1++[O.lst [ak u,ag p,ag q]]++[O.lst [.non,.tup [],.ref S1.length,.tup [ak u,ag p],.tup [ak u,ag p,ag q,ag q],.tup [ag p,ag q,ak u],.str "",ak u,.int 0]]=S2 at e2 h2 k2;generalize(S1++[O.lst [ak u,ag p,ag q]]).length=c2 at e2 hq2;show st ?_;left;show aL (d:=d+1) G.pick (f1.ka k2) #v[] #v[] λv2 S3 w0 w1 f3 k3=>?_
  have hv:v2.toNat < [W.non,.tup [],.ref S1.length,.tup [ak u,ag p],.tup [ak u,ag p,ag q,ag q],.tup [ag p,ag q,ak u],.str "",ak u,.int 0].length:=by change _ < 9; omega
  exact ij (k3.get _ _ hq2 e2) w0 (Hi hv) (hr _ _ (k _ _ ((h2 _ (Iu hv)).kp k3 f3) f3 ((k1.trans (k2.kp r)).trans k3)))
 clear hn hK K;nofun
 dsimp only[wS,wT,wE,wV,wG,ie,bv,wB];show ae (Q0:=Q') (λ_ Q2 _ hr=>?_) (λ_ Q2 hn _=>aP (hn _ _ (hK _ _ ?_)))
 ·clear hK;show st ?_;left;show rM ?_;dsimp only;have e2:(S1++[O.lst (u.map ag)]++[O.lst [.ref S1.length,.non,.str "",.int 0,ag p]])[(S1++[O.lst (u.map ag)]).length]?=gV (O.lst [.ref S1.length,.non,.str "",.int 0,ag p]):=aj;have h2:∀x∈[W.ref S1.length,.non,.str "",.int 0,ag p],Thg (S1++[O.lst (u.map ag)]++[O.lst [.ref S1.length,.non,.str "",.int 0,ag p]]) x:=fc (.lst #[_,ay aj]) (fc .non (fc .str (fc .int (fc tp fn))));have k2:Ka S1 (S1++[O.lst (u.map ag)]++[O.lst [.ref S1.length,.non,.str "",.int 0,ag p]]):=Ka.push.trans .push;have hq2:(S1++[O.lst (u.map ag)]).length≠r:=by have:=f1.lt; simp; omega
  generalize S1++[O.lst (u.map ag)]++[O.lst [.ref S1.length,.non,.str "",.int 0,ag p]]=S2 at e2 h2 k2;generalize(S1++[O.lst (u.map ag)]).length=c2 at e2 hq2;show aL (d:=d+1) G.pick (f1.ka k2) #v[] #v[] λv2 S3 w0 w1 f3 k3=>?_
  have hv:v2.toNat < [W.ref S1.length,.non,.str "",.int 0,ag p].length:=by change _ < 5; omega
  exact ij (k3.get _ _ hq2 e2) w0 (Hi hv) (hr _ _ (k _ _ (t3 ((h2 _ (Iu hv)).kp k3 f3) tp tq) f3 ((k1.trans (k2.kp r)).trans k3)))
 clear hn hK K;nofun
 dsimp only[wS,wT,wE,wA,wV,wG];have tl2:K [gV (.ref r),gV R,gV (.tup [ak u,ag p,ag q]),gV (ak u),gV (ag p),gV (ag q),gV (.int v),td,td] S1:=by
  show hK _ _ ?_;clear hK K;nofun
  dsimp only[wS,wT,wE,wA,wV,wG];have tl3:K [gV (.ref r),gV R,gV (.tup [ak u,ag p,ag q]),gV (ak u),gV (ag p),gV (ag q),gV (.int v),td,td] S1:=by
   show hK _ _ ?_;clear hK K;nofun
   dsimp only[wS,wT,wE,wV,wG,zp,bv,wB];show ae (Q0:=Q') (λ_ Q2 _ hr=>?_) (λ_ Q2 hn _=>aP (hn _ _ (hK _ _ ?_)))
   ·show st ?_;left;exact ot _ _ _ p hp hul f1 λw S2 tw f2 k2=>hr _ _ (k _ _ (t3 tu tw tq) f2 (k1.trans k2))
   clear hn hK K;nofun
   dsimp only[wS,wT,wE,wV,wG,ie,bv,wB];show ae (Q0:=Q') (λ_ Q2 _ hr=>?_) (λ_ Q2 hn _=>aP (hn _ _ (hK _ _ ?_)))
   ·show st ?_;left;exact hr _ _ (k _ _ (t3 tu tp tp) f1 k1)
   show st ?_;left;exact ot _ _ _ q hq hul f1 λw S2 tw f2 k2=>k _ _ (t3 tu tp tw) f2 (k1.trans k2)
  show ab ie ?_;dsimp only[wB];show#[λ_=>ab AD ?_,λ_=>ae (Q0:=Q') (λz=>by cases z) λ_ Q3 hn3 _=>aP (hn3 _ _ tl3)]
  dsimp only[wB];show ae (Q0:=Q') (λ_ Q3 _ hr=>st ?_) (λ_ Q3 hn3 _=>aP (hn3 _ _ tl3))
  dsimp only[wS,wE,wA,wP,wV,wG,wN];show ab (show fE (ak u) td (gV (-1)) S1=gV (.tup (u.map ag).dropLast,S1) by simp only[ak,fE,iq]) ?_
  exact hr _ _ (k _ _ (t3 (.tup (λx hx=>tU x (MX _ hx)) (by rw[Ja]; omega)) tp tq) f1 k1)
 show ab ie ?_;dsimp only[wB];show#[λ_=>ab AD ?_,λ_=>ae (Q0:=Q') (λz=>by cases z) λ_ Q3 hn3 _=>aP (hn3 _ _ tl2)]
 dsimp only[wB];show ae (Q0:=Q') (λhne Q3 _ hr=>?_) (λ_ Q3 hn3 _=>aP (hn3 _ _ tl2))
 clear hK tl2;have hne:u≠[]:=by simpa using hne
 have hup:0 < u.length:=Kd.mpr hne;show st ?_;left;show aC ?_;rw[ul];show aL (d:=d+1) G.pick f1 ∅ ∅ λv2 S2 w0 w1 f2 k2=>?_
 obtain⟨at',rfl⟩ : ∃k:G9,v2=k:=#[v2.toNat,∅]
 have hat:at' < u.length:=∅
 show st ?_;dsimp only[wS,wE,wA,wP,wV,wG,wN];show ab (show fE (ak u) td (gV ((at':G9):Hg)) S2=gV (.tup ((u.map ag).take at'),S2) by simp only[ak,fE,cU]) ?_
 dsimp only;show ac (Hf _) (cq hat) ?_;show ot _ _ at' _ (hu.pt (ar (d:=(0,[])) hat)) ∅ f2 λw S3 tw f3 k3=>?_
 show ab (aQ (cL (by rw[G3,HD,ul]; show _+1<=_; omega))) ?_
 dsimp only;show ab cQ ?_;dsimp only;show ab (show fE (ak u) (gV ((at':Hg)+1)) td S3=gV (.tup ((u.map ag).drop (at'+1)),S3) by rw[show(at':Hg)+1=((at'+1:G9):Hg) by omega]; simp only[ak,fE,kg]) ?_
 dsimp only;show ab (aQ (cL (by rw[G3,G3,HD,Jp,ul]; show _+1+_<=_; omega))) ?_
 dsimp only;show hr _ _ (k _ _ (t3 (.tup (fa (fa (λx hx=>tU x (List.take_subset _ _ hx)) (fc tw fn)) (λx hx=>tU x (Oj _ _ hx))) ?_) tp tq) f3 ((k1.trans k2).trans k3))
 rw[G3,G3,HD,Jp,ul]; show _+1+_<=_; omega
def Gm (G:Gen defs)(hs:Is defs ("_law_shuffled" : Hs) 2 4 bj){Z:Fm}{S:aa}{ss:Ss}{Q:QO}{r n:G9}{z:Hg}{u:Wd}(hz:z=n)(hu:u.length=n)(hn:n<=8)(hfu:20 < fuel)(hf:Fl S r)(h0:∀P:W->Prop,P (.ref r)->wV Z 0 P)(h5:∀P:W->Prop,P (ak u)->wV Z 5 P)
  (k:∀(l:G9) (ps:G0 G9) S',S'[l]?=gV (.lst (aw ps))->ps.Nodup->(∀p∈ps,p < n)->ps.length=n->Fl S' r->Kp r S S'->wZ (am defs fuel (d+2)) fuel ss (Z.set 12 (gV (.ref l))) S' Q) :
  wZ (am defs fuel (d+2)) fuel (.cons (.set 12 (.own "_law_shuffled" 2 #v[.v 0,.bi .list #v[.bi .range #v[.bi .len #v[.v 5]]]])) ss) Z S Q:=by
 have ul:(u.map ag).length=n:=by rw[G1,hu]
 have he:∀Q:QW,Q (.int z,S)->wE (am defs fuel (d+2)) (.bi .len #v[.v 5]) Z S Q:=λQ q=>by
  dsimp only[wE,wA];show h5 _ (aC ?_);rw[ul,<- hz]; exact q
 have hx:∀Q:QW,(∀(t:G9) S',S'[t]?=gV (.lst (aw (Ho n)))->S.length<=t->Ka S S'->Q (.ref t,S'))->wE (am defs fuel (d+2)) (.bi .list #v[.bi .range #v[.bi .len #v[.v 5]]]) Z S Q:=λQ h=>qp hz he ∅ h
 clear he;generalize E.bi .list #v[.bi .range #v[.bi .len #v[.v 5]]]=c at hx ⊢;show st ?_;dsimp only[wS,wE,wA];show h0 _ (hx _ λt S1 e1 _ k1=>?_)
 dsimp only;show qo (d:=d) G hs (hf.ka k1) e1 Og (by rw[HG]; omega) (by rw[HG]; omega) λq ps S2 e2 nd mem hl _ f2 k2=>?_
 rw[HG]at hl;exact k q ps S2 e2 nd (λp hp=>Hu.mp (mem p hp)) hl f2 ((k1.kp r).trans k2)
def z8 (hfu:20 < fuel)(G:Gen defs)(P:Pai defs)(hsh:Is defs ("_law_shuffled" : Hs) 2 4 bj)(hg:Is defs ("_law_thing" : Hs) 4 14 dA){ms:G0 W}{b0:W}{ns:G0 Hs}{bs:G0 Hg}{a q:G9}{U:G0 (T×W)}{w:W}(hb:GoodB bs)(hnl:ns.length=bs.length)(hM:ms.length=a)(ha1:0 < a)(ha3:a<=3)(e:S[q]?=gV (.dic U))(hqr:q≠r)(hf:Fl S r)
  (hw:w=.non\/∃x:Wd×Pt×Pt,w=cW x/\GoodW a bs.length x.1/\GoodP a bs.length x.1.length x.2.1/\GoodP a bs.length x.1.length x.2.2/\x.1.length<=4)
  (k:∀(u:Wd) (p p2:Pt) S',GoodW a bs.length u->GoodP a bs.length u.length p->GoodP a bs.length u.length p2->u.length<=7->Fl S' r->Kp r S S'->Q (cW (u,p,p2),S')) :
  wO (aF (am defs fuel (d+5)) "_law_thing" 4 [.ref r,.tup [.tup ms,.tup (He aD ns bs),b0],.ref q,w] S) Q:=by
 show aq hg rfl rfl λQ' hR=>?_
 replace k:∀(u:Wd) (p p2:Pt) S',GoodW a bs.length u->GoodP a bs.length u.length p->GoodP a bs.length u.length p2->u.length<=7->Fl S' r->Kp r S S'->Q' (.rt (cW (u,p,p2)),S'):=λu p p2 S' h1 h2 h3 h4 h5 h6=>hR _ _ (k u p p2 S' h1 h2 h3 h4 h5 h6)
 clear hR;have hb3:1<=bs.length/\bs.length<=3:=by rcases hb with rfl|rfl|rfl|rfl|rfl|rfl <;> decide
 have zl:(He aD ns bs).length=bs.length:=by rw[IT,hnl,JM]
 change wZ _ _ dA [gV (.ref r),gV (.tup [.tup ms,.tup (He aD ns bs),b0]),gV (.ref q),gV w,td,td,td,td,td,td,td,td,td,td] S Q';dsimp only[dA];show st ?_;dsimp only[wS,wE,wV,wG,Hh];nofun
 have tl:∀(x:Wd×Pt×Pt) (S1:aa),GoodW a bs.length x.1->GoodP a bs.length x.1.length x.2.1->GoodP a bs.length x.1.length x.2.2->x.1.length<=4->Fl S1 r->Kp r S S1->K [gV (.ref r),gV (.tup [.tup ms,.tup (He aD ns bs),b0]),gV (.ref q),gV w,gV (cW x),td,td,td,td,td,td,td,td,td] S1:=by
  rintro⟨u,p,p2⟩ S1 hu hp hp2 hul f1 k1;dsimp only at hu hp hp2 hul;show hK _ _ ?_;clear hK K;show st ?_;dsimp only[wS,wE,wV,wG,wU,cW];show ab (show cF [5,6,7] [ak u,ag p,ag p2] [gV (.ref r),gV (.tup [.tup ms,.tup (He aD ns bs),b0]),gV (.ref q),gV w,gV (.tup [ak u,ag p,ag p2]),td,td,td,td,td,td,td,td,td]=gV [gV (.ref r),gV (.tup [.tup ms,.tup (He aD ns bs),b0]),gV (.ref q),gV w,gV (.tup [ak u,ag p,ag p2]),gV (ak u),gV (ag p),gV (ag p2),td,td,td,td,td,td]from rfl) ?_
  generalize W.tup [ak u,ag p,ag p2]=w4;nofun
  show oP rfl rfl ?_;dsimp only[wE,wA,wV,wG];show aL (d:=d+3) G.pick f1 #v[] #v[] λv S2 v0 v1 f2 k2=>?_
  show#[v,λi Z S'=>∃(u:Wd) (p p2:Pt) (a8 a9 a10 a11:G7 W),Z=[gV (.ref r),gV (.tup [.tup ms,.tup (He aD ns bs),b0]),gV (.ref q),gV w,gV w4,gV (ak u),gV (ag p),gV (ag p2),a8,a9,a10,a11,td,td]/\GoodW a bs.length u/\GoodP a bs.length u.length p/\GoodP a bs.length u.length p2/\u.length<=4+i/\Fl S' r/\Kp r S S',rfl,∅,#[u,p,p2,_,_,_,_,rfl,hu,hp,hp2,∅,f2,k1.trans k2],?_,?_]
  ·clear hu hp hp2 hul f1 k1 f2 k2 hK;rintro i Z S3 hi ⟨u,p,p2,a8,a9,a10,a11,rfl,hu,hp,hp2,hul,f3,k3⟩ Q2 hn2 _;dsimp only[Hh];have ul:(u.map ag).length=u.length:=G1 ..;nofun
   left;show fS (d:=d+1) G P hM ha1 ha3 zl hb3.2 hu ∅ (k3.get _ _ hqr e) hqr f3 λw9 S4 hw9 f4 k4=>hK _ _ ?_
   clear hK K;show st ?_;dsimp only[wS,wE,wA,wU];show ab (show cF [10,11] [.non,.non] [gV (.ref r),gV (.tup [.tup ms,.tup (He aD ns bs),b0]),gV (.ref q),gV w,gV w4,gV (ak u),gV (ag p),gV (ag p2),gV (.int i),gV w9,a10,a11,td,td]=gV [gV (.ref r),gV (.tup [.tup ms,.tup (He aD ns bs),b0]),gV (.ref q),gV w,gV w4,gV (ak u),gV (ag p),gV (ag p2),gV (.int i),gV w9,gV .non,gV .non,td,td]from rfl) ?_
   replace k3:=k3.trans k4;clear k4 f3;nofun
   dsimp only[wS,wT,wE,wA,wV,wG];have last:∀(w10 w11:W) (S5:aa),Fl S5 r->Kp r S S5->((w10=.non/\w11=.non)\/∃pt,w9=ag pt/\GoodP a bs.length u.length pt/\(w10=.non\/∃to:G0 Hg,w10=.tup (al to)/\to.length=u.length+1/\∀x∈to,0<=x/\x < (bs.length:Hg))/\(w11=.non\/∃to:G0 Hg,w11=.tup (al to)/\to.length=u.length+1/\∀x∈to,0<=x/\x < (bs.length:Hg)))->K [gV (.ref r),gV (.tup [.tup ms,.tup (He aD ns bs),b0]),gV (.ref q),gV w,gV w4,gV (ak u),gV (ag p),gV (ag p2),gV (.int i),gV w9,gV w10,gV w11,td,td] S5:=by
    intro w10 w11 S5 f5 k5 h;show hK _ _ ?_;clear hK K;nofun
    dsimp only[wS,wT,wE,wA,wV,wG];have stay:K [gV (.ref r),gV (.tup [.tup ms,.tup (He aD ns bs),b0]),gV (.ref q),gV w,gV w4,gV (ak u),gV (ag p),gV (ag p2),gV (.int i),gV w9,gV w10,gV w11,td,td] S5:=hK _ _ (aP (hn2 _ _ #[u,p,p2,_,_,_,_,rfl,hu,hp,hp2,∅,f5,k5]))
    rcases h with⟨rfl,rfl⟩|⟨pt,rfl,gpt,h10,h11⟩
    ·show ab (show aJ .isnot .non .non S5=gV (.bl false,S5)from rfl) #[λz=>(by cases z),λ_=>?_]
     exact ae (Q0:=Q2) (λz=>by cases z) λ_ Q3 hn3 _=>aP (hn3 _ _ stay)
    rcases h10 with rfl|⟨to,rfl,tl1,tr1⟩
    ·show ab (show aJ .isnot .non .non S5=gV (.bl false,S5)from rfl) #[λz=>(by cases z),λ_=>?_]
     exact ae (Q0:=Q2) (λz=>by cases z) λ_ Q3 hn3 _=>aP (hn3 _ _ stay)
    show ab (show aJ .isnot (.tup (al to)) .non S5=gV (.bl true,S5)from rfl) #[λ_=>?_,λz=>by cases z]
    rcases h11 with rfl|⟨to2,rfl,tl2,tr2⟩
    ·show ab (show aJ .isnot .non .non S5=gV (.bl false,S5)from rfl) ?_
     dsimp only[wB];exact ae (Q0:=Q2) (λz=>by cases z) λ_ Q3 hn3 _=>aP (hn3 _ _ stay)
    show ab (show aJ .isnot (.tup (al to2)) .non S5=gV (.bl true,S5)from rfl) ?_
    dsimp only[wB];show ae (Q0:=Q2) (λ_ Q3 hn3 _=>?_) λz=>by cases z
    show st ?_;dsimp only[wS,wE,wA,wV,wG,w3,Hh,ak];have ev:u.map ag++[ag pt]=(u++[pt]).map ag:=by rw[Hy]; rfl
    show ab (aQ (cL (by rw[G3,ul]; show _+1<=_; omega))) ?_
    dsimp only;rw[ev];show ac #v[] rfl (ac #v[] rfl ?_)
    have l1:(u++[pt]).length=u.length+1:=by rw[G3]; rfl
    exact aP (hn3 _ _ (hK _ _ (aP (hn2 _ _ #[u++[pt],(p.1,to),(p2.1,to2),_,_,_,_,rfl,gpt.snoc hu,#[hp.mark,by rw[l1]; exact tl1,tr1],#[hp2.mark,by rw[l1]; exact tl2,tr2],∅,f5,k5]))))
   rcases hw9 with⟨rfl,_⟩|⟨pt,rfl,gpt,_⟩
   ·show ab (show aJ .isnot .non .non S4=gV (.bl false,S4)from rfl) ?_
    dsimp only[wB];exact ae (Q0:=Q2) (λz=>by cases z) λ_ Q3 hn3 _=>aP (hn3 _ _ (last _ _ _ f4 k3 (.inl #[rfl,rfl])))
   ·show ab (show aJ .isnot (ag pt) .non S4=gV (.bl true,S4)from rfl) ?_
    dsimp only[wB];show ae (Q0:=Q2) (λ_ Q3 hn3 _=>?_) λz=>by cases z
    have ev:u.map ag++[ag pt]=(u++[pt]).map ag:=by rw[Hy]; rfl
    have l1:(u++[pt]).length=u.length+1:=by rw[G3]; rfl
    have gu1:=gpt.snoc hu;have nw:=λ(S:aa) (Q:QW) (h:Pt) (gh:GoodP a bs.length u.length h) (e:S[q]?=gV (.dic U)) (hf:Fl S r)=>kv (defs:=defs) (fuel:=fuel) (d:=d+2) (S:=S) (r:=r) (Q:=Q) (m0:=.tup ms) (b0:=b0) (mk:=h.1) (t0:=h.2) G P.ways zl hb3.2 gu1 (by rw[l1]; omega) (by rw[l1,gh.len]; omega) gh.way e hqr hf
    unfold ak at nw;show st ?_;dsimp only[wS,wE,wA,wV,wG,Hh,ak];show ab (aQ (cL (by rw[G3,ul]; show _+1<=_; omega))) ?_
    dsimp only;rw[ev];show ac #v[] rfl (ac #v[] rfl ?_)
    show nw _ _ p hp (k3.get _ _ hqr e) f4 λw10 S5 h10 f5 k5=>?_
    show st ?_;left;show ab (aQ (cL (by rw[G3,ul]; show _+1<=_; omega))) ?_
    dsimp only;rw[ev];show ac #v[] rfl (ac #v[] rfl ?_)
    show nw _ _ p2 hp2 ((k3.trans k5).get _ _ hqr e) f5 λw11 S6 h11 f6 k6=>aP (hn3 _ _ (last _ _ _ f6 ((k3.trans k5).trans k6) (.inr #[pt,rfl,gpt,?_,?_])))
    ·rcases h10 with h|⟨to,h1,h2,h3,_⟩
     ·exact .inl h
     ·exact .inr #[to,h1,by rw[h2,l1],h3]
    ·rcases h11 with h|⟨to,h1,h2,h3,_⟩
     ·exact .inl h
     ·exact .inr #[to,h1,by rw[h2,l1],h3]
  ·clear hu hp hp2 hul f1 k1 f2 k2;rintro Z S3 ⟨u,p,p2,a8,a9,a10,a11,rfl,hu,hp,hp2,hul,f3,k3⟩;have hul:u.length<=7:=∅
   show hK _ _ ?_;clear hK K;have ul:(u.map ag).length=u.length:=G1 ..;show Gm (d:=d+2) G hsh (u:=u) (n:=u.length) rfl rfl ∅ hfu f3 (λ_ h=>h) (λ_ h=>h) λl ps S5 e5 nd mem hl f5 k5=>?_
   dsimp only[Hh];have k35:=k3.trans k5;show st ?_;dsimp only[wS];show i4 [p,p2] ag (λ_=>true) (λh=>ag (aN h ps)) [gV (.ref l)] rfl rfl rfl rfl (HU rfl) ?_ (λh hh S6 k6=>?_) λS6 k6=>?_
   ·dsimp only[wE,wA,wV,wG];exact#[rfl,.refl]
   ·have gh:GoodP a bs.length u.length h:=by
     rcases HF.mp hh with rfl|hh
     ·exact hp
     ·cases Hk.mp hh; exact hp2
    dsimp only[fA,wC,wE,wA,wV,wG];show#[λ_=>ac #v[] rfl ?_,λz=>by cases z]
    show kA ps (λ(x:G9)=>W.int (x:Hg)) (λ_=>true) (λx=>W.int (h.2.getD x 0)) [gV (ag h)] rfl rfl rfl rfl (by rw[hl]; omega) #[l,rfl,k6.get _ _ e5,.refl] (λx hx S7 k7=>?_) λS7 k7=>?_
    ·dsimp only[fA,wC,wE,wV,wG];show#[λ_=>ac #v[] rfl (ac (Hf x) ?_ #[rfl,rfl,.refl]),λz=>by cases z]
     rw[Hr,Hc,ar (d:=0) (by rw[gh.len]; exact mem x hx)]; rfl
    ·rw[bP];show d3 aj #[rfl,?_,k7.trans .push];unfold aN ag;rw[IX]; rfl
   rw[bP];dsimp only[Hh];have k6':=k6.trans (Ka.push (o:=O.lst ([p,p2].map λh=>ag (aN h ps))))
   have e6:(S6++[O.lst ([p,p2].map λh=>ag (aN h ps))])[S6.length]?=gV (O.lst [ag (aN p ps),ag (aN p2 ps)]):=aj
   generalize S6++[O.lst ([p,p2].map λh=>ag (aN h ps))]=S7 at k6' e6
   generalize S6.length=c6 at e6;show st ?_;left;show z7 (d:=d+2) G hb hnl hu mem nd (by rw[hl]; omega) (k6'.get _ _ e5) λS8 k8=>?_
   show ij (k8.get _ _ e6) #v[] rfl (ij (k8.get _ _ e6) #v[] rfl ?_)
   have pl:(au bs u ps).length=ps.length:=aV ..;have k78:=(k6'.trans k8);have ov:∀h:Pt,GoodP a bs.length u.length h->GoodP a bs.length (au bs u ps).length (aN h ps):=λh gh=>#[gh.mark,by rw[pl]; exact G1 ..,λx hx=>by
    obtain⟨i,hi,rfl⟩:=Hz.mp hx;exact gh.way _ (wg (by rw[gh.len]; exact mem i hi))]
   exact k (au bs u ps) (aN p ps) (aN p2 ps) S8 (i5 hb hu mem nd) (ov p hp) (ov p2 hp2) (by rw[pl,hl]; exact hul) (f5.ka k78) (k35.trans (k78.kp r))
 dsimp only[wS,wT,wE,wA,wV,wG];have pr:∀S1:aa,Fl S1 r->Kp r S S1->∀(t:HA),t=true->∀Q2:QO,(∀Z' S',K Z' S'->Q2 (.nx Z',S'))->(∀o S',(∀Z',o≠.nx Z')->Q' (o,S')->Q2 (o,S'))->(t=true->mY (am defs fuel (d+4)) fuel #v[.set 4 (.own "_law_pair" 4 #v[.v 0,.v 1,.v 2,.own "_law_pick" 2 #v[.v 0,.c (.int 5)]])] [gV (.ref r),gV (.tup [.tup ms,.tup (He aD ns bs),b0]),gV (.ref q),gV w,gV w,td,td,td,td,td,td,td,td,td] S1 Q2)/\(t=false->mY (am defs fuel (d+4)) fuel .nil [gV (.ref r),gV (.tup [.tup ms,.tup (He aD ns bs),b0]),gV (.ref q),gV w,gV w,td,td,td,td,td,td,td,td,td] S1 Q2):=λS1 f1 k1 t ht=>ae (Q0:=Q') (λ_ Q3 hn3 _=>st (by
   left;show aL (d:=d+3) G.pick f1 #v[] #v[] λv S2 v0 v1 f2 k2=>?_
   obtain⟨m,rfl⟩ : ∃m:G9,v=m:=#[v.toNat,∅]
   show CD (d:=d) G P hM ha1 ha3 zl hb3.1 hb3.2 ∅ ((k1.trans k2).get _ _ hqr e) hqr f2 λu p w S3 hul hu _ gp _ gq _ f3 k3=>aP (hn3 _ _ (tl (u,p,w) S3 hu gp gq (by dsimp only; omega) f3 ((k1.trans k2).trans k3))))) λz=>by rw[ht]at z; cases z
 rcases hw with rfl|⟨x,rfl,h1,h2,h3,h4⟩
 ·show ab (show aJ .is .non .non S=gV (.bl true,S)from rfl) #[λ_=>pr S hf .refl _ rfl,λz=>by cases z]
 ·show ab (show aJ .is (cW x) .non S=gV (.bl false,S)from rfl) #[λz=>(by cases z),λ_=>?_]
  show aL (d:=d+3) G.pick hf #v[] #v[] λv S2 v0 v1 f2 k2=>?_
  show ab ie ?_;dsimp only[wB];cases hv:(v==(0:Hg))with
  | true=>exact pr S2 f2 k2 _ rfl
  | false=>exact ae (Q0:=Q') (λz=>by cases z) λ_ Q3 hn3 _=>aP (hn3 _ _ (tl x S2 h1 h2 h3 h4 f2 k2))
end
def xp {a c:G9}{bs:G0 Hg}{U:G0 (T×W)}{u:Wd}{p q:Pt}(hc:0 < c)(hb:c<=bs.length+1)(h0:0 < bs.length)(hp:GoodP a bs.length u.length p):¬ o7 a bs U c (.tup [.tup [],ag p,ag q]):=by
 rintro⟨⟨u',p',q'⟩,e,hC,hF⟩;injection e with e
 injection e with e1 e
 injection e with e2 _
 cases(xj (u:=[]) e1);have:=hF 0 hc;rw[dL h0]at this;obtain⟨k,hk,_⟩:=this;cases hk
section
variable{defs:G0 (Hs×Df)}{fuel d:G9}{S:aa}{r:G9}{Q:QW}
def xq (hg:Is defs ("_law_alike" : Hs) 2 2 dt){b:HA}(k:Q (.bl true,S)):wO (aF (am defs fuel (d+1)) "_law_alike" 2 [.bl b,.bl b] S) Q:=by
 show aq hg rfl rfl λQ' hR=>?_
 change wZ _ _ dt [gV (.bl b),gV (.bl b)] S Q';dsimp only[dt];nofun
 dsimp only[wS,wT,wE,wV,wG];show ab (show aJ .is (.bl b) .non S=gV (.bl false,S)from rfl) ?_
 dsimp only[wB];show ae (Q0:=Q') (λz=>by cases z) (λ_ Q2 hn2 _=>aP (hn2 _ _ (hK _ _ ?_)))
 clear hn2 hK K;nofun
 dsimp only[wS,wT,wE,wV,wG];have hb:sF S (.bl b) "bool" = gV true:=rfl;show ab hb #[λ_=>?_,λz=>by cases z]
 show ae (Q0:=Q') (λ_ Q2 _ hr2=>?_) (λz=>by cases z)
 show st ?_;dsimp only[wS,wE,wV,wG];show ab hb #[λ_=>ab hb #[λ_=>ab (show aJ .eq (.bl b) (.bl b) S=gV (.bl (b==b),S)from rfl) ?_,λz=>by cases z],λz=>by cases z]
 rw[II];exact hr2 _ _ (hR _ _ k)
end
abbrev cZ:Ss:=
 #v[.ite (.cmp .gt (.own "_law_pick" 2 #v[.v 0,.c (.int 3)]) (.c (.int 0))) #v[.ret (.own "_law_any_rule" 1 #v[.v 0])] .nil,.ret (.ow2 "_law_unlaying_rule" "_law_one_way_rule" 1 (.own "_law_pick" 2 #v[.v 0,.c (.int 2)]) #v[.v 0])]
abbrev jD:Ss:=
 #v[.set 1 (.own "_law_flow" 1 #v[.v 0]),.set 2 (.own "_law_some_rule" 1 #v[.v 1]),.set 3 (.own "_law_bad" 1 #v[.v 2]),.set 4 (.own "_law_thing" 4 #v[.v 1,.v 2,.v 3,.own "put_on" 1 #v[.v 2]]),.set 5 (.own "_law_spoilt_thing" 3 #v[.v 1,.v 2,.v 4]),.set 6 (.tup #v[.ix (.v 4) (.c (.int 0)),.ix (.v 4) (.c (.int 2)),.ix (.v 4) (.c (.int 1))]),.loop (.nm 7) (.seq (.tup #v[.v 4,.v 5,.v 6,.v 4])) #v[.ite (.not (.own "_law_alike" 2 #v[.own "is_put_on" 2 #v[.v 2,.v 7],.own "_law_unfilled" 4 #v[.v 2,.v 3,.v 7,.c (.bl true)]])) #v[.ret (.c (.bl false))] .nil],.ret (.cmp .is (.own "is_put_on" 2 #v[.v 2,.tup #v[.tup .nil,.ix (.v 4) (.c (.int 1)),.ix (.v 4) (.c (.int 2))]]) (.c (.bl false)))]
structure Lw32 (defs:G0 (Hs×Df)):Prop where
 gen:Gen defs
 unl:Unl defs
 bwt:Bwt defs
 put:Is defs ("put_on" : Hs) 1 1 fW
 isp:Is defs ("is_put_on" : Hs) 2 2 dy
 pai:Pai defs
 tl3:Tl3 defs
 some':Is defs ("_law_some_rule" : Hs) 1 1 cZ
 shuf:Is defs ("_law_shuffled" : Hs) 2 4 bj
 thing:Is defs ("_law_thing" : Hs) 4 14 dA
 other:Is defs ("_law_other_point" : Hs) 3 7 aW
 spoilt:Is defs ("_law_spoilt_thing" : Hs) 3 9 bm
 flow:Is defs ("_law_flow" : Hs) 1 1 d0
 bad:Is defs ("_law_bad" : Hs) 1 4 eN
 alike:Is defs ("_law_alike" : Hs) 2 2 dt
 law:Is defs ("law" : Hs) 1 8 jD
section
variable{defs:G0 (Hs×Df)}{fuel d:G9}{S:aa}{r:G9}{Q:QW}
def xr (hfu:20 < fuel)(G:Gen defs)(P:Pai defs)(hg:Is defs ("_law_some_rule" : Hs) 1 1 cZ)(hf:Fl S r)(k:∀w S',eY w->Fl S' r->Kp r S S'->Q (w,S')):wO (aF (am defs fuel (d+8)) "_law_some_rule" 1 [.ref r] S) Q:=by
 show aq hg rfl rfl λQ' hR=>?_
 replace k:∀w S',eY w->Fl S' r->Kp r S S'->Q' (.rt w,S'):=λz S' a b c=>hR _ _ (k z S' a b c)
 clear hR;change wZ _ _ cZ [gV (.ref r)] S Q';dsimp only[cZ];nofun
 dsimp only[wS,wT,wE,wA,wV,wG];show aL (d:=d+6) G.pick hf #v[] #v[] λv S1 v0 v7 f1 k1=>?_
 show ab zq ?_;dsimp only[wB];show ae (Q0:=Q') (λ_ Q2 _ hr=>?_) (λ_ Q2 hn _=>aP (hn _ _ (hK _ _ ?_)))
 ·show st ?_;left;exact pU (d:=d+1) hfu G f1 λw S2 a b c=>hr _ _ (k w S2 a b (k1.trans c))
 show st ?_;left;show aL (d:=d+6) G.pick f1 #v[] #v[] λv2 S2 w0 w1 f2 k2=>?_
 by_cases hv:v2=0
 ·exact .inl #[by rw[hv],pV (d:=d+1) hfu G P.un f2 λw S3 a b c=>k w S3 a b ((k1.trans k2).trans c)]
 ·exact .inr #[by rw[show v2=1 by omega],sQ (d:=d+1) hfu G f2 λw S3 a b c=>k w S3 a b ((k1.trans k2).trans c)]
def xt (hfu:50 < fuel)(L:Lw32 defs){zs:G0 Hg}:∃S',am defs fuel (d+12) "law" [.ref 0] [.fro (zs.map W.int)]=gV (.bl true,S'):=by
 suffices h:wO (aF (am defs fuel (d+12)) "law" 1 [.ref 0] [.fro (zs.map W.int)]) (λp=>p.1=.bl true) by
  obtain⟨⟨v,S'⟩,e,q⟩:=bI h;cases(show v=.bl true from q)
  exact#[S',e]
 have G:=L.gen;show aq L.law rfl rfl λQ' hR=>?_
 change wZ _ _ jD [gV (.ref 0),td,td,td,td,td,td,td] [.fro (zs.map W.int)] Q';unfold jD;nofun
 left;show CA (d:=d+10) L.flow (ns:=zs) rfl λr S1 _ f1=>hK _ _ ?_
 clear hK K;nofun
 left;show xr (d:=d+3) ∅ G L.pai L.some' f1 λw S2 hw f2 _=>hK _ _ ?_
 clear hK K f1;obtain⟨a,bs,ms,ns,gs0,rfl,hr⟩:=hw;have hb:=hr.size.good;have hnl:=hr.nl;have hml:=hr.ml;have hpos:=hr.size.pos;have ha3:=hr.size.a3;have pm:(im gs0).Perm gs0:=uO;have hgs:∀g∈im gs0,GoodW a bs.length g/\g.length=3:=λg hg=>sY hb (hr.mem g (pm.mem_iff.mp hg))
 have h64:(im gs0).length<=100:=by
  have h1:=m3 gs0 _ hr.nd hr.mem;have h2:=m5 hr.size;rw[pm.length_eq]; omega
 clear hr pm;unfold eh;generalize im gs0=gs at hgs h64;clear gs0;have hb1:0 < bs.length/\bs.length<=3:=by rcases hb with rfl|rfl|rfl|rfl|rfl|rfl <;> decide
 have ml:(ms.map W.str).length=a:=by rw[G1,hml]
 have zl:(He aD ns bs).length=bs.length:=by rw[IT,hnl,JM]
 nofun
 left;show EE (d:=d+8) G L.bad hb hnl hgs h64 λq U S3 e3 h3 hq k3=>hK _ _ ?_
 clear hK K;have f3:=f2.ka k3;have hqr:q≠r:=by have:=f2.lt; omega
 clear k3 hq f2;nofun
 left;show wR (d:=d) ∅ L.unl L.put hb hnl ml ha3 hgs h64 λw U1 S4 h4 hf1 hd1 k4=>?_
 show z8 (d:=d+6) ∅ G L.pai L.shuf L.thing hb hnl ml hpos ha3 (k4.get _ _ e3) hqr (f3.ka k4) ?_ λu p p2 S5 hu hp hp2 hul f5 k5=>hK _ _ ?_
 ·rcases hf1 with⟨h,_⟩|⟨x,h,hC,_,hl⟩
  ·exact .inl h
  ·exact .inr #[x,h,hC.gu,hC.gp,hC.gq,∅]
 clear hK K;have e5:=k5.get _ _ hqr (k4.get _ _ e3);clear k5 k4 e3 f3 hf1 hd1 h4;nofun
 left;show xo (d:=d+8) G L.other L.spoilt ml hpos ha3 zl hb1.1 hb1.2 hu hp hp2 ∅ f5 λw6 S6 t6 f6 k6=>hK _ _ ?_
 clear hK K;have e6:=k6.get _ _ hqr e5;clear e5 k6 f5;show st ?_;dsimp only[wS,wE,wA,wV,wG,Hh,cW];show ac #v[] rfl (ac #v[] rfl (ac #v[] rfl ?_))
 have ul:(u.map ag).length=u.length:=G1 ..;have tp:∀ {S:aa},Thg S (ag p):=.pt (by rw[hp.len]; omega)
 have tq:∀ {S:aa},Thg S (ag p2):=.pt (by rw[hp2.len]; omega)
 have tu:∀ {S:aa},Thg S (ak u):=.tup (AE hu ∅) ∅
 have t3:∀ {S:aa} {x y z:W},Thg S x->Thg S y->Thg S z->Thg S (.tup [x,y,z]):=λhx hy hz=>.tup (fc hx (fc hy (fc hz fn))) (HU rfl)
 have iu:=λ(S:aa) (Q:QW) (w:W)=>o8 (defs:=defs) (fuel:=fuel) (d:=d+3) (S:=S) (Q:=Q) (w:=w) ∅ L.unl.fil L.bwt L.isp hb hnl ml hgs h64 h3
 have uf:=λ(S:aa) (Q:QW) (w:W)=>qm (defs:=defs) (fuel:=fuel) (d:=d+8) (S:=S) (Q:=Q) (w:=w) (b0:=.tup (gs.map ak)) (q:=q) (bw:=true) L.tl3 hb hnl ml h3.get
 generalize W.tup [.tup (ms.map W.str),.tup (He aD ns bs),.tup (gs.map ak)]=R at iu uf;nofun
 show for_tup [.tup [ak u,ag p,ag p2],w6,.tup [ak u,ag p2,ag p],.tup [ak u,ag p,ag p2]] (λi Z S'=>(∃a7,Z=[gV (.ref 0),gV (.ref r),gV R,gV (.ref q),gV (.tup [ak u,ag p,ag p2]),gV w6,gV (.tup [ak u,ag p2,ag p]),a7])/\Ka S6 S') rfl rfl #[rfl,#[_,rfl],.refl] ?_ ?_
 ·rintro i w Z S7 hw ⟨⟨a7,rfl⟩,k7⟩;clear hK;have tw:Thg S7 w:=fc (P:=Thg S7) (t3 tu tp tq) (fc (t6.ka k7) (fc (t3 tu tq tp) (fc (t3 tu tp tq) fn))) w (Hn hw);show ab (show fF (.nm 7) w [gV (.ref 0),gV (.ref r),gV R,gV (.ref q),gV (.tup [ak u,ag p,ag p2]),gV w6,gV (.tup [ak u,ag p2,ag p]),a7] S7=gV ([gV (.ref 0),gV (.ref r),gV R,gV (.ref q),gV (.tup [ak u,ag p,ag p2]),gV w6,gV (.tup [ak u,ag p2,ag p]),gV w],S7)from rfl) ?_
  intro Q2 hn2 _;nofun
  dsimp only[wS,wT,wE,wA,wV,wG];show iu _ _ w tw λb S8 hb8 k8=>?_
  show uf _ _ w ((k7.trans k8).get _ _ e6) (tw.ka k8) λb' S9 hb9 k9=>?_
  have:b'=b:=by rw[JI,hb8,hb9]; rfl
  subst this;show xq (d:=d+10) L.alike ?_;dsimp only;show ab (show dc S9 (.bl true)=gV true from rfl) ?_
  exact ae (Q0:=Q2) (λz=>by cases z) (λ_ Q5 hn5 _=>aP (hn5 _ _ (hK _ _ (aP (hn2 _ _ #[#[_,rfl],(k7.trans k8).trans k9])))))
 ·rintro Z S7 ⟨⟨a7,rfl⟩,k7⟩;show hK _ _ (st ?_);left;show ac #v[] rfl (ac #v[] rfl ?_)
  show iu _ _ (.tup [.tup [],ag p,ag p2]) (t3 (.tup fn (IS _)) tp tq) λb S8 hb8 _=>?_
  have:b=false:=Jt.mpr λz=>xp hb1.1 (J3 _) hb1.1 hp (hb8.mp z)
  subst this;exact ab (show aJ .is (.bl false) (.bl false) S8=gV (.bl true,S8)from rfl) (hR _ _ rfl)
end
abbrev AF:Df:=#[["_law_script"],["_law_script","_law_flow_here","_law_rule","_law_bad_here","_law_thing_here","_law_spoilt","_law_turned_thing","_law_each"],jD]
noncomputable abbrev Tw:=Hs×G9×Df×G9
noncomputable abbrev tw (x:Hs)(i:G9)(d:Df)(a:G9):Tw:=(x,i,d,a)
abbrev TL:G0 Tw:=[tw "is_whole" 1 #[["thing"],["thing"],fg] 21,tw "is_tuple_of" 2 #[["thing","size"],["thing","size"],dq] 28,tw "is_numbers" 3 #[["thing","size"],["thing","size"],dM] 33,tw "is_world" 5 #[["rule","thing"],["rule","thing"],fj] 38,tw "is_point" 6 #[["rule","thing","ahead"],["rule","thing","ahead","mark_there"],fm] 43,tw "has_point_form" 7 #[["thing","ahead"],["thing","ahead"],cf] 50,tw "way" 8 #[["rule","world","i","j"],["rule","world","i","j"],rz] 57,tw "part" 10 #[["rule","world","points"],["rule","world","points"],gP] 62,tw "point_over" 11 #[["rule","world","ahead","point"],["rule","world","ahead","point"],dJ] 67,tw "longer_orders" 12 #[["orders","size"],["orders","size","longer","order"],aX] 72,tw "back" 14 #[["rule","way"],["rule","way"],i8] 79,tw "barred_threes" 16 #[["rule"],["rule","orders","barred","figure","order"],bq] 86,tw "three_at" 17 #[["world","i","j","k"],["world","i","j","k","one","two"],aY] 93,tw "first_barred" 18 #[["rule","world"],["rule","world"],b7] 100,tw "first_three" 19 #[["barred","world"],["barred","world","i","j","k"],bR] 107,tw "first_bar" 20 #[["barred","world"],["barred","world","last","point"],aU] 114,tw "wishes_over" 21 #[["rule","barred","world"],["rule","barred","world","found","mark","heads","size"],cu] 119,tw "longer_wishes" 22 #[["rule","heads"],["rule","heads","longer","mark","ways"],br] 124,tw "barred_by" 24 #[["rule","base","one","other"],["rule","base","one","other"],dv] 131,tw "all_bars" 25 #[["rule","barred","base","one","other"],["rule","barred","base","one","other","bars"],eZ] 136,tw "with_both" 26 #[["rule","base","one","other","number"],["rule","base","one","other","number"],dw] 143,tw "same_bar" 27 #[["one","other"],["one","other","apart"],d4] 148,tw "put_on" 29 #[["rule"],["rule"],fW] 155,tw "first_unfilled" 30 #[["rule","counted"],["rule","counted","barred","mark","other","found"],ce] 162,tw "unfilled_behind" 31 #[["rule","barred","tried","counted"],["rule","barred","tried","counted","bars","place","longer","found"],bB] 169,tw "longer_by_a_point" 32 #[["rule","barred","tried"],["rule","barred","tried","longer","point","base","others","one"],bF] 174,tw "longer_by_a_way" 33 #[["rule","barred","base","wish"],["rule","barred","base","wish","longer"],bA] 179,tw "is_put_on" 34 #[["rule","thing"],["rule","thing"],dy] 186,tw "is_base_with_two" 35 #[["rule","thing"],["rule","thing"],bN] 191,tw "_law_flow" 37 #[["_law_script"],["_law_script"],d0] 198,tw "_law_pick" 38 #[["_law_flow_here","_law_many"],["_law_flow_here","_law_many","_law_cell","_law_digit"],cG] 205,tw "_law_shuffled" 39 #[["_law_flow_here","_law_things"],["_law_flow_here","_law_things","_law_left","_law_told"],bj] 212,tw "_law_names" 40 #[["_law_flow_here","_law_many"],["_law_flow_here","_law_many"],ef] 217,tw "_law_between" 41 #[["_law_rule","_law_world_here","_law_i","_law_j"],["_law_rule","_law_world_here","_law_i","_law_j"],dk] 224,tw "_law_part" 42 #[["_law_rule","_law_world_here","_law_points"],["_law_rule","_law_world_here","_law_points","_law_told","_law_k","_law_i"],dh] 229,tw "_law_turns" 43 #[[],[],fQ] 236,tw "_law_figure" 44 #[["_law_rule","_law_three"],["_law_rule","_law_three"],dH] 241,tw "_law_bad" 45 #[["_law_rule"],["_law_rule","_law_bad_here","_law_three","_law_points"],eN] 248,tw "_law_may" 46 #[["_law_rule","_law_bad_here","_law_world_here"],["_law_rule","_law_bad_here","_law_world_here","_law_k"],eR] 255,tw "_law_last_may" 47 #[["_law_rule","_law_bad_here","_law_world_here","_law_k"],["_law_rule","_law_bad_here","_law_world_here","_law_k","_law_mark","_law_to","_law_j","_law_i"],aH] 262,tw "_law_backs" 48 #[["_law_flow_here","_law_many"],["_law_flow_here","_law_many","_law_menu"],ec] 269,tw "_law_rule_of" 49 #[["_law_flow_here","_law_marks","_law_backs_here","_law_barred"],["_law_flow_here","_law_marks","_law_backs_here","_law_barred","_law_names_here","_law_ways"],dm] 274,tw "_law_free_three" 50 #[["_law_flow_here","_law_marks","_law_ways"],["_law_flow_here","_law_marks","_law_ways","_law_told","_law_k"],b9] 279,tw "_law_sizes" 51 #[["_law_flow_here"],["_law_flow_here","_law_menu"],ee] 286,tw "_law_any_rule" 52 #[["_law_flow_here"],["_law_flow_here","_law_marks","_law_ways","_law_rule","_law_barred","_law_k"],cR] 293,tw "_law_rising" 53 #[["_law_marks"],["_law_marks","_law_told","_law_i","_law_j"],dI] 298,tw "_law_one_way_rule" 54 #[["_law_flow_here"],["_law_flow_here","_law_marks","_law_barred"],bL] 303,tw "_law_unlaying_rule" 55 #[["_law_flow_here"],["_law_flow_here","_law_form","_law_rule","_law_barred","_law_some","_law_one","_law_two","_law_between_here","_law_first","_law_marks"],bc] 308,tw "_law_new_ways" 56 #[["_law_flow_here","_law_rule","_law_bad_here","_law_world_here","_law_mark","_law_to"],["_law_flow_here","_law_rule","_law_bad_here","_law_world_here","_law_mark","_law_to","_law_k","_law_left","_law_w","_law_seen","_law_i"],aK] 315,tw "_law_world" 57 #[["_law_flow_here","_law_rule","_law_bad_here","_law_many"],["_law_flow_here","_law_rule","_law_bad_here","_law_many","_law_world_here","_law_k","_law_mark","_law_to"],du] 322,tw "_law_alike" 58 #[["_law_found","_law_due"],["_law_found","_law_due"],dt] 327,tw "_law_new_point" 59 #[["_law_flow_here","_law_rule","_law_bad_here","_law_base"],["_law_flow_here","_law_rule","_law_bad_here","_law_base","_law_first","_law_k","_law_mark","_law_to"],cx] 334,tw "_law_near" 60 #[["_law_flow_here","_law_rule","_law_bad_here","_law_base","_law_point"],["_law_flow_here","_law_rule","_law_bad_here","_law_base","_law_point","_law_mark","_law_to","_law_kind","_law_at"],fe] 341,tw "_law_pair" 61 #[["_law_flow_here","_law_rule","_law_bad_here","_law_many"],["_law_flow_here","_law_rule","_law_bad_here","_law_many","_law_base","_law_one","_law_other"],ff] 348,tw "_law_both" 62 #[["_law_rule","_law_base","_law_one","_law_other","_law_number"],["_law_rule","_law_base","_law_one","_law_other","_law_number"],di] 355,tw "_law_fills" 63 #[["_law_rule","_law_bad_here","_law_base","_law_one","_law_other"],["_law_rule","_law_bad_here","_law_base","_law_one","_law_other","_law_found","_law_number"],dz] 362,tw "_law_is_world" 64 #[["_law_rule","_law_thing_here"],["_law_rule","_law_thing_here","_law_k","_law_point","_law_number","_law_numbers","_law_many"],b8] 367,tw "_law_unfilled" 65 #[["_law_rule","_law_bad_here","_law_thing_here","_law_by_ways"],["_law_rule","_law_bad_here","_law_thing_here","_law_by_ways","_law_base","_law_one","_law_other","_law_point","_law_found"],cY] 374,tw "_law_thing" 66 #[["_law_flow_here","_law_rule","_law_bad_here","_law_told"],["_law_flow_here","_law_rule","_law_bad_here","_law_told","_law_thing_here","_law_base","_law_one","_law_other","_law_k","_law_point","_law_mine","_law_yours","_law_points","_law_told_ones"],dA] 379,tw "_law_other_point" 67 #[["_law_flow_here","_law_rule","_law_point"],["_law_flow_here","_law_rule","_law_point","_law_mark","_law_to","_law_many","_law_some"],aW] 384,tw "_law_spoilt_thing" 68 #[["_law_flow_here","_law_rule","_law_thing_here"],["_law_flow_here","_law_rule","_law_thing_here","_law_base","_law_one","_law_other","_law_kind","_law_some","_law_at"],bm] 391,tw "_law_some_rule" 69 #[["_law_flow_here"],["_law_flow_here"],cZ] 398,tw "law" 70 AF 405]
abbrev jo:G0 (Hs×Df):=TL.map λp=>(p.1,p.2.2.1)
abbrev Gn:G0 (Hs×G9):=TL.map λp=>(p.1,p.2.2.1.ps.length)
abbrev z9:G0 Hs:=["range","len","list","tuple","int","sorted","isinstance","bool","str","all","min","enumerate"]
abbrev CY:Md:=#[Gn,z9]
abbrev BD (x:Hs)(st:J8)(df:Df):Prop:=∀(kV doc pm:G4) (an:G7 Hb) (cdv ct:G4) (us:G0 G4),us.length=df.ps.length->bindArgs (Jz x x (dE st) (cv st) (aS st) .none kV doc pm an cdv ct) #[us,[]]=pure (df.ps.zip us)
def GC {us:G0 G4}(h:us.length=0):us=[]:=Kg.mp h
def uc {us:G0 G4}{n:G9}(h:us.length=n+1):∃a t,us=a::t/\t.length=n:=by
 cases us with
 | nil=>cases h
 | cons a t=>exact#[a,t,rfl,Qm h]
def GD {us:G0 G4}(h:us.length=1):∃a,us=[a]:=by obtain⟨a,t,rfl,g⟩:=uc h; cases GC g; exact#[a,rfl]
def GF {us:G0 G4}(h:us.length=2):∃a b,us=[a,b]:=by obtain⟨a,t,rfl,g⟩:=uc h; obtain⟨b,rfl⟩:=GD g; exact#[a,b,rfl]
def GH {us:G0 G4}(h:us.length=3):∃a b c,us=[a,b,c]:=by obtain⟨a,t,rfl,g⟩:=uc h; obtain⟨b,c,rfl⟩:=GF g; exact#[a,b,c,rfl]
def GJ {us:G0 G4}(h:us.length=4):∃a b c d,us=[a,b,c,d]:=by obtain⟨a,t,rfl,g⟩:=uc h; obtain⟨b,c,d,rfl⟩:=GH g; exact#[a,b,c,d,rfl]
def GK {us:G0 G4}(h:us.length=5):∃a b c d e,us=[a,b,c,d,e]:=by obtain⟨a,t,rfl,g⟩:=uc h; obtain⟨b,c,d,e,rfl⟩:=GJ g; exact#[a,b,c,d,e,rfl]
def GV {us:G0 G4}(h:us.length=6):∃a b c d e f,us=[a,b,c,d,e,f]:=by obtain⟨a,t,rfl,g⟩:=uc h; obtain⟨b,c,d,e,f,rfl⟩:=GK g; exact#[a,b,c,d,e,f,rfl]
abbrev DG (p:Tw):Prop:=DU CY (lu p.2.1) p.2.2.1/\FnScope p.2.2.1.N p.2.2.1.ps (aS (lu p.2.1))/\BD p.1 (lu p.2.1) p.2.2.1
def gc {α:Type}{F:α->Prop}{p:α}{L:G0 α}(a:F p)(b:∀q∈L,F q):∀q∈p::L,F q:=Lm.mpr #[a,b]
def gn {α:Type}{F:α->Prop}:∀q∈([]:G0 α),F q:=λ_ h=>nomatch h
def GX {p:Tw}(a:re (cS 20 (vC CY (lu p.2.1) p.2.2.1.N)) (cv (lu p.2.1))=gV p.2.2.1.body)(b:FnScope p.2.2.1.N p.2.2.1.ps (aS (lu p.2.1)))(c:BD p.1 (lu p.2.1) p.2.2.1):DG p:=#[a,b,c]
set_option maxHeartbeats 0 in
def AG:∀p∈TL,DG p:=by
 unfold TL
 repeat show gc (GX (by kernel_rfl) #[rfl,rfl,rfl,by decide +kernel,rfl,by decide +kernel,by decide +kernel] λ_ _ _ _ _ _ us h=>by
  first
   | (obtain⟨a,rfl⟩:=GD h; rfl)
   | (obtain⟨a,b,rfl⟩:=GF h; rfl)
   | (obtain⟨a,b,c,rfl⟩:=GH h; rfl)
   | (obtain⟨a,b,c,d,rfl⟩:=GJ h; rfl)
   | (obtain⟨a,b,c,d,e,rfl⟩:=GK h; rfl)
   | (obtain⟨a,b,c,d,e,f,rfl⟩:=GV h; rfl)
   | (obtain rfl:=GC h; rfl)) ?_
 exact gn
def GY {f:Hs}{m n:G9}{b:Ss}(h:((jo.lookup f).map λd=>(d.ps.length,d.N.length,d.body))=gV (m,n,b)):Is jo f m n b:=by
 rw[G6]at h;obtain⟨d,h1,h2⟩:=h;rw[Pd,Pd]at h2;exact#[d,h1,h2.1,h2.2.1,h2.2.2]
set_option maxHeartbeats 0 in
def EQ:Lw32 jo:=by
 repeat' first
  | exact GY (by kernel_rfl)
  | constructor
def kK:∀(L:G0 Tw) (x:Hs) (n:G9),(L.map λp=>(p.1,p.2.2.1.ps.length)).lookup x=gV n->∃p∈L,p.1=x/\p.2.2.1.ps.length=n/\(L.map λp=>(p.1,p.2.2.1)).lookup x=gV p.2.2.1
 | [],x,n,h=>by cases h
 | p::L,x,n,h=>by
  rw[IK,IC]at h;rw[IK,IC];cases e:x==p.1 with
  | true=>
   rw[e]at h;cases h;exact#[p,Ic ..,(eq_of_beq e).symm,rfl,rfl]
  | false=>
   rw[e]at h;obtain⟨q,h1,h2,h3,h4⟩:=kK L x n h;exact#[q,HN _ h1,h2,h3,h4]
section
variable{P:HP}{w:Ii}{K:Hl}{mg:Hs->G7 G4}{base:Iv}
abbrev xu (K:Hl)(mg:Hs->G7 G4)(x:Hs)(st:J8)(df:Df):Prop:=∃(f:Hb) (fd:JB),Fun K x x st f fd/\mg x=gV (.ref f)/\Iy K (.ref f)=true/\Binds K fd df.ps []
def CN {h:Iv}{x:Hs}{st:J8}{df:Df}{f:Hb}{oc:G4}{od an:G7 Hb}{osl:Io (G7 G4)}{kV doc pm cdv ct:G4}(X:K.In h)(G:h.Ns mainGlobals mg)
  (b:BD x st df)
  (a:KB K mainGlobals x=gV (gV (.ref f))) (l:K.lookup f=gV #[oc,od,.func (Jz x x (dE st) (cv st) (aS st) .none kV doc pm an cdv ct),osl]) (c:Ke K cdv x=true) (k:Iy K (.ref f)=true):xu K mg x st df:=
 have F:=um (st:=st) l c k
 #[f,_,F,Pe X G a,k,F.binds b]
def xv {fuel:G9}(hb:MdOk w K mg CY)(D:∀p∈TL,xu K mg p.1 (lu p.2.1) p.2.2.1):∀d,Am P w K mg base CY jo fuel d
 | 0=>λf n h=>by
  obtain⟨p,h1,rfl,h2,h3⟩:=kK TL f n h;obtain⟨fa,fd,F,m,kp,b⟩:=D p h1;show#[fa,fd,p.2.2.1.ps,#[λvs H Q E z=>?_,λA outer s H args us vs Q E hr he hbd hv z=>?_],m,kp,b]
  all_goals
   obtain⟨_,_,_,_,_,_,_,_,z,_⟩:=z;cases z
 | d+1=>λf n h=>by
  obtain⟨p,h1,rfl,h2,h3⟩:=kK TL f n h;obtain⟨g1,g2,_⟩:=AG p h1;obtain⟨fa,fd,F,m,kp,b⟩:=D p h1;show#[fa,fd,p.2.2.1.ps,?_,m,kp,b];rw[<- h2];exact An F g2 h3 g1 hb (xv hb D d)
def ER {h:Iv}(X:K.In h)(G:h.Ns mainGlobals mg)(z:∀y∈z9,KB K mainGlobals y=gV td):MdOk w K mg CY:=#[λy hy=>PySem.W.mg_none_of X G (z y hy)]
end
def CO {l:Mu}{w:Ii}{K:Hl}{h:Iv}{mg:Hs->G7 G4}{fa f:Hb}(X:K.In h)(G:h.Ns mainGlobals mg)(hfa:mg "law" = gV (.ref fa))(hb:MdOk w K mg CY)(D:∀p∈TL,xu K mg p.1 (lu p.2.1) p.2.2.1)
  {oc:G4} {od an:G7 Hb} {osl:Io (G7 G4)} {kV doc pm cdv ct:G4} (a:KB K mainGlobals "law" = gV (gV (.ref f))) (l':K.lookup f=gV #[oc,od,.func (Jz "law" "law" (dE (lu 70)) (cv (lu 70)) (aS (lu 70)) .none kV doc pm an cdv ct),osl]) (c:Ke K cdv "law" = true) (k:Iy K (.ref f)=true) :
  ∃fd:JB,(∀(s:G5) (v:G4),NH s fd #[[v],[]] [("_law_script",v)])/\∀base:Iv,K.In base->base.Ns mainGlobals mg->FnOk l.prog w K mg base qz 12 fa fd ["_law_script"] (spF w K 1 (am jo 100 12 "law")):=by
 have e:=hfa.symm.trans (Pe X G a);cases e;have F:=um (st:=lu 70) l' c k;exact#[Jz "law" "law" (dE (lu 70)) (cv (lu 70)) (aS (lu 70)) .none kV doc pm an cdv ct,λs v=>.of_eq rfl,λbase _ _=>An (df:=AF) F #[rfl,rfl,rfl,by decide +kernel,rfl,by decide +kernel,by decide +kernel] (by rfl) (by rfl) hb (xv hb D 11)]
def Go {l:Mu}{q:HP}{loose:G0 Hs}{XP:(Hs->G7 G4)->Iv->Prop}{YP:Ii->Iv->Prop}{d:DefRec}{K:Nt->Hl}(hn:l.most=gV 63)(hdf:d.params.defaults=[])
  (hY:∀(w:Ii) (h:Iv),YP w h->(K w.params).In h)
  (F:∀(w:Ii) (mg:Hs->G7 G4) (fa:Hb) (h:Iv),(K w.params).In h->h.Ns mainGlobals mg->mg d.name=gV (.ref fa)->
   ∃fd:JB,(∀(s:G5) (u:G4),NH s fd #[[u],[]] [("_law_script",u)])/\∀base:Iv,(K w.params).In base->base.Ns mainGlobals mg->FnOk l.prog w (K w.params) mg base qz 12 fa fd ["_law_script"] (spF w (K w.params) 1 (am jo 100 12 "law"))) :
  O4 q loose XP YP l.row.toRowW d [] (λf vs=>ON f vs):=
 L2.xY (n:=63) (k:=12) (x:="_law_script") (CX:=λ_=>qz) (sp:=λw=>spF w (K w.params) 1 (am jo 100 12 "law")) hn #v[] hdf #[rfl,#v[],#v[]] hY F
  (λw H a ns hl hO hS=>B8 (xt (defs:=jo) (fuel:=100) (d:=0) #v[] EQ) hO hS) λ_ _ _ _ _ z=>z
end Mi
open PySem PySem.W PyProof.Rows L2
namespace Mi
section
abbrev EL (K:Hl)(p:Tw):Prop:=KB K mainGlobals p.1=gV (gV (.ref p.2.2.2))/\K.lookup p.2.2.2=gV (kf p.2.2.2 (lu p.2.1) p.1 (FN p.2.1) (.ref (p.2.2.2 - 1))).2/\Ke K (.ref (p.2.2.2 - 1)) p.1=true/\Iy K (.ref p.2.2.2)=true
def GZ {K:Hl}{p:Tw}(e:KB K mainGlobals p.1=gV (gV (.ref p.2.2.2)))(l:K.lookup p.2.2.2=gV (kf p.2.2.2 (lu p.2.1) p.1 (FN p.2.1) (.ref (p.2.2.2 - 1))).2)(c:Ke K (.ref (p.2.2.2 - 1)) p.1=true)(k:Iy K (.ref p.2.2.2)=true):EL K p:=#[e,l,c,k]
def ES (P:Nt):∀p∈TL,EL (K0 P) p:=by
 unfold TL
 repeat show gc (GZ (by kernel_rfl) (by kernel_rfl) (by kernel_rfl) (by kernel_rfl)) ?_
 exact gn
def ET (P:Nt):∀y∈z9,KB (K0 P) mainGlobals y=gV td:=by
 unfold z9
 repeat show gc (F:=λy=>KB (K0 P) mainGlobals y=gV td) (by kernel_rfl) ?_
 exact gn
end
end Mi
end
end ZZ.Lean
open ZZ.Lean
theorem PySem.Challenge.cw_layworld_k32_put_on_looked_at_holds : PySem.Challenge.rw_layworld_k32_put_on_looked_at.Holds := by
 w_on
 show PySem.W.holds_law (Ij (Ij (Ij (Ij (Ij (Ij (Ij (Ij (Ij (Ij (Ij (Ij (Ij (Ij (Ij (Ij (Ij (Ij (Mi.s0) (by kernel_rfl)) (by kernel_rfl)) (by kernel_rfl)) (by kernel_rfl)) (by kernel_rfl)) (by kernel_rfl)) (by kernel_rfl)) (by kernel_rfl)) (by kernel_rfl)) (by kernel_rfl)) (by kernel_rfl)) (by kernel_rfl)) (by kernel_rfl)) (by kernel_rfl)) (by kernel_rfl)) (by kernel_rfl)) (by kernel_rfl)) (by kernel_rfl)) (λsaid=>?_)
 show PySem.W.holds_open (q:=Mi.vq) (loose:=Mi.lo) (Xt:=λs=>Pi Mi.vq [] s&&O5 [] s) (XP:=PySem.W.XL Mi.vq []) (Yf:=Mi.hk.obs) (Ya:=Mi.hk.val) (YP:=Mi.hk.says) (N:=4060) Mi.hl Mi.hk.of Mi.hk.keeps (λs e=>PySem.W.xl_of s (MY.mp e).1) P8 (by rfl) (by rfl) (by rfl) (λs e=>PySem.W.recFacts_of (MY.mp e).2) (by rfl) said (by decide +kernel) #[rfl,rfl,rfl,rfl,rfl,by decide +kernel] ?hw ?hc
 case hw=>w_witness2
 case hc=>
 show Mi.Go (l:=LN) (K:=Mi.K0) rfl rfl (λw h Yq=>PySem.W.kIn_of Yq) ?F
 case F=>
  intro w mg fa h KX G hmg;exact Mi.CO KX G hmg (Mi.ER KX G (Mi.ET w.params)) (λp hp=>let ⟨e,l,c,k⟩:=Mi.ES w.params p hp; Mi.CN KX G (Mi.AG p hp).2.2 e l c k)
   (f:=405) (oc:=.type "function") (od:=td) (an:=td) (osl:=#[]) (kV:=.none) (doc:=.none) (pm:=(.str "law_layworld_k32_put_on_looked_at" 434)) (cdv:=.ref 404) (ct:=.none) (by kernel_rfl) (by kernel_rfl) (by kernel_rfl) (by kernel_rfl)
