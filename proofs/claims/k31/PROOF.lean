import PyProof.Rows.All
import Wide.All
import OpenK.AllK
import Wide.FinOn
import Lean
import PyProof.EqAt
import PyProof.EqKinds
import PyProof.TupleCall
import PySem.Challenge.RW_layworld_k31_unlaid_looked_at
import KE.KDictList
import PyProof.SetKind
import PyProof.IsRules
import KE.KSortTup
import PyProof.CallStr
import PyProof.Cells
import PyProof.ZipIter
import PyProof.Draws
import PyProof.EnumMake
import PyProof.WalksEnum
noncomputable section
open Option renaming some->gV,none->td
set_option hygiene false
local macro_rules|`(abbrev $i:declId $s:optDeclSig $v:declVal)=>`(noncomputable def $i:declId $s:optDeclSig $v:declVal)|`(def $i:declId $b* :$t $v:declVal)=>`(theorem $i:declId $b* :$t $v:declVal)|`(tactic|omega)=>`(tactic|first|lia|omega (config:={}))|`(tactic|show $e:term)=>`(tactic|refine $e:term)|`(tactic|left)=>`(tactic|dsimp only[wS,wE,wA,wV,wG,List.set])|`(tactic|nofun)=>`(tactic|refine aM λK hK=>?_)
local macro_rules|`(#v[])=>`((by decide))|`(#v[$x:term])=>`(.cons $x .nil)|`(#v[$x:term,$y:term,*])=>`(.cons $x #v[$y,*])
local macro_rules|`(#[$x:term])=>`(⟨$x⟩)|`(#[$x:term,$y:term,*])=>`(⟨$x,$y,*⟩)
local macro_rules|`(∅)=>`((by omega))
open _root_ renaming List->GD,Option->GN,Nat->GP,Int->G0,Bool->Hj,if_pos->Ho,decide_eq_true_eq->Hy,decide_eq_false->Hz,if_neg->HD,Array->HR,of_decide_eq_true->Ij,beq_self_eq_true->Ip,False->Iq,decide_eq_true->Iu,String->Iw,of_decide_eq_false->JB,if_false->JL,or_false->JX,if_true->J1,DecidableEq->Kf,beq_eq_false_iff_ne->Kn,forall_congr'->MY,beq_iff_eq->Nh,bne_self_eq_false->NC,True->Oh,not_or->OY,dif_pos->Pz
open List renaming length_map->GF,length_append->GJ,getElem?_map->GV,zipWith->GY,getElem?_eq_getElem->G1,set->G2,getElem?_eq_some_iff->G5,mem_singleton->G6,mem_of_getElem?->G7,range->G8,size_toArray->G9,mem_range->Hd,getD_eq_getElem?_getD->Hg,map_append->Hh,mem_map->Hi,all_eq_true->Hk,length_take->Hm,mem_cons->Hn,length_range->Hq,mem_append->Ht,mem_cons_of_mem->Hv,mem_append_right->Hw,length_singleton->HB,getElem?_append_left->HC,all_cons->HF,mem_cons_self->HH,take_add_one->HJ,length_cons->HK,getElem?_append_right->HN,take_length->HP,replicate->HU,getElem_mem->HW,not_mem_nil->Ih,lookup_cons->Ii,map_congr_left->Im,map_cons->Ir,mem_flatMap->Iv,append_nil->Iy,length_zipWith->IC,map_map->IG,range_succ->IL,length_filter_le->IP,mem_filter->IR,nodup_cons->IS,length_nil->IT,length_drop->IY,length_dropLast->Ja,getElem?_set->Jb,replicate_succ->Je,getElem?_range->Jf,getElem?_eq_none_iff->Jh,getElem_inj->Ji,mem_append_left->Jk,flatMap_append->Jr,any_cons->Jw,find?_eq_none->JC,getElem?_eq_none->JE,findIdx?_eq_some_iff_getElem->JF,flatten_cons->JM,mem_of_mem_take->JN,flatMap_cons->JO,filterMap_cons->JS,length_pos_iff->JV,length_eq_zero_iff->JY,zip_cons_cons->J2,filter_append->J4,find?_cons->J7,map_take->Kb,take_append_drop->Kd,getElem_take->Ke,mem_iff_getElem->Kj,getElem?_take_of_lt->Ks,map_inj_right->KC,append_assoc->KM,all_map->KN,ext_getElem?->KQ,take_of_length_le->KT,ext_getElem->KY,any_eq_true->K1,eq_nil_of_length_eq_zero->K4,forall_mem_cons->K5,eraseDups_cons->K8,getElem_of_mem->K9,mem_eraseDups->Lk,findSome?_eq_none_iff->Ll,getLastD_eq_getLast?->Lr,getLast?_eq_getElem?->Ls,nodup_append->Lz,set_comm->LB,isEmpty_iff->LP,perm_middle->LQ,getElem?_set_self->LS,range_succ_eq_map->LY,length_pos_of_mem->L3,drop_of_length_le->L4,getElem?_dropLast->L6,of_mem_zip->L8,forIn_cons->Ma,find?_some->Mj,length_replicate->Mk,getElem?_set_ne->Mq,forIn_nil->My,nodup_nil->Mz,take_zero->MB,length_eraseIdx->MD,dropLast_subset->ME,mem_filterMap->M5,filterMap_nil->Nf,getElem?_take->Ng,take_sublist->No,map_nil->Nv,zip_nil_left->Nw,all_eq_false->Nz,pairwise_map->NE,any_eq_false->NF,range'_succ->NR,any_toArray->NS,nodup_range->NW,flatMap_nil->NX,filter_cons->NY,drop_subset->NZ,map_id->N5,length_set->N8,nil_append->Oa,foldr_cons->Oc,head?_cons->Od,foldl->On,drop_zero->Oy,any_nil->OZ,all_nil->O0,length->O6,range'->Pb,map->PR
open PySem renaming wpAny_bind->GH,Value->GK,Shared->GL,Addr->GU,wpAny_pure->GX,Str->Hc,Expr->Hl,Program->Hx,Around->HE,World->HL,wpAny_newObj_type->HS,Heap->HX,sizeLine_eq->Ik,wpAny_callSpecial?_slot->Il,wpAny_call_entry->IA,wpAny_truthy_bool->ID,NameKind->IE,wpAny_holding->IJ,Obj->IM,codeAny_builtin->IV,wpAny_mono->IW,wpAny_field->Jl,wpAny_typeNameOfWhole_keyiter->Jm,DictEntry->Jn,Pos->Jq,Spec->Jx,FuncData->Jz,wpAny_passesOwn->JH,wpAny_typeNameOf_keyiter->JQ,Stmt->JR,mem_of_lookup->JT,Scope->JZ,plainId_quiet->J8,wpAny_seqItems->Ki,wpAny_standAt->Kr,wpAny_loadPart'->Kx,wpAny_Call_Name_kw->Kz,wpAny_bindName->KI,wpAny_dictEntries->KO,call_meets->KW,wpAny_letGo->K3,wpAny_typeOf->La,IsPart->Le,wpAny_setField->Lg,wpAny_tryCatch->Lh,wpAny_pyIter_list->Ly,wpAny_attempt->LF,wpAny_comprehension_free->LH,noFill_tuple_add->LK,wpAny_forIn_list->LL,wpAny_isInstance->LM,Paired->LR,wpAny_rule->LU,codeAny_mono->LV,Builtin->LZ,ItemsOf->L1,wpAny_execs_nil->L7,wpAny_dictEpoch->Mb,wpAny_updateSeq->Mc,pushCells_keeps->Mh,wpAny_isOneOf_keyiter->Mn,GenState->Mp,wpAny_of_eq->Mu,wpAny_pyIter_keyiter->Mv,wpAny_runValue->Mx,PassesOwn->MK,Keyword->ML,Env->MR,rangeSize_one->MS,seq_tuple_add->MT,wpAny_newList->MX,wpAny_load->M4,Params->M8,wpAny_pyIter_tuple->Nc,wpAny_assign_Name->Nk,Operator->Nm,BindsTo->Nn,concat_meets->Np,wpAny_sequenceKey->Nq,seqIndex_neg->Nr,list_append->Nt,wpAny_pyIter_enum->ND,wpAny_pyHash_int->NJ,wpAny_pyHash_str->NK,Result->NM,CmpOp->N1,seqIndex_of->N2,wpAny_mkInt->N3,exec_Assign_arm->N6,wpAny_Name->Oi,typeIs_int->Om,fitsIndex_both->Oo,call->Oq,SetTable->Os,wpAny_fieldsOf->Ou,isSubtype_stop->Ov,wpAny_newTuple->Ox,intBits_le_64->OE,evalPart_none->OG,call_list_seq->OH,wpAny_handled->OO,small_one->OU,call_range_1->OW,Model->O3,Sem->O4,IsRangeIter->O5,wpAny_throw->Pc,wpAny_alloc->Pd,BoolOp->Ps,IsEnum->Pu,Expr->Pw,IsRange->PC,Drawn->PM,Walks->PP,Tok->PX
open Option renaming map_eq_some_iff->GM,map_some->HA,isSome_iff_exists->Ig,getD_some->LO,getD_none->NO,toList->OR
open Bool renaming and_eq_true->GQ,false_ne_true->Hb,false_eq_true->Ix,or_eq_true->IK,not_eq_true'->Jc,eq_false_iff->Jd,eq_iff_iff->Jp,and_eq_false_iff->Kc,true_and->Kv,and_true->LD,false_and->Mr,and_assoc->Ms,and_eq_true_iff->MF,or_false->MU,not_true->MV,false_or->MW,not_not->NG
open PySem.Heap renaming get?_push_of_some->GR,get?_push_size->He,lt_size->Hf,get?_update_other->Ic,get?_update_self->JD,SameBut->JJ,get?_update_ne->Kq,size_push->KR,ExtBut->Mt,size_update->NU
open Int renaming natCast_nonneg->GZ,toNat_natCast->Ha,toNat_of_nonneg->JU,emod_lt_of_pos->J3,emod_nonneg->Ky,zero_add->Lc,ediv_nonneg->Oe
open Nat renaming le_refl->G3,lt_of_lt_of_le->Hr,le_trans->Hs,ne_of_lt->Hu,le_of_ble_eq_true->HI,lt_irrefl->HY,zero_le->IB,lt_succ_self->IZ,lt_trans->Jt,min_self->Ju,ne_of_gt->JK,le_succ->J0,sub_self->J5,lt_or_gt_of_ne->J6,le_of_lt->KH,lt_succ_of_lt->KS,lt_of_le_of_lt->Lj,succ_mul->LX,lt_of_succ_lt_succ->L0,mul_le_mul_right->MA,pow_le_pow_right->MC,pow_le_pow_left->MQ,add_sub_cancel->M9,sub_zero->Nx,lt_or_ge->Ny,min_eq_right->NV,not_lt_zero->Ob,min_eq_left->Of,not_lt->Ow,mul_le_mul->Oz,add_assoc->OM,ble->PZ
open PySem.W renaming Frag->G4,look_both->HM,keepIn->Iz,fnOf->Jj,kia_one->JI,codeIn->JW,nsIn->Kk,methodObj->Lv,cellsFrom_some->LW,OpenLaw->L9,kat_nil->Mg,KdlSrc->Mw,kas_sort->NT,WalkO->OI,recOk->OJ,Looks->OP,mg_of->OT,xlAt->OX
open Array renaming length_toList->HG,getElem?_toList->IN,getElem?_eq_some_iff->JA,getElem?_eq_getElem->Km,perm_iff_toList_perm->Li,append_assoc->M2,forIn_toList->Na,toList->OV,getD->Pr
open PySem.Value renaming ref->HQ,none->HZ,bool->Jo,type->Kg,int->LI,str->LJ
open Option.some renaming injEq->HV,inj->Io
open PySem.Str renaming ofString->IF
open PySem.Obj renaming mapSeq->IH,data_mapFields->KA,isFreed_of_fields->Mo,cls_mapFields->NA,mapFields->ON
open PySem.Around renaming under_plainId->II
open PySem.Builtin.Tuple renaming tupleExact->IQ,tupleItemsOf->Kh,tupleHashOf->Ln,tupleCompareSizes->NH,tupleIsExact->Ot
open ForInStep renaming yield->IU
open PySem.Builtin.Range renaming rangeSize->IX,small->K7
open PyProof.Rows renaming slot_tuple_getitem->Jg,callWith_type1->Js,assignInOrder_cons->Jy,subscriptTail_builtinR->KL,AllBare->Lw,assignInOrder_nil->Lx,listUpdate_at->LG,SortKind->LN,get?_update_seq->Mf,entry_tuple_getitem->MN,lt_int->MO,args_tuple_getitem->M6,IsTup->Nj,unpackItems_tuple->Nl,listItems_at->NB,callWith_builtin1->NN,seqEpoch_at->N4,IntsAre->Og,slicePart_none->Ol,tupleItemsOf_->OF
open PySem.Builtin.List renaming listExtendWith->Jv,listTooLong->JP,listFitsIndex->Op
open PySem.Builtin.Slice renaming slicePlaces->JG,sliceAdjust->Kl,sliceApplied->Lf,slicePartIndex->N7,sliceFields->OA
open PySem.NameKind renaming cell->J9,free->Kw
open PySem.Heap.SameBut renaming update->Ko,refl->PD
open PySem.F renaming args_tuple_add_2->Kt,entry_tuple_add->KD,plainAttrs_list->KG,slot_tuple_add->KJ,slot_tuple_index->LC,slot_dict_get->Ml
open PySem.Builtin.SmallTypes renaming ownedTupleIsFree->Ku,nextOf->Lq,ownedTupleHandOut->MP
open PySem.Env renaming kindOf->KB,blockKind->OQ
open Classical renaming propDecidable->KF,byContradiction->Lo
open Function renaming comp_def->KP
open PySem.SeqAt renaming EqAt->KU,notIn_listAt->M7,in_tupleAt->NP,in_listAt->N9
open True renaming intro->KZ
open PySem.Builtin.Dict_items renaming ownsTuple->K6
open PySem.Builtin.Builtins renaming bindParams->Lb
open PySem.Calls renaming Name_function_global->Ld,call_function_entry->Lp,Constant_str->M3
open PySem.Challenge renaming pw_layworld_k31_unlaid_looked_at->Lm,rw_layworld_k31_unlaid_looked_at->Lu
open PySem.Paired renaming length->LA
open PySem.Builtin.Dict renaming showsAll->Mm,dictSlotNone->OC,pendingCount->OD
open Sum renaming inl->MG,inr->MH
open PyProof.Rows.IsTup renaming new->MJ
open PySem.Expr renaming Name->MM,pos->PQ
open PySem.SeqAt.EqAt renaming int_str->MZ,str_int->M0,none_bool->O7,bool_none->O8,bool_bool->O9,none_int->Pe,none_str->Pf,bool_int->Pg,bool_str->Ph,int_none->Pi,int_bool->Pj,str_none->Pk,str_bool->Pl,int_int->Po,str_str->Pp,same->PJ
open PUnit renaming unit->Nb
open PySem.ScopeKind renaming function->Nd
open PySem.AutoListH renaming list___mul___list_int_3->Ni
open PySem.AutoSeq1 renaming list_extend_list_list_0->Nu,sub_tuple_tuple->OL
open PySem.Flow renaming next->NL
open PySem.IsL renaming update->NQ
open Prod renaming ext->Oj
open PySem.Builtin.Str renaming tooLong->OB
open Prod.mk renaming injEq->OS
open List.Perm renaming append_right->O1,append_left->O2,swap->PN,map->PU
open PySem.MeetsSeq renaming list_pop_at->Pa
open PySem.Heap.IsSliceOf renaming new->Pn
open PySem.Walks renaming list->Pq
open List.Nodup renaming sublist->Px
open List.Pairwise renaming nil->Py
open PySem.W.Looks renaming ld->PF
open PySem.W.XL renaming keeps->PH
open PySem.PassesOwn renaming never->PK
open List.cons renaming injEq->PL,inj->PV
open PySem.Txt renaming mul->PY
open Nat.succ renaming inj->P0
set_option genSizeOf false
namespace ZZ.Lean
noncomputable section
set_option Elab.async false
set_option linter.all false
set_option maxRecDepth 100000
namespace L2
open PySem PySem.Spec PyProof.Rows
noncomputable abbrev lQ:=Sum G0 Hc
abbrev zS:lQ->GK->Hj
 | .inl k,v=>Value.isInt k v
 | .inr x,v=>Value.isStrOf x v
abbrev ET (w:HL):lQ->G0
 | .inl k=>hashInt k
 | .inr x=>hashStr w x
def bu:∀ {k:lQ} {v:GK},zS k v=true->(∃i t,k=MG i/\v=LI i t)\/(∃x t,k=MH x/\v=LJ x t)
 | .inl i,v,h=>by
  obtain⟨t,e⟩:=Value.isInt_shape (k:=i) (v:=v) h;exact .inl #[i,t,rfl,e]
 | .inr x,v,h=>by
  obtain⟨t,e⟩:=Value.isStrOf_shape (x:=x) (v:=v) h;exact .inr #[x,t,rfl,e]
def Aw (a b:G0):decide ((MG a:lQ)=MG b)=(a==b):=by
 by_cases e:a=b
 ·subst e; simp
 ·have h:¬ (MG a:lQ)=MG b:=λq=>e (Sum.inl.inj q)
  rw[Hz h];exact(Kn.mpr e).symm
def Ax (a b:Hc):decide ((MH a:lQ)=MH b)=decide (a=b):=by
 by_cases e:a=b
 ·subst e; simp
 ·have h:¬ (MH a:lQ)=MH b:=λq=>e (Sum.inr.inj q)
  rw[Hz h,Hz e]
def Ay (a:G0)(b:Hc):decide ((MG a:lQ)=MH b)=false:=Hz (λq=>nomatch q)
def Az (a:Hc)(b:G0):decide ((MH a:lQ)=MG b)=false:=Hz (λq=>nomatch q)
abbrev lR (prog:Hx)(w:HL):PySem.KeyKind prog w lQ where
 is:=zS
 hash:=ET w
 inj:=λv a b ha hb=>by
  rcases bu ha with⟨i,t,rfl,rfl⟩|⟨x,t,rfl,rfl⟩
  ·rcases bu hb with⟨j,u,rfl,e⟩|⟨y,u,rfl,e⟩
   ·injection e with e1 _; rw[e1]
   ·exact nomatch e
  ·rcases bu hb with⟨j,u,rfl,e⟩|⟨y,u,rfl,e⟩
   ·exact nomatch e
   ·injection e with e1 _; rw[e1]
 byValue:=λk v h=>by
  rcases bu h with⟨i,t,rfl,rfl⟩|⟨x,t,rfl,rfl⟩ <;> rfl
 pyHash:=λhv h=>by
  rcases bu hv with⟨i,t,rfl,rfl⟩|⟨x,t,rfl,rfl⟩
  ·exact NJ h
  ·exact NK h
 eqBool:=λhu hv h=>by
  rcases bu hu with⟨i,t,rfl,rfl⟩|⟨x,t,rfl,rfl⟩
  ·rcases bu hv with⟨j,u,rfl,rfl⟩|⟨y,u,rfl,rfl⟩
   ·rw[Aw]at h; exact wpAny_eqBool_int h
   ·rw[Ay]at h; exact MZ i t y u _ _ _ _ h
  ·rcases bu hv with⟨j,u,rfl,rfl⟩|⟨y,u,rfl,rfl⟩
   ·rw[Az]at h; exact M0 x t j u _ _ _ _ h
   ·rw[Ax]at h; exact wpAny_eqBool_str h
 «strs»:=λk x t v h=>by
  rcases bu h with⟨i,u,rfl,e⟩|⟨y,u,rfl,e⟩
  ·exact nomatch e
  ·injection e with e1 _
   subst e1;cases v <;> rfl
inductive V where
 | non|bl (b:Hj)|int (i:G0)|str (x:Hc)|byt (b:HR UInt8)|flt (b:UInt64)|ref (a:GU)|ty (n:Iw)
 deriving Kf
abbrev RelV:V->GK->Prop
 | .non,u=>u=HZ
 | .bl b,u=>u=Jo b
 | .int i,u=>∃t,u=LI i t
 | .str x,u=>∃t,u=LJ x t
 | .byt b,u=>∃t,u=Value.bytes b t
 | .flt b,u=>∃t,u=Value.float b t
 | .ref a,u=>u=HQ a
 | .ty n,u=>u=Kg n
noncomputable abbrev Vals:GD V->GD GK->Prop:=LR RelV
def Vals.length {xs:GD V}{us:GD GK}(r:Vals xs us):xs.length=us.length:=LA r
def Vals.get:∀ {xs:GD V} {us:GD GK} {i:GP} {x:V},Vals xs us->xs[i]?=gV x->∃u,us[i]?=gV u/\RelV x u
 | _,_,_,_,.nil,e=>by simp at e
 | _,_,0,_,.cons r _,e=>by simp at e; subst e; exact#[_,rfl,r]
 | _,_,i+1,x,.cons _ t,e=>by
  obtain⟨u,h1,h2⟩:=Vals.get (i:=i) (x:=x) t (by simpa using e)
  exact#[u,by simpa using h1,h2]
def Vals.set {x:V}{u:GK}(r:RelV x u):∀ {xs:GD V} {us:GD GK} (i:GP),Vals xs us->Vals (xs.set i x) (us.set i u)
 | _,_,_,.nil=>.nil
 | _,_,0,.cons _ t=>.cons r t
 | _,_,i+1,.cons q t=>.cons q (Vals.set r i t)
def Vals.append:∀ {xs ys:GD V} {us ws:GD GK},Vals xs us->Vals ys ws->Vals (xs++ys) (us++ws)
 | _,_,_,_,.nil,s=>s
 | _,_,_,_,.cons r t,s=>.cons r (Vals.append t s)
def Vals.take:∀ {xs:GD V} {us:GD GK} (n:GP),Vals xs us->Vals (xs.take n) (us.take n)
 | _,_,0,_=>.nil
 | _,_,_+1,.nil=>.nil
 | _,_,n+1,.cons r t=>.cons r (Vals.take n t)
def Vals.drop:∀ {xs:GD V} {us:GD GK} (n:GP),Vals xs us->Vals (xs.drop n) (us.drop n)
 | _,_,0,r=>r
 | _,_,_+1,.nil=>.nil
 | _,_,n+1,.cons _ t=>Vals.drop n t
abbrev CK:GN V->GN GK->Prop
 | some v,gV u=>RelV v u
 | none,td=>Oh
 | _,_=>Iq
abbrev KV {κ:Type}:GD (κ×V)->GD (κ×GK)->Prop:=LR λ(p:κ×V) (q:κ×GK)=>p.1=q.1/\RelV p.2 q.2
abbrev kV:lQ->V
 | .inl i=>.int i
 | .inr x=>.str x
inductive HO where
 | lst (xs:GD V)
 | tup (xs:GD V)
 | dK (U:GD (lQ×V))|dT (U:GD (GD lQ×V))
 | set (S:G0->Hj) (n:GP)
 | ins (C dx:GU) (fs:GD (Hc×V))
 | own (x:GU)
 | xd (fs:GD (Hc×V))
 | met (f x:GU)
 | rng (lo hi:G0)
 | frz (o:IM) (u:HO)
 | tbl (ps:HR GK)
 | ext (φ:HX->Prop)
noncomputable abbrev Hp:=GU->GN HO
abbrev bM (H:Hp)(a:GU)(o:HO):Hp:=λb=>if b=a then gV o else H b
def aY {H:Hp}{a:GU}{o:HO}:bM H a o a=gV o:=by unfold bM; rw[Ho rfl]
def aG {H:Hp}{a b:GU}{o:HO}(h:b≠a):bM H a o b=H b:=by unfold bM; rw[HD h]
def dN {H:Hp}{a b:GU}{o:HO}(h:H a=gV o)(h':H b=td):a≠b:=by
 intro e; subst e; rw[h]at h'; cases h'
section
variable (P:Hx) (w:HL)
abbrev NoD (h:HX)(a:GU):Prop:=∃o,h.get? a=gV o/\o.dict=td
def NoD.new (h:HX)(its:HR GK)(n:GP):NoD (h.push { cls:=.type "tuple",data:=.seq its n }) h.objs.size:=#[_,He _ rfl,rfl]
abbrev ObjOk (H:Hp)(h:HX)(a:GU):HO->Prop
 | .lst xs=>xs.length<=sizeLine/\∃(its:GD GK) (n:GP),Vals xs its/\h.get? a=gV { cls:=.type "list",data:=.seq its.toArray n }
 | .tup xs=>(xs.length<=sizeLine/\NoD h a)/\∃its:GD GK,Vals xs its/\Nj h a its.toArray
 | .dK U=>U.length<=sizeLine/\(a==sysModules)=false/\∃vs,KV U vs/\h.DictOf (lR P w) a vs
 | .dT U=>U.length<=sizeLine/\(a==sysModules)=false/\∃xs:GD (GD lQ×GU×GK),
   LR (λ(p:GD lQ×V) (q:GD lQ×GU×GK)=>p.1=q.1/\H q.2.1=gV (.tup (p.1.map kV))/\RelV p.2 q.2.2) U xs/\
   ∃o es ep,h.get? a=gV o/\o.ExactDict/\o.data=.dict es ep/\es.toList=xs.map (entryOfKey (tupleKind (lR P w)))/\(xs.map (·.1)).Nodup
 | .set S n=>h.SetOf (intKind P w) a S n
 | .ins C dx fs=>H dx=gV (.own a)/\fs.length<=1000/\dx≠a/\h.get? a=gV (PySem.W.instObj C dx)/\
   ∃mA,h.Ns1 dx mA/\(∀f,CK (fs.lookup f) (mA f))/\PySem.Within mA (fs.map (·.1))
 | .own _=>∃o,h.get? a=gV o
 | .xd fs=>∃mA,h.Ns1 a mA/\∀f,CK (fs.lookup f) (mA f)
 | .rng lo hi=>∃t u v,h.get? a=gV { cls:=.type "range",data:=.fields [.int lo t,.int hi u,.int 1 v].toArray }
 | .frz o u=>h.get? a=gV o/\ObjOk H h a u
 | .tbl ps=>h.get? a=gV { cls:=.none,data:=.fields ps }
 | .met f x=>h.get? a=gV (Lv (.ref f) (.ref x))
 | .ext φ=>φ h/\(∃o,h.get? a=gV o)/\∀h1 h2:HX,φ h1->(∀o,h1.get? a=gV o->h2.get? a=gV o)->φ h2
abbrev HOk (H:Hp)(h:HX):Prop:=∀a o,H a=gV o->ObjOk P w H h a o
end
section
variable{P:Hx}{w:HL}{H H':Hp}{h h':HX}{a:GU}{o:HO}
def ObjOk.lt (x:ObjOk P w H h a o):a < h.objs.size:=by
 cases o with
 | lst xs=>obtain⟨_,_,_,_,e⟩:=x; exact Hf e
 | tup xs=>obtain⟨_,_,_,p⟩:=x; exact p.lt
 | dK U=>obtain⟨_,_,_,_,o,_,_,e,_⟩:=x; exact Hf e
 | dT U=>obtain⟨_,_,_,_,o,_,_,e,_⟩:=x; exact Hf e
 | set S n=>obtain⟨o,_,_,_,e,_⟩:=x; exact Hf e
 | ins C dx fs=>obtain⟨_,_,_,e,_⟩:=x; exact Hf e
 | own y=>obtain⟨_,e⟩:=x; exact Hf e
 | xd fs=>obtain⟨_,⟨_,_,_,e,_⟩,_⟩:=x; exact Hf e
 | rng lo hi=>obtain⟨_,_,_,e⟩:=x; exact Hf e
 | frz ob u=>obtain⟨e,_⟩:=x; exact Hf e
 | tbl ps=>exact Hf (show h.get? a=gV _ from x)
 | met f y=>exact Hf (show h.get? a=gV _ from x)
 | ext φ=>obtain⟨_,⟨_,e⟩,_⟩:=x; exact Hf e
def Paired.mapP {α β:Type}{F G:α->β->Prop}:∀ {l₁:GD α} {l₂:GD β},LR F l₁ l₂->(∀a b,F a b->G a b)->LR G l₁ l₂
 | _,_,.nil,_=>.nil
 | _,_,.cons r t,f=>.cons (f _ _ r) (Paired.mapP t f)
def ObjOk.stay (x:ObjOk P w H h a o)(k:∀b u,(b=a\/H b=gV (.own a))->h.get? b=gV u->h'.get? b=gV u)
  (ho:∀b,H b=gV (.own a)->H' b=gV (.own a)) (ht:∀b xs,H b=gV (.tup xs)->H' b=gV (.tup xs)):ObjOk P w H' h' a o:=by
 induction o with
 | lst xs=>obtain⟨z,its,n,r,e⟩:=x; exact#[z,its,n,r,k _ _ (.inl rfl) e]
 | tup xs=>obtain⟨⟨z,ob',e',d⟩,its,r,ob,e,c⟩:=x; exact#[#[z,ob',k _ _ (.inl rfl) e',d],its,r,ob,k _ _ (.inl rfl) e,c]
 | dK U=>obtain⟨z,y,vs,r,ob,es,ep,e,c⟩:=x; exact#[z,y,vs,r,ob,es,ep,k _ _ (.inl rfl) e,c]
 | dT U=>
  obtain⟨z,y,xs,r,ob,es,ep,e,c⟩:=x;exact#[z,y,xs,Paired.mapP r λp q z=>#[z.1,ht _ _ z.2.1,z.2.2],ob,es,ep,k _ _ (.inl rfl) e,c]
 | set S n=>obtain⟨ob,es,ep,t,e,c⟩:=x; exact#[ob,es,ep,t,k _ _ (.inl rfl) e,c]
 | ins C dx fs=>
  obtain⟨d,z,ne,e,mA,⟨od,es,ep,e2,c⟩,r⟩:=x;exact#[ho _ d,z,ne,k _ _ (.inl rfl) e,mA,#[od,es,ep,k _ _ (.inr d) e2,c],r]
 | own y=>obtain⟨ob,e⟩:=x; exact#[ob,k _ _ (.inl rfl) e]
 | xd fs=>obtain⟨mA,⟨od,es,ep,e,c⟩,r⟩:=x; exact#[mA,#[od,es,ep,k _ _ (.inl rfl) e,c],r]
 | rng lo hi=>obtain⟨t,u,v,e⟩:=x; exact#[t,u,v,k _ _ (.inl rfl) e]
 | frz ob u ih=>obtain⟨e,q⟩:=x; exact#[k _ _ (.inl rfl) e,ih q]
 | tbl ps=>
  have e:h.get? a=gV { cls:=.none,data:=.fields ps }:=x;change h'.get? a=gV { cls:=.none,data:=.fields ps };exact k a _ (.inl rfl) e
 | met f y=>
  have e:h.get? a=gV (Lv (.ref f) (.ref y)):=x;change h'.get? a=gV (Lv (.ref f) (.ref y));exact k a _ (.inl rfl) e
 | ext φ=>obtain⟨p,⟨o,e⟩,st⟩:=x; exact#[st _ _ p λo q=>k _ _ (.inl rfl) q,#[o,k _ _ (.inl rfl) e],st]
def HOk.lt (x:HOk P w H h)(e:H a=gV o):a < h.objs.size:=(x a o e).lt
def HOk.fresh (x:HOk P w H h)(e:h.objs.size<=a):H a=td:=by
 cases q:H a with
 | none=>rfl
 | some u=>exact absurd (Hr (x.lt q) e) (HY _)
def HOk.kept (x:HOk P w H h)(k:∀b u,h.get? b=gV u->h'.get? b=gV u):HOk P w H h':=λa o e=>
 (x a o e).stay (λb u _ q=>k b u q) (λ_ q=>q) λ_ _ q=>q
def HOk.laid (x:HOk P w H h)(k:∀b u,h.get? b=gV u->h'.get? b=gV u)(hp:h.objs.size<=a)(new:ObjOk P w (bM H a o) h' a o):HOk P w (bM H a o) h':=λb u e=>by
 have hn:=x.fresh hp
 by_cases hb:b=a
 ·subst hb; rw[aY]at e; cases e; exact new
 ·rw[aG hb]at e;exact(x b u e).stay (λc v _ q=>k c v q) (λc q=>by rw[aG (dN q hn)]; exact q) λc xs q=>by rw[aG (dN q hn)]; exact q
end
abbrev Rd (H:Hp)(a:GU)(u:HO):Prop:=H a=gV u\/∃o,H a=gV (.frz o u)
def Rd.ok {P:Hx}{w:HL}{H:Hp}{h:HX}{a:GU}{u:HO}(r:Rd H a u)(x:HOk P w H h):ObjOk P w H h a u:=by
 rcases r with r|⟨o,r⟩
 ·exact x a u r
 ·obtain⟨_,q⟩:=x a _ r;exact q
abbrev CL:GN HO->Prop
 | some (.lst _)=>Oh
 | some (.dK _)=>Oh
 | some (.dT _)=>Oh
 | some (.set _ _)=>Oh
 | some (.ins _ _ _)=>Oh
 | some (.ext _)=>Oh
 | _=>Iq
section
variable{P:Hx}{w:HL}{H:Hp}{h h':HX}{x e:GU}{o':HO}
def HOk.write (ok:HOk P w H h)(mu:CL (H x))(he:e=x\/H e=gV (.own x))(k:∀b u,b≠e->h.get? b=gV u->h'.get? b=gV u)(heo:∃u,h'.get? e=gV u)
  (new:ObjOk P w (bM H x o') h' x o'):HOk P w (bM H x o') h':=λb u q=>by
 have nown:∀c y,H c=gV (.own y)->c≠x:=λc y r z=>by subst z; rw[r]at mu; exact mu
 have ntup:∀c xs,H c=gV (.tup xs)->c≠x:=λc xs r z=>by subst z; rw[r]at mu; exact mu
 by_cases hb:b=x
 ·subst hb; rw[aY]at q; cases q; exact new
 ·rw[aG hb]at q
  by_cases hbe:b=e
  ·have q':H b=gV (.own x):=by
    rcases he with z|z
    ·exact absurd (hbe.trans z) hb
    ·rw[hbe]; exact z
   rw[q]at q'; cases q'
   obtain⟨v,hv⟩:=heo;exact#[v,by rw[hbe]; exact hv]
  ·show(ok b u q).stay (λc v hc r=>k c v ?_ r) (λc r=>by rw[aG (nown c b r)]; exact r) λc xs r=>by rw[aG (ntup c xs r)]; exact r
   rcases hc with rfl|hc
   ·exact hbe
   ·rintro rfl;rcases he with z|z
    ·exact nown c b hc z
    ·rw[hc]at z; cases z; exact hb rfl
end
structure Un (fs ex:GD GU)(H H':Hp)(h h':HX):Prop where
 keep:∀b o,h.get? b=gV o->H b=td->b∉fs->b∉ex->h'.get? b=gV o
 slot:∀b o,h.get? b=gV o->H b=td->b∈fs->b∉ex->∃sl,h'.get? b=gV { o with slots:=sl }
 free:∀b o,h.get? b=gV o->H b=td->b∉ex->H' b=td
 there:∀b o,h.get? b=gV o->b∉ex->∃o',h'.get? b=gV o'
 tups:∀b xs,H b=gV (.tup xs)->H' b=gV (.tup xs)
 frzs:∀b o u,H b=gV (.frz o u)->H' b=gV (.frz o u)
 tbls:∀b ps,H b=gV (.tbl ps)->∃more,H' b=gV (.tbl (ps++more))
section
variable{fs fs' ex ex':GD GU}{H H1 H2:Hp}{h h1 h2 h':HX}{a x e:GU}{o:HO}
def Un.any (u:Un fs ex H H1 h h1){b:GU}{ob:IM}(q:h.get? b=gV ob)(n:H b=td)(hx:b∉ex):∃sl,h1.get? b=gV { ob with slots:=sl }:=by
 by_cases hb:b∈fs
 ·exact u.slot b ob q n hb hx
 ·exact#[ob.slots,u.keep b ob q n hb hx]
def Un.trans (a:Un fs ex H H1 h h1)(b:Un fs ex H1 H2 h1 h2):Un fs ex H H2 h h2 where
 keep:=λc ob q n hc hx=>b.keep c ob (a.keep c ob q n hc hx) (a.free c ob q n hx) hc hx
 slot:=λc ob q n hc hx=>by
  obtain⟨sl,e1⟩:=a.slot c ob q n hc hx;obtain⟨sl',e2⟩:=b.slot c _ e1 (a.free c ob q n hx) hc hx;exact#[sl',e2]
 free:=λc ob q n hx=>by
  obtain⟨o',e1⟩:=a.there c ob q hx;exact b.free c o' e1 (a.free c ob q n hx) hx
 there:=λc ob q hx=>by
  obtain⟨o',e1⟩:=a.there c ob q hx;exact b.there c o' e1 hx
 tups:=λc xs q=>b.tups c xs (a.tups c xs q)
 frzs:=λc ob xs q=>b.frzs c ob xs (a.frzs c ob xs q)
 tbls:=λc ps q=>by
  obtain⟨m1,e1⟩:=a.tbls c ps q;obtain⟨m2,e2⟩:=b.tbls c _ e1;exact#[m1++m2,by rw[e2,M2]]
def Un.kept (k:∀b u,h.get? b=gV u->h'.get? b=gV u):Un fs ex H H h h':=
 #[λb ob q _ _ _=>k b ob q,λb ob q _ _ _=>#[ob.slots,k b ob q],λ_ _ _ n _=>n,λb ob q _=>#[ob,k b ob q],λ_ _ q=>q,λ_ _ _ q=>q,λ_ ps q=>#[#[],by rw[q]; simp]]
def Un.refl:Un fs ex H H h h:=Un.kept λ_ _ q=>q
def Un.laid (k:∀b u,h.get? b=gV u->h'.get? b=gV u)(hp:h.objs.size<=a)(hn:H a=td):Un fs ex H (bM H a o) h h' where
 keep:=λb u q _ _ _=>k b u q
 slot:=λb u q _ _ _=>#[u.slots,k b u q]
 free:=λb u q n _=>by rw[aG (Hu (Hr (Hf q) hp))]; exact n
 there:=λb u q _=>#[u,k b u q]
 tups:=λb xs q=>by rw[aG (dN q hn)]; exact q
 frzs:=λb u xs q=>by rw[aG (dN q hn)]; exact q
 tbls:=λb ps q=>#[#[],by rw[aG (dN q hn),q]; simp]
def Un.write (mu:CL (H x))(he:e=x\/H e=gV (.own x))(k:∀b u,b≠e->h.get? b=gV u->h'.get? b=gV u)(heo:∃u,h'.get? e=gV u):Un fs ex H (bM H x o) h h':=by
 have hx:∀b,H b=td->b≠x:=λb n z=>by subst z; rw[n]at mu; exact mu
 have hb:∀b,H b=td->b≠e:=λb n z=>by
  subst z;rcases he with r|r
  ·exact hx b n r
  ·rw[n]at r; cases r
 have hm:∀b u,H b=gV u->¬ CL (gV u)->b≠x:=λb u q nm z=>by subst z; rw[q]at mu; exact nm mu
 show#[λb u q n _ _=>k b u (hb b n) q,λb u q n _ _=>#[u.slots,k b u (hb b n) q],λb u q n _=>by rw[aG (hx b n)]; exact n,λb u q _=>?_,
  λb xs q=>by rw[aG (hm b _ q λz=>z)]; exact q,λb u xs q=>by rw[aG (hm b _ q λz=>z)]; exact q,λb ps q=>#[#[],by rw[aG (hm b _ q λz=>z),q]; simp]]
 by_cases hbe:b=e
 ·subst hbe; exact heo
 ·exact#[u,k b u hbe q]
end
abbrev EE (h:HX)(H:Hp):GD GU:=(G8 h.objs.size).filter λa=>(H a).isSome
abbrev lS (h:HX)(H:Hp):HX:=PySem.W.hideAll h (EE h H)
def rD (h:HX)(H:Hp):(lS h H).objs.size=h.objs.size:=PySem.W.hideAll_size _ _
def sX {h:HX}{H:Hp}{b:GU}{o:IM}(e:h.get? b=gV o)(n:H b=td):(lS h H).get? b=gV o:=
 PySem.W.hideAll_get _ e λhm=>by
  have q:(H b).isSome=true:=(IR.mp hm).2;rw[n]at q; simp at q
def xm {h:HX}{H:Hp}{b:GU}{o:IM}(e:(lS h H).get? b=gV o):h.get? b=gV o/\H b=td:=by
 have e':h.get? b=gV o:=PySem.W.of_hideAll (EE h H) e;show#[e',?_];cases q:H b with
 | none=>rfl
 | some x=>
  have hm:b∈EE h H:=IR.mpr #[Hd.mpr (Hf e'),by simp[q]]
  have z:(lS h H).get? b=td:=PySem.W.hideAll_none (EE h H) hm;rw[z]at e; cases e
abbrev xn (g h:HX)(L:GU):GD (GU×IM):=(G8 h.objs.size).filterMap λa=>if a=L\/(g.get? a).isSome=true then td else(h.get? a).map λo=>(a,o)
abbrev cx (g h:HX)(L d:GU):GD (GU×IM):=(xn g h L).filter λp=>decide (p.1≠d)
structure Mod (K:G4)(mg:Hc->GN GK)(base:HX):Prop where
 kin:K.In base
 glob:base.Ns mainGlobals mg
 blt:∃mb,base.Ns builtinsNs mb/\∀x:Hc,x≠"__name__"->mb x=bootBuiltins x
 nolimit:base.NoLimit
structure Cx where
 prog:Hx
 w:HL
 K:G4
 mg:Hc->GN GK
 base:HX
 A:HE
 N:GD Hc
 s₀:GL
 H₀:Hp
 env:MR
 outer:GD MR
 stack:GD MR
 ex:GD GU
 fn:Hc->Hj
 calm:Hj
 pn:GD (GU×IM)
 xe:GK->GL->Prop
abbrev o5 (l:GD MR):GD GU:=l.filterMap (·.frame)
noncomputable abbrev Cx.fs (X:Cx):GD GU:=o5 X.outer
abbrev EU (sc:JZ)(x:Hc):Prop:=sc.names.lookup x=gV .local\/sc.names.lookup x=gV .cell\/sc.names.lookup x=gV .free
abbrev xo (sc:JZ)(x:Hc):Prop:=sc.names.lookup x=gV .local\/sc.names.lookup x=gV .cell
abbrev EV (env:MR)(h:HX)(m:Hc->GN GK)(x:Hc)(u:GK):Prop:=
 (env.kindOf x=gV .local/\m x=gV u)\/((env.kindOf x=gV .cell\/env.kindOf x=gV .free)/\∃c,env.cells.lookup x=gV c/\h.IsCell c (gV u))
structure Cx.Ok (X:Cx):Prop where
 mod:Mod X.K X.mg X.base
 kind:X.env.scope.kind=.function
 glob:X.env.globals=mainGlobals
 blt:X.env.builtins=builtinsNs
 above:X.s₀.heap.objs.size<=X.env.locals
 inj:∀x y c,X.env.cells.lookup x=gV c->X.env.cells.lookup y=gV c->x=y
 has:∀x,(X.env.kindOf x=gV .cell\/X.env.kindOf x=gV .free)->∃c,X.env.cells.lookup x=gV c
 cab:∀x c,X.fn x=true->X.env.cells.lookup x=gV c->X.s₀.heap.objs.size<=c
 hd:X.calm=true->X.A.handled=td
 frames:X.A.frames=gV X.stack
 stk:X.stack=X.outer\/(X.stack=X.env::X.outer/\X.env.frame=gV X.env.locals)
 exf:∀b∈X.ex,b≠X.env.locals/\∀x c,X.env.cells.lookup x=gV c->c≠b
 bs:∀b o,X.base.get? b=gV o->X.s₀.heap.get? b=gV o/\X.H₀ b=td
 bsz:X.base.objs.size<=X.s₀.heap.objs.size
 noex:∀b o,X.base.get? b=gV o->b∉X.ex
 exfs:∀b∈X.ex,b∉X.fs
 funs:X.s₀.heap.FunFrames X.base X.outer
 frf:∀b∈X.fs,X.H₀ b=td
structure Inv (X:Cx)(J:GD (GU×IM))(Y:GD (GN V))(H:Hp)(s:GL):Prop where
 ok:X.Ok
 os:s.os=X.s₀.os
 bare:Lw s.gens
 base:Un X.fs X.ex X.H₀ H X.s₀.heap s.heap
 loc:∃m,s.heap.Ns X.env.locals m/\∀(i:GP) (x:Hc) (v:V),X.N[i]?=gV x->Y[i]?=gV (gV v)->EU X.env.scope x->∃u,RelV v u/\EV X.env s.heap m x u
 cell:∀x c,X.env.cells.lookup x=gV c->∃v,s.heap.IsCell c v
 free:H X.env.locals=td
 freeC:∀x c,X.env.cells.lookup x=gV c->H c=td
 pin:∀p∈X.pn++J,s.heap.get? p.1=gV p.2/\H p.1=td/\p.1≠X.env.locals/\p.1∉X.fs/\∀v,p.2.data≠.cell v
 hok:HOk X.prog X.w H s.heap
 len:Y.length=X.N.length
section
variable{X:Cx}{J:GD (GU×IM)}{Y:GD (GN V)}{H H':Hp}{s:GL}{h':HX}
def Cx.Ok.nofr (ok:X.Ok){b:GU}{o:IM}(e:X.base.get? b=gV o):b∉X.fs:=λhb=>by
 have:=(ok.funs.mem hb).1;rw[e]at this; cases this
def Inv.bs (I:Inv X J Y H s):∀b o,X.base.get? b=gV o->s.heap.get? b=gV o/\H b=td:=λb o e=>
 #[I.base.keep b o (I.ok.bs b o e).1 (I.ok.bs b o e).2 (I.ok.nofr e) (I.ok.noex b o e),I.base.free b o (I.ok.bs b o e).1 (I.ok.bs b o e).2 (I.ok.noex b o e)]
def Inv.bk (I:Inv X J Y H s):∀b o,X.base.get? b=gV o->s.heap.get? b=gV o:=λb o e=>(I.bs b o e).1
def Inv.mod (I:Inv X J Y H s):Mod X.K X.mg X.base:=I.ok.mod
def Inv.kIn (I:Inv X J Y H s):X.K.In s.heap:=I.ok.mod.kin.keeps I.bk
def Inv.lt (I:Inv X J Y H s):X.env.locals < s.heap.objs.size:=let ⟨_,hn,_⟩:=I.loc; hn.lt
def Inv.sz (I:Inv X J Y H s):X.s₀.heap.objs.size<=s.heap.objs.size:=Hs I.ok.above (KH I.lt)
def Inv.nofs (I:Inv X J Y H s){a:GU}(h:s.heap.objs.size<=a):a∉X.fs:=λhb=>by
 obtain⟨_,o,ho,_⟩:=I.ok.funs.mem hb;exact absurd (Hr (Hf ho) (Hs I.sz h)) (HY _)
def Inv.cne (I:Inv X J Y H s):∀x c,X.env.cells.lookup x=gV c->c≠X.env.locals:=λx c e z=>by
 obtain⟨v,o,ho,hd⟩:=I.cell x c e;obtain⟨m,⟨o',es,ep,ho',hd',_⟩,_⟩:=I.loc;rw[z,ho']at ho; cases ho; rw[hd']at hd; cases hd
def Inv.funs (I:Inv X J Y H s):s.heap.FunFrames X.base X.outer:=by
 have all:∀(l:GD MR),(∀b∈o5 l,b∈X.fs)->X.s₀.heap.FunFrames X.base l->s.heap.FunFrames X.base l:=by
  intro l
  induction l with
  | nil=>intro _ _; trivial
  | cons env r ih=>
   intro hs hl;obtain⟨hk,⟨L,o,hf,hn,ho,hd⟩,hr⟩:=hl;have hL:L∈X.fs:=hs L (by unfold o5; rw[JS,hf]; exact HH)
   obtain⟨sl,e⟩:=I.base.slot L o ho (I.ok.frf L hL) hL λz=>I.ok.exfs L z hL
   exact#[hk,#[L,_,hf,hn,e,hd],ih (λb hb=>hs b (by unfold o5; rw[JS,hf]; exact Hv _ hb)) hr]
 exact all X.outer (λ_ hb=>hb) I.ok.funs
def Inv.stack (I:Inv X J Y H s):s.heap.FunFrames X.base X.stack:=by
 rcases I.ok.stk with e|⟨e,hf⟩
 ·rw[e]; exact I.funs
 ·rw[e];obtain⟨m,hn,_⟩:=I.loc;show .cons (by rw[I.ok.kind]; decide) hf hn ?_ I.funs
  exact Heap.get?_none_of_le (Hs I.ok.bsz I.ok.above)
def Inv.stkSub (I:Inv X J Y H s):∀b∈o5 X.stack,b∈X.env.locals::X.fs:=λb hb=>by
 rcases I.ok.stk with e|⟨e,hf⟩
 ·rw[e]at hb; exact Hv _ hb
 ·rw[e]at hb;unfold o5 at hb;rw[JS,hf]at hb;exact hb
def Inv.stkFree (I:Inv X J Y H s):∀b∈o5 X.stack,H b=td:=λb hb=>by
 rcases Hn.mp (I.stkSub b hb)with e|hb
 ·rw[e]; exact I.free
 ·obtain⟨_,o,ho,_⟩:=I.ok.funs.mem hb;exact I.base.free b o ho (I.ok.frf b hb) λz=>I.ok.exfs b z hb
def Inv.step {g':HR Mp}{t':GP}{d':PM}{ch:GD GU}(I:Inv X J Y H s)
  (hch:∀b∈ch,(b∈X.ex\/X.s₀.heap.objs.size<=b)/\b≠X.env.locals/\(∀x c,X.env.cells.lookup x=gV c->c≠b)/\∀p∈X.pn++J,p.1≠b)
  (keep:∀b o,b≠X.env.locals->b∉X.fs->b∉ch->s.heap.get? b=gV o->H b=td->h'.get? b=gV o)
  (slot:∀b o,b≠X.env.locals->b∈X.fs->b∉ch->s.heap.get? b=gV o->H b=td->∃sl,h'.get? b=gV { o with slots:=sl }) (free:∀b o,b∉ch->s.heap.get? b=gV o->H b=td->H' b=td)
  (there:∀b o,b∉ch->s.heap.get? b=gV o->∃o',h'.get? b=gV o')
  (tups:∀b xs,H b=gV (.tup xs)->H' b=gV (.tup xs)) (frzs:∀b o u,H b=gV (.frz o u)->H' b=gV (.frz o u)) (tbls:∀b ps,H b=gV (.tbl ps)->∃more,H' b=gV (.tbl (ps++more)))
  (ns:∀m,s.heap.Ns X.env.locals m->h'.Ns X.env.locals m) (hok:HOk X.prog X.w H' h') (hg:Lw g') :
  Inv X J Y H' { s with heap:=h',gens:=g',drawn:=d',toks:=t' }:=by
 have neL:∀b o,X.s₀.heap.get? b=gV o->b≠X.env.locals:=λb o e=>Hu (Hr (Hf e) I.ok.above)
 have neC:∀b o,X.s₀.heap.get? b=gV o->b∉X.ex->b∉ch:=λb o e hx hb=>by
  rcases(hch b hb).1 with z|z
  ·exact hx z
  ·exact absurd (Hr (Hf e) z) (HY _)
 have cellK:∀x c,X.env.cells.lookup x=gV c->∀v,s.heap.IsCell c v->h'.IsCell c v:=λx c e v #[o,ho,hd]=>by
  have nch:c∉ch:=λz=>(hch c z).2.2.1 x c e rfl
  by_cases hc:c∈X.fs
  ·obtain⟨sl,q⟩:=slot c o (I.cne x c e) hc nch ho (I.freeC x c e);exact#[_,q,hd]
  ·exact#[o,keep c o (I.cne x c e) hc nch ho (I.freeC x c e),hd]
 show#[I.ok,I.os,hg,#[λb o e n hb hx=>?_,λb o e n hb hx=>?_,λb o e n hx=>?_,λb o e hx=>?_,λb xs e=>tups b xs (I.base.tups b xs e),λb o xs e=>frzs b o xs (I.base.frzs b o xs e),λb ps e=>?_],?_,λx c e=>?_,?_,λx c e=>?_,λp hp=>?_,hok,I.len]
 ·exact keep b o (neL b o e) hb (neC b o e hx) (I.base.keep b o e n hb hx) (I.base.free b o e n hx)
 ·obtain⟨sl,e1⟩:=I.base.slot b o e n hb hx;obtain⟨sl',e2⟩:=slot b _ (neL b o e) hb (neC b o e hx) e1 (I.base.free b o e n hx);exact#[sl',e2]
 ·obtain⟨o',e1⟩:=I.base.there b o e hx;exact free b o' (neC b o e hx) e1 (I.base.free b o e n hx)
 ·obtain⟨o',e1⟩:=I.base.there b o e hx;exact there b o' (neC b o e hx) e1
 ·obtain⟨m1,e1⟩:=I.base.tbls b ps e;obtain⟨m2,e2⟩:=tbls b _ e1;exact#[m1++m2,by rw[e2,M2]]
 ·obtain⟨m,hn,hl⟩:=I.loc;show#[m,ns m hn,λi x v e1 e2 e3=>?_]
  obtain⟨u,r,l⟩:=hl i x v e1 e2 e3;show#[u,r,?_];rcases l with l|⟨k,c,e,z⟩
  ·exact .inl l
  ·exact .inr #[k,c,e,cellK x c e _ z]
 ·obtain⟨v,z⟩:=I.cell x c e;exact#[v,cellK x c e v z]
 ·obtain⟨m,⟨o,_,_,ho,_⟩,_⟩:=I.loc;exact free _ o (λz=>(hch _ z).2.1 rfl) ho I.free
 ·obtain⟨v,o,ho,hd⟩:=I.cell x c e;exact free c o (λz=>(hch c z).2.2.1 x c e rfl) ho (I.freeC x c e)
 ·obtain⟨e,n,ne,nf,d⟩:=I.pin p hp;have nch:p.1∉ch:=λz=>(hch p.1 z).2.2.2 p hp rfl
  exact#[keep p.1 p.2 ne nf nch e n,free p.1 p.2 nch e n,ne,nf,d]
def Inv.un {t':GP}(I:Inv X J Y H s)(u:Un X.fs [] H H' s.heap h')(hok:HOk X.prog X.w H' h'):Inv X J Y H' { s with heap:=h',toks:=t' }:=by
 obtain⟨m,⟨o,es,ep,ho,r⟩,_⟩:=id I.loc;obtain⟨sl,hL⟩:=u.any ho I.free (by simp)
 exact I.step (g':=s.gens) (d':=s.drawn) (ch:=[]) (λ_ z=>nomatch z) (λb o _ hb _ e n=>u.keep b o e n hb (by simp)) (λb o _ hb _ e n=>u.slot b o e n hb (by simp)) (λb o _ e n=>u.free b o e n (by simp)) (λb o _ e=>u.there b o e (by simp)) u.tups u.frzs u.tbls (λm' hm=>by
  obtain⟨o',es',ep',ho',r'⟩:=hm;rw[ho]at ho'; cases ho'
  exact#[_,es',ep',hL,r']) hok I.bare
def Inv.call {g':HR Mp}{t':GP}{d':PM}{ch:GD GU}(I:Inv X J Y H s)(u:Un (o5 X.stack) ch H H' s.heap h')(hok:HOk X.prog X.w H' h')(hg:Lw g')
  (hch:∀b∈ch,(b∈X.ex\/X.s₀.heap.objs.size<=b)/\b≠X.env.locals/\(∀x c,X.env.cells.lookup x=gV c->c≠b)/\∀p∈X.pn++J,p.1≠b) :
  Inv X J Y H' { s with heap:=h',gens:=g',drawn:=d',toks:=t' }:=by
 obtain⟨m,⟨o,es,ep,ho,r⟩,_⟩:=id I.loc;obtain⟨sl,hL⟩:=u.any ho I.free λz=>(hch _ z).2.1 rfl
 exact I.step (ch:=ch) hch (λb o hL hb hc e n=>u.keep b o e n (λz=>(Hn.mp (I.stkSub b z)).elim hL hb) hc) (λb o _ _ hc e n=>u.any e n hc) (λb o hc e n=>u.free b o e n hc) (λb o hc e=>u.there b o e hc) u.tups u.frzs u.tbls (λm' hm=>by
  obtain⟨o',es',ep',ho',r'⟩:=hm;rw[ho]at ho'; cases ho'
  exact#[_,es',ep',hL,r']) hok hg
def Inv.turned {t':GP}{it:GU}(I:Inv X J Y H s)(k:∀b o,b≠it->s.heap.get? b=gV o->h'.get? b=gV o)(hn:H it=td)(hL:it≠X.env.locals)
  (h1:it∈X.ex\/X.s₀.heap.objs.size<=it) (h2:∀x c,X.env.cells.lookup x=gV c->c≠it) (h3:∀p∈X.pn++J,p.1≠it):Inv X J Y H { s with heap:=h',toks:=t' }:=by
 have nit:∀b u,H b=gV u->b≠it:=λb u e z=>by rw[z,hn]at e; cases e
 show I.step (g':=s.gens) (d':=s.drawn) (ch:=[it]) (λb hb=>?_) (λb o _ _ hc e _=>k b o (λz=>hc (by simp[z])) e) (λb o _ _ hc e _=>#[o.slots,k b o (λz=>hc (by simp[z])) e]) (λ_ _ _ _ n=>n)
  (λb o hc e=>#[o,k b o (λz=>hc (by simp[z])) e]) (λ_ _ e=>e) (λ_ _ _ e=>e) (λb ps e=>#[#[],by rw[e]; simp]) (λm hm=>?_) (λb u e=>?_) I.bare
 ·have e:b=it:=by simpa using hb
  subst e;exact#[h1,hL,h2,h3]
 ·obtain⟨o,es,ep,ho,r⟩:=hm;exact#[o,es,ep,k _ o (Ne.symm hL) ho,r]
 ·show(I.hok b u e).stay (λc v hc q=>k c v ?_ q) (λ_ q=>q) λ_ _ q=>q
  rcases hc with z|z
  ·rw[z]; exact nit b u e
  ·exact nit c _ z
def Inv.tok (I:Inv X J Y H s)(t:GP):Inv X J Y H { s with toks:=t }:=I.un (h':=s.heap) (t':=t) Un.refl I.hok
def Inv.kept {t':GP}(I:Inv X J Y H s)(k:∀b u,s.heap.get? b=gV u->h'.get? b=gV u):Inv X J Y H { s with heap:=h',toks:=t' }:=I.un (Un.kept k) (I.hok.kept k)
def Inv.laid {a:GU}{o:HO}{t':GP}(I:Inv X J Y H s)(k:∀b u,s.heap.get? b=gV u->h'.get? b=gV u)(hp:s.heap.objs.size<=a)(new:ObjOk X.prog X.w (bM H a o) h' a o) :
  Inv X J Y (bM H a o) { s with heap:=h',toks:=t' }:=I.un (Un.laid k hp (I.hok.fresh hp)) (I.hok.laid k hp new)
def Inv.write {x e:GU}{o:HO}{t':GP}(I:Inv X J Y H s)(mu:CL (H x))(he:e=x\/H e=gV (.own x))(k:∀b u,b≠e->s.heap.get? b=gV u->h'.get? b=gV u)(heo:∃u,h'.get? e=gV u)
  (new:ObjOk X.prog X.w (bM H x o) h' x o):Inv X J Y (bM H x o) { s with heap:=h',toks:=t' }:=I.un (Un.write mu he k heo) (I.hok.write mu he k heo new)
def Inv.pins_of {J':GD (GU×IM)}(I:Inv X J Y H s)(h:∀p∈J',s.heap.get? p.1=gV p.2/\H p.1=td/\p.1≠X.env.locals/\p.1∉X.fs/\∀v,p.2.data≠.cell v):Inv X J' Y H s:=
 #[I.ok,I.os,I.bare,I.base,I.loc,I.cell,I.free,I.freeC,λp hp=>(Ht.mp hp).elim (λz=>I.pin p (Jk _ z)) (h p),I.hok,I.len]
def nk {N:GD Hc}(hN:N.Nodup){i j:GP}{x:Hc}(a:N[i]?=gV x)(b:N[j]?=gV x):i=j:=by
 obtain⟨h1,e1⟩:=G5.mp a;obtain⟨h2,e2⟩:=G5.mp b;exact(Ji hN).mp (e1.trans e2.symm)
def rE {Mqa:O3}{A:HE}{E:GK->GL->Prop}{i:GP}{x:Hc}{v:V}{u:GK}{Q:Unit->GL->Prop}(I:Inv X J Y H s)(hN:X.N.Nodup)(hi:X.N[i]?=gV x)(hx:xo X.env.scope x)(r:RelV v u)
  (h:∀s',Inv X J (Y.set i (gV v)) H s'->(∃a,JJ a s.heap s'.heap/\(a=X.env.locals\/X.env.cells.lookup x=gV a))->Q () s') (hf:X.fn x=true\/X.env.scope.names.lookup x=gV .local):wpAny Mqa A (storeName X.env x u) Q E s:=by
 obtain⟨m,hn,hl⟩:=id I.loc;have hcls:(X.env.scope.kind==.class||(X.env.scope.kind==.module&&X.env.locals != X.env.globals))=false:=by rw[I.ok.kind]; rfl
 have hiσ:i < Y.length:=by rw[I.len]; exact(G5.mp hi).1
 have cne:=I.cne;have tracked:∀ {a:GU} {h':HX},(∃o,s.heap.get? a=gV o/\H a=td)->JJ a s.heap h'->HOk X.prog X.w H h':=λ{a h'} ha hs b ob e=>by
  obtain⟨_,_,hfree⟩:=ha;show(I.hok b ob e).stay (λc w' hc q=>(hs.2 c ?_).trans q) (λ_ q=>q) λ_ _ q=>q
  rintro rfl;rcases hc with rfl|hc
  ·rw[hfree]at e; cases e
  ·rw[hfree]at hc; cases hc
 rcases hx with hk|hk
 ·show wpAny_storeName_local hk hn (λh' hn' hs=>?_) hcls
  obtain⟨oL,_,_,hoL,_⟩:=id hn;show h _ #[I.ok,I.os,I.bare,#[λb o e n hb hx=>?_,λb o e n hb hx=>?_,I.base.free,λb o e hx=>?_,I.base.tups,I.base.frzs,I.base.tbls],#[_,hn',λj y v' e1 e2 e3=>?_],λy c e=>?_,I.free,I.freeC,λp hp=>?_,tracked #[oL,hoL,I.free] hs,by simpa using I.len] #[_,hs,.inl rfl]
  ·exact(hs.2 b (Hu (Hr (Hf e) I.ok.above))).trans (I.base.keep b o e n hb hx)
  ·obtain⟨sl,e1⟩:=I.base.slot b o e n hb hx;exact#[sl,(hs.2 b (Hu (Hr (Hf e) I.ok.above))).trans e1]
  ·obtain⟨o',e1⟩:=I.base.there b o e hx;exact#[o',(hs.2 b (Hu (Hr (Hf e) I.ok.above))).trans e1]
  ·by_cases hj:j=i
   ·subst hj;rw[hi]at e1; cases e1
    rw[LS hiσ]at e2;cases e2;exact#[u,r,.inl #[hk,by simp]]
   ·rw[Mq (Ne.symm hj)]at e2;obtain⟨u',r',q⟩:=hl j y v' e1 e2 e3;show#[u',r',?_];rcases q with⟨k,e⟩|⟨k,c,e,z⟩
    ·show .inl #[k,?_];have:y≠x:=λe=>hj (nk hN e1 (e ▸ hi))
     simp[this,e]
    ·exact .inr #[k,c,e,z.sameBut hs (cne y c e)]
  ·obtain⟨w',z⟩:=I.cell y c e;exact#[w',z.sameBut hs (cne y c e)]
  ·obtain⟨e,n,ne,nf,d⟩:=I.pin p hp;exact#[(hs.2 p.1 ne).trans e,n,ne,nf,d]
 ·have hfn:X.fn x=true:=by
   rcases hf with z|z
   ·exact z
   ·rw[z]at hk; cases hk
  obtain⟨c,hc⟩:=I.ok.has x (.inl hk);obtain⟨w',z⟩:=I.cell x c hc;show wpAny_storeName_cell I.ok.kind hk hc z (λh' hc' hs=>?_)
  obtain⟨oc,hoc,hocd⟩:=id z;show h { s with heap:=h' } #[I.ok,I.os,I.bare,#[λb o e n hb hx=>?_,λb o e n hb hx=>?_,I.base.free,λb o e hx=>?_,I.base.tups,I.base.frzs,I.base.tbls],#[m,hn.sameBut hs (Ne.symm (cne x c hc)),λj y v' e1 e2 e3=>?_],λy c' e=>?_,I.free,I.freeC,λp hp=>?_,tracked #[oc,hoc,I.freeC x c hc] hs,by simpa using I.len] #[c,hs,.inr hc]
  ·exact(hs.2 b (Hu (Hr (Hf e) (I.ok.cab x c hfn hc)))).trans (I.base.keep b o e n hb hx)
  ·obtain⟨sl,e1⟩:=I.base.slot b o e n hb hx;exact#[sl,(hs.2 b (Hu (Hr (Hf e) (I.ok.cab x c hfn hc)))).trans e1]
  ·obtain⟨o',e1⟩:=I.base.there b o e hx;exact#[o',(hs.2 b (Hu (Hr (Hf e) (I.ok.cab x c hfn hc)))).trans e1]
  ·by_cases hj:j=i
   ·subst hj;rw[hi]at e1; cases e1
    rw[LS hiσ]at e2;cases e2;exact#[u,r,.inr #[.inl hk,c,hc,hc']]
   ·rw[Mq (Ne.symm hj)]at e2;obtain⟨u',r',q⟩:=hl j y v' e1 e2 e3;show#[u',r',?_];rcases q with q|⟨k,c',e,z'⟩
    ·exact .inl q
    ·show .inr #[k,c',e,z'.sameBut hs ?_];rintro rfl;exact hj (nk hN e1 (I.ok.inj _ _ _ e hc ▸ hi))
  ·by_cases hcc:c'=c
   ·subst hcc; exact#[_,hc']
   ·obtain⟨w2,z2⟩:=I.cell y c' e;exact#[w2,z2.sameBut hs hcc]
  ·obtain⟨e,n,ne,nf,d⟩:=I.pin p hp;show#[(hs.2 p.1 ?_).trans e,n,ne,nf,d];intro q;rw[q,hoc]at e;have q':oc=p.2:=Io e;exact d w' (by rw[<- q']; exact hocd)
def dO {Mqa:O3}{A:HE}{E:GK->GL->Prop}{i:GP}{x:Hc}{v:V}{u:GK}{Q:Unit->GL->Prop}(I:Inv X J Y H s)(hN:X.N.Nodup)(hi:X.N[i]?=gV x)(hx:xo X.env.scope x)(r:RelV v u)
  (h:∀s',Inv X J (Y.set i (gV v)) H s'->Q () s') (hf:X.fn x=true\/X.env.scope.names.lookup x=gV .local):wpAny Mqa A (storeName X.env x u) Q E s:=
 rE I hN hi hx r (λs' I' _=>h s' I') hf
def Inv.call' {s':GL}{ch:GD GU}(I:Inv X J Y H s)(ho:s'.os=s.os)(u:Un (o5 X.stack) ch H H' s.heap s'.heap)(hok:HOk X.prog X.w H' s'.heap)(hg:Lw s'.gens)
  (hch:∀b∈ch,(b∈X.ex\/X.s₀.heap.objs.size<=b)/\b≠X.env.locals/\(∀x c,X.env.cells.lookup x=gV c->c≠b)/\∀p∈X.pn++J,p.1≠b):Inv X J Y H' s':=by
 obtain⟨h',g',d',t',o'⟩:=s';have e:o'=s.os:=ho;subst e;exact I.call (g':=g') (t':=t') (d':=d') u hok hg hch
end
noncomputable abbrev XK:=GK->GN GU->Hp->Prop
noncomputable abbrev St:=GD (GN V)
noncomputable abbrev VK:=V->Hp->Prop
noncomputable abbrev TE:=St->Hp->VK->Prop
noncomputable abbrev TT:=St->Hp->(Hj->Hp->Prop)->Prop
noncomputable abbrev TA:=St->Hp->(GD V->Hp->Prop)->Prop
structure Ends where
 nx:St->Hp->Prop
 rt:VK
 bk:St->Hp->Prop:=λ_ _=>Iq
 ct:St->Hp->Prop:=λ_ _=>Iq
noncomputable abbrev TS:=Ends->St->Hp->Prop
inductive EP (X:Cx)(J:GD (GU×IM))(Y:St)(Q:VK)(u:GK)(s':GL):Prop
 | mk (v:V) (H':Hp) (i:Inv X J Y H' s') (r:RelV v u) (q:Q v H'):EP X J Y Q u s'
inductive TP (X:Cx)(J:GD (GU×IM))(Y:St)(Q:Hj->Hp->Prop)(b:Hj)(s':GL):Prop
 | mk (H':Hp) (i:Inv X J Y H' s') (q:Q b H'):TP X J Y Q b s'
inductive AP (X:Cx)(J:GD (GU×IM))(Y:St)(Q:GD V->Hp->Prop)(us:GD GK)(s':GL):Prop
 | mk (vs:GD V) (H':Hp) (i:Inv X J Y H' s') (r:Vals vs us) (q:Q vs H'):AP X J Y Q us s'
abbrev SP (X:Cx)(J:GD (GU×IM))(D:Ends)(f:Flow)(s':GL):Prop:=
 match f with
 | .next=>∃Y' H',Inv X J Y' H' s'/\D.nx Y' H'
 | .brk=>∃Y' H',Inv X J Y' H' s'/\D.bk Y' H'
 | .cont=>∃Y' H',Inv X J Y' H' s'/\D.ct Y' H'
 | .ret u=>∃v Y' H',Inv X J Y' H' s'/\RelV v u/\D.rt v H'
abbrev PE (X:Cx)(e:Hl)(t:TE):Prop:=
 ∀(J:GD (GU×IM)) (s:GL) (Y:St) (H:Hp) (Q:VK),Inv X J Y H s->t Y H Q->wpAny (model X.prog X.w) X.A (eval e X.env) (EP X J Y Q) X.xe s
abbrev PT (X:Cx)(e:Hl)(t:TT):Prop:=
 ∀(J:GD (GU×IM)) (s:GL) (Y:St) (H:Hp) (Q:Hj->Hp->Prop),Inv X J Y H s->t Y H Q->wpAny (model X.prog X.w) X.A (isTrue e X.env (eval e X.env)) (TP X J Y Q) X.xe s
abbrev PW (X:Cx)(e:Hl)(t:TT):Prop:=
 ∀(whole:O4 GK) (J:GD (GU×IM)) (s:GL) (Y:St) (H:Hp) (Q:Hj->Hp->Prop),Inv X J Y H s->t Y H Q->wpAny (model X.prog X.w) X.A (isTrue e X.env whole) (TP X J Y Q) X.xe s
def PW.pt {X:Cx}{e:Hl}{t:TT}(h:PW X e t):PT X e t:=h _
abbrev PA (X:Cx)(es:GD Hl)(t:TA):Prop:=
 ∀(pos:Jq) (J:GD (GU×IM)) (s:GL) (Y:St) (H:Hp) (Q:GD V->Hp->Prop),Inv X J Y H s->t Y H Q->wpAny (model X.prog X.w) X.A (spliced (backTo pos (starEach es X.env))) (AP X J Y Q) X.xe s
abbrev PS (X:Cx)(st:JR)(t:TS):Prop:=
 ∀(J:GD (GU×IM)) (s:GL) (Y:St) (H:Hp) (D:Ends),Inv X J Y H s->t D Y H->wpAny (model X.prog X.w) X.A (exec st X.env) (SP X J D) X.xe s
abbrev PSs (X:Cx)(st:GD JR)(t:TS):Prop:=
 ∀(J:GD (GU×IM)) (s:GL) (Y:St) (H:Hp) (D:Ends),Inv X J Y H s->t D Y H->wpAny (model X.prog X.w) X.A (execs st X.env) (SP X J D) X.xe s
def bm {α:Type}{t:O4 α}{Q Q':α->GL->Prop}{Mqa:O3}{A:HE}{E:GK->GL->Prop}{s:GL}(h:wpAny Mqa A t Q E s)(hQ:∀a s,Q a s->Q' a s):wpAny Mqa A t Q' E s:=IW h hQ λ_ _ x=>x
section
variable{X:Cx}
abbrev CM (i:GP):TE:=λY H Q=>∃v,Y[i]?=gV (gV v)/\Q v H
abbrev tC (v:V):TE:=λ_ H Q=>Q v H
def AA {i:GP}{x:Hc}{pos:Jq}(hN:X.N[i]?=gV x)(hv:EU X.env.scope x)(hd:(x==("__debug__" : Hc))=false:=by decide)(hcd:(x==("__classdict__" : Hc))=false:=by decide):PE X (.Name x pos) (CM i):=by
 intro J s Y H Q I h;obtain⟨v,e,h⟩:=h;obtain⟨m,hn,hl⟩:=I.loc;obtain⟨u,r,l⟩:=hl i x v hN e hv;have fin:EP X J Y Q u s:=#[v,H,I,r,h];rcases l with⟨hk,hm⟩|⟨hk,c,hc,hcell⟩
 ·exact Oi (wpAny_loadName_local I.ok.kind hk hn hm fin) hd
 ·rcases hk with hk|hk
  ·exact Oi (wpAny_loadName_cell I.ok.kind hk hc hcell fin) hd
  ·exact Oi (wpAny_loadName_free I.ok.kind hk hc hcell fin hcd) hd
def sY {i j pos}:PE X (.Constant (.int i) j pos) (tC (.int i)):=λ_ _ _ H _ I h=>wpAny_Constant_int #[.int i,H,I.tok _,#[_,rfl],h]
def zT {b j pos}:PE X (.Constant (.bool b) j pos) (tC (.bl b)):=λ_ _ _ H _ I h=>Constant_bool #[.bl b,H,I,rfl,h]
def sZ {j pos}:PE X (.Constant .none j pos) (tC .non):=λ_ _ _ H _ I h=>Constant_none #[.non,H,I,rfl,h]
def tf {x j pos}:PE X (.Constant (.str x) j pos) (tC (.str x)):=λ_ _ _ H _ I h=>M3 #[.str x,H,I.tok _,#[_,rfl],h]
abbrev Gl (X:Cx)(x:Hc):Prop:=X.env.kindOf x=gV .globalImplicit
def qj {E:GK->GL->Prop}{J:GD (GU×IM)}{s:GL}{Y:St}{H:Hp}{x:Hc}{u:GK}{pos:Jq}{Q:GK->GL->Prop}(I:Inv X J Y H s)(hg:Gl X x)(hm:X.mg x=gV u)(h:Q u s)
  (hd:(x==("__debug__" : Hc))=false:=by decide):wpAny (model X.prog X.w) X.A (eval (.Name x pos) X.env) Q E s:=
 Ld I.ok.kind hg (Calls.loadGlobal_global (by rw[I.ok.glob]; exact I.mod.glob.keeps I.bk) hm h) hd
def ik {E:GK->GL->Prop}{J:GD (GU×IM)}{s:GL}{Y:St}{H:Hp}{x:Hc}{u:GK}{pos:Jq}{Q:GK->GL->Prop}(I:Inv X J Y H s)(hg:Gl X x)(hm:X.mg x=td)(hv:bootBuiltins x=gV u)(h:Q u s)
  (hn:x≠"__name__":=by decide) (hd:(x==("__debug__" : Hc))=false:=by decide):wpAny (model X.prog X.w) X.A (eval (.Name x pos) X.env) Q E s:=by
 obtain⟨mb,h1,h2⟩:=I.mod.blt;exact Ld I.ok.kind hg (Calls.loadGlobal_builtin (by rw[I.ok.glob]; exact I.mod.glob.keeps I.bk) hm (by rw[I.ok.blt]; exact h1.keeps I.bk) ((h2 x hn).trans hv) h) hd
def xp {x:Hc}{v:V}{u:GK}{pos:Jq}(hg:Gl X x)(hm:X.mg x=td)(hv:bootBuiltins x=gV u)(r:RelV v u)(hn:x≠"__name__":=by decide)(hd:(x==("__debug__" : Hc))=false:=by decide):PE X (.Name x pos) (tC v):=
 λ_ _ _ H _ I h=>ik I hg hm hv #[v,H,I,r,h] hn hd
variable{a b:Hl}{ta tb:TE}{pos:Jq}
variable{tA tB':TT}{cx:GD Hl}
abbrev CN (t u:TT):TT:=λY H Q=>t Y H λc H1=>if c=true then u Y H1 Q else Q false H1
abbrev F8 (t u:TT):TT:=λY H Q=>t Y H λc H1=>if c=true then Q true H1 else u Y H1 Q
abbrev EW (t:TT):TT:=λY H Q=>t Y H λc H1=>Q (!c) H1
def xq (ha:PT X a tA):PW X (.BoolOp .And [a] pos) tA:=by
 intro wh J s Y H Q I h;show isTrue_and (bm (ha J s Y H Q I h) λc s1 e=>?_)
 cases c with
 | true=>exact isTrue_and_nil e
 | false=>exact e
def AB (ha:PT X a tA):PW X (.BoolOp .Or [a] pos) tA:=by
 intro wh J s Y H Q I h;show isTrue_or (bm (ha J s Y H Q I h) λc s1 e=>?_)
 cases c with
 | false=>exact isTrue_or_nil e
 | true=>exact e
def AC (ha:PT X a tA)(hb:PW X (.BoolOp .And (b::cx) pos) tB'):PW X (.BoolOp .And (a::b::cx) pos) (CN tA tB'):=by
 intro wh J s Y H Q I h;show isTrue_and (bm (ha J s Y H _ I h) λc s1 #[H1,I1,q1]=>?_)
 cases c with
 | true=>exact hb wh J s1 Y H1 Q I1 q1
 | false=>exact#[H1,I1,q1]
def CO (ha:PT X a tA)(hb:PW X (.BoolOp .Or (b::cx) pos) tB'):PW X (.BoolOp .Or (a::b::cx) pos) (F8 tA tB'):=by
 intro wh J s Y H Q I h;show isTrue_or (bm (ha J s Y H _ I h) λc s1 #[H1,I1,q1]=>?_)
 cases c with
 | true=>exact#[H1,I1,q1]
 | false=>exact hb wh J s1 Y H1 Q I1 q1
def AD (ha:PT X a tA):PT X (.UnaryOp .Not a pos) (EW tA):=by
 intro J s Y H Q I h;exact isTrue_not (bm (ha J s Y H (λc H1=>Q (!c) H1) I h) λ_ _ #[H1,i,q]=>#[H1,i,q])
abbrev CP (ta tb:TE):TE:=λY H Q=>ta Y H λx H1=>∃c,x=.bl c/\if c=true then tb Y H1 Q else Q (.bl false) H1
abbrev EX (ta tb:TE):TE:=λY H Q=>ta Y H λx H1=>∃c,x=.bl c/\if c=true then Q (.bl true) H1 else tb Y H1 Q
abbrev CQ (ta:TE):TE:=λY H Q=>ta Y H λx H1=>∃c,x=.bl c/\Q (.bl (!c)) H1
def AE {op}{t:TE}(h:PE X a t):PE X (.BoolOp op [a] pos) t:=λJ s Y H Q I hw=>BoolOp_one (h J s Y H Q I hw)
def AF (ha:PE X a ta)(hb:PE X (.BoolOp .And (b::cx) pos) tb):PE X (.BoolOp .And (a::b::cx) pos) (CP ta tb):=by
 intro J s Y H Q I h;show BoolOp_and (bm (ha J s Y H _ I h) λv s1 #[x,H1,I1,r1,q1]=>?_)
 obtain⟨c,rfl,q1⟩:=q1;cases r1;show ID ?_;cases c with
 | true=>exact hb J s1 Y H1 Q I1 q1
 | false=>exact#[.bl false,H1,I1,rfl,q1]
def CS (ha:PE X a ta)(hb:PE X (.BoolOp .Or (b::cx) pos) tb):PE X (.BoolOp .Or (a::b::cx) pos) (EX ta tb):=by
 intro J s Y H Q I h;show BoolOp_or (bm (ha J s Y H _ I h) λv s1 #[x,H1,I1,r1,q1]=>?_)
 obtain⟨c,rfl,q1⟩:=q1;cases r1;show ID ?_;cases c with
 | false=>exact hb J s1 Y H1 Q I1 q1
 | true=>exact#[.bl true,H1,I1,rfl,q1]
def AG (ha:PE X a ta):PE X (.UnaryOp .Not a pos) (CQ ta):=by
 intro J s Y H Q I h;show UnaryOp_ (bm (ha J s Y H _ I h) λv s1 #[x,H1,I1,r1,q1]=>?_)
 obtain⟨c,rfl,q1⟩:=q1;cases r1;exact not_of (ID #[.bl (!c),H1,I1,rfl,q1])
abbrev Gq (t:TT)(ta tb:TE):TE:=λY H Q=>t Y H λc H1=>if c=true then ta Y H1 Q else tb Y H1 Q
def tj {c:Hl}(hc:PT X c tA)(ha:PE X a ta)(hb:PE X b tb):PE X (.IfExp c a b pos) (Gq tA ta tb):=by
 intro J s Y H Q I h;show wpAny_IfExp (bm (hc J s Y H _ I h) λd s1 #[H1,I1,q1]=>?_)
 cases d with
 | true=>exact ha J s1 Y H1 Q I1 q1
 | false=>exact hb J s1 Y H1 Q I1 q1
end
abbrev SqL (K:G4)(H:Hp)(a:GU)(xs:GD V):Prop:=
 Rd H a (.lst xs)\/
  ∃(o:IM) (its:HR GK) (n:GP),K.lookup a=gV o/\o.cls=.type "list"/\o.dict=td/\o.data=.seq its n/\its.size<=sizeLine/\Vals xs its.toList
abbrev SqT (K:G4)(H:Hp)(a:GU)(xs:GD V):Prop:=
 Rd H a (.tup xs)\/
  ∃(o:IM) (its:HR GK) (n:GP),K.lookup a=gV o/\o.cls=.type "tuple"/\o.dict=td/\o.data=.seq its n/\its.size<=sizeLine/\Vals xs its.toList
abbrev EY:GK->GN V
 | .none=>gV .non
 | .bool b=>gV (.bl b)
 | .int i _=>gV (.int i)
 | .str x _=>gV (.str x)
 | .bytes b _=>gV (.byt b)
 | .float b _=>gV (.flt b)
 | .ref a=>gV (.ref a)
 | .type n=>gV (.ty n)
 | _=>td
def RelV.abs {x:V}{u:GK}(r:RelV x u):EY u=gV x:=by
 cases x with
 | non=>cases r; rfl
 | bl _=>cases r; rfl
 | int _=>obtain⟨t,rfl⟩:=r; rfl
 | str _=>obtain⟨t,rfl⟩:=r; rfl
 | byt _=>obtain⟨t,rfl⟩:=r; rfl
 | flt _=>obtain⟨t,rfl⟩:=r; rfl
 | ref _=>cases r; rfl
 | ty _=>cases r; rfl
def RelV.inj {x y:V}{u:GK}(r:RelV x u)(q:RelV y u):x=y:=Io (r.abs.symm.trans q.abs)
def Vals.inj:∀ {xs ys:GD V} {us:GD GK},Vals xs us->Vals ys us->xs=ys
 | _,_,_,.nil,.nil=>rfl
 | _,_,_,.cons r t,.cons r' t'=>by rw[r.inj r',Vals.inj t t']
section
variable{X:Cx}{J:GD (GU×IM)}{Y:St}{H:Hp}{s:GL}{a:GU}{xs ys:GD V}
def SqL.of {K:G4}(h:H a=gV (.lst xs)):SqL K H a xs:=.inl (.inl h)
def SqT.of {K:G4}(h:H a=gV (.tup xs)):SqT K H a xs:=.inl (.inl h)
def Inv.list (I:Inv X J Y H s)(h:SqL X.K H a xs):∃its:GD GK,Vals xs its/\PlainL s.heap a its.toArray/\xs.length<=sizeLine:=by
 rcases h with h|⟨o,its,n,hk,hc,hd,hs,hz,r⟩
 ·obtain⟨z,its,n,r,e⟩:=h.ok I.hok;exact#[its,r,#[_,n,e,rfl,rfl,rfl],z]
 ·show#[its.toList,r,#[o,n,I.kIn a o hk,hc,hd,by simpa using hs],?_]
  have e:=r.length;simp only[HG]at e;omega
def Inv.tuple (I:Inv X J Y H s)(h:SqT X.K H a xs):∃its:GD GK,Vals xs its/\Nj s.heap a its.toArray/\xs.length<=sizeLine:=by
 rcases h with h|⟨o,its,n,hk,hc,hd,hs,hz,r⟩
 ·obtain⟨z,its,r,p⟩:=h.ok I.hok;exact#[its,r,p,z.1]
 ·show#[its.toList,r,#[o,I.kIn a o hk,hc,n,by simpa using hs],?_]
  have e:=r.length;simp only[HG]at e;omega
def Inv.list_inj (I:Inv X J Y H s)(h:SqL X.K H a xs)(h':SqL X.K H a ys):xs=ys:=by
 obtain⟨its,r,⟨o,n,e,_,_,d⟩,_⟩:=I.list h;obtain⟨its',r',⟨o',n',e',_,_,d'⟩,_⟩:=I.list h';rw[e]at e'; cases e'
 rw[d]at d';injection d' with d1 _
 have:its=its':=by simpa using congrArg OV d1
 subst this;exact r.inj r'
def Inv.tuple_inj (I:Inv X J Y H s)(h:SqT X.K H a xs)(h':SqT X.K H a ys):xs=ys:=by
 obtain⟨its,r,⟨o,e,_,n,d⟩,_⟩:=I.tuple h;obtain⟨its',r',⟨o',e',_,n',d'⟩,_⟩:=I.tuple h';rw[e]at e'; cases e'
 rw[d]at d';injection d' with d1 _
 have:its=its':=by simpa using congrArg OV d1
 subst this;exact r.inj r'
end
noncomputable abbrev Cx.wish (X:Cx)(E:GK->GL->Prop):Cx:={ X with xe:=E }
noncomputable abbrev Cx.nox (X:Cx):Cx:=X.wish λ_ _=>Iq
def Cx.Ok.wish {X:Cx}(ok:X.Ok)(E:GK->GL->Prop):(X.wish E).Ok:=
 #[ok.mod,ok.kind,ok.glob,ok.blt,ok.above,ok.inj,ok.has,ok.cab,ok.hd,ok.frames,ok.stk,ok.exf,ok.bs,ok.bsz,ok.noex,ok.exfs,ok.funs,ok.frf]
def Cx.Ok.unwish {X:Cx}{E:GK->GL->Prop}(ok:(X.wish E).Ok):X.Ok:=
 #[ok.mod,ok.kind,ok.glob,ok.blt,ok.above,ok.inj,ok.has,ok.cab,ok.hd,ok.frames,ok.stk,ok.exf,ok.bs,ok.bsz,ok.noex,ok.exfs,ok.funs,ok.frf]
section
variable{X:Cx}{J:GD (GU×IM)}{Y:St}{H:Hp}{s:GL}{E:GK->GL->Prop}
def Inv.wish (I:Inv X J Y H s)(E:GK->GL->Prop):Inv (X.wish E) J Y H s:=#[I.ok.wish E,I.os,I.bare,I.base,I.loc,I.cell,I.free,I.freeC,I.pin,I.hok,I.len]
def Inv.unwish (I:Inv (X.wish E) J Y H s):Inv X J Y H s:=#[I.ok.unwish,I.os,I.bare,I.base,I.loc,I.cell,I.free,I.freeC,I.pin,I.hok,I.len]
def SP.unwish {D:Ends}{f:Flow}{s':GL}(h:SP (X.wish E) J D f s'):SP X J D f s':=by
 cases f with
 | next=>obtain⟨Y',H',I,q⟩:=h; exact#[Y',H',I.unwish,q]
 | brk=>obtain⟨Y',H',I,q⟩:=h; exact#[Y',H',I.unwish,q]
 | cont=>obtain⟨Y',H',I,q⟩:=h; exact#[Y',H',I.unwish,q]
 | ret u=>obtain⟨v,Y',H',I,r,q⟩:=h; exact#[v,Y',H',I.unwish,r,q]
def PSs.nox {st:GD JR}{t:TS}(h:PSs X.nox st t):PSs X st t:=λJ s Y H D I hw=>
 IW (h J s Y H D (I.wish _) hw) (λ_ _ q=>q.unwish) λ_ _ z=>Iq.elim z
end
section
variable{X:Cx}{st:JR}{cx:GD JR}{t u:TS}{e:Hl}{te:TE}{pos:Jq}
abbrev tB:TS:=λD Y H=>D.nx Y H
abbrev EZ (t u:TS):TS:=λD Y H=>t { D with nx:=u D } Y H
def xr:PSs X [] tB:=λ_ _ Y H _ I h=>L7 #[Y,H,I,h]
def tD (h1:PS X st t)(h2:PSs X cx u):PSs X (st::cx) (EZ t u):=by
 intro J s Y H D I h;show wpAny_execs_cons (bm (h1 J s Y H { D with nx:=u D } I h) λf s1 q=>?_)
 cases f with
 | next=>
  obtain⟨Y',H',I',q⟩:=q;exact h2 J s1 Y' H' D I' q
 | ret v=>exact q
 | brk=>exact q
 | cont=>exact q
def xt:PS X (.Pass pos) tB:=λ_ _ Y H _ I h=>wpAny_Pass #[Y,H,I,h]
def Inv.quiet {J:GD (GU×IM)}{Y:St}{H:Hp}{s:GL}(I:Inv X J Y H s):interactive X.env=false:=by simp[interactive,I.ok.kind]
def AH {x j pos pos'}:PS X (.Expr (.Constant (.str x) j pos) pos') tB:=λ_ s Y H _ I h=>wpAny_Expr (M3 (show SP X _ _ .next { s with toks:=s.toks+1 } from#[Y,H,I.tok _,h])) I.quiet
abbrev CT (te:TE):TS:=λD Y H=>te Y H λ_ H1=>D.nx Y H1
def xu (he:PE X e te)(hs:swapsWith e td pos.line X.env=pure false:=by rfl):PS X (.Expr e pos) (CT te):=by
 intro J s Y H D I h;exact wpAny_Expr_any (bm (he J s Y H _ I h) λv s1 #[x,H1,I1,r1,q1]=>#[Y,H1,I1,q1]) I.quiet hs
abbrev E1 (te:TE):TS:=λD Y H=>te Y H D.rt
def AI (he:PE X e te):PS X (.Return (gV e) pos) (E1 te):=by
 intro J s Y H D I h;exact wpAny_Return_some (bm (he J s Y H _ I h) λv s1 #[x,H1,I1,r1,q1]=>#[x,Y,H1,I1,r1,q1])
abbrev E2 (c:TT)(t u:TS):TS:=λD Y H=>c Y H λb H1=>if b=true then t D Y H1 else u D Y H1
def CU {c:Hl}{a b:GD JR}{tc:TT}(hc:PT X c tc)(ha:PSs X a t)(hb:PSs X b u):PS X (.If c a b pos) (E2 tc t u):=by
 intro J s Y H D I h;show wpAny_If (bm (hc J s Y H _ I h) λd s1 #[H1,I1,q1]=>?_)
 cases d with
 | true=>exact ha J s1 Y H1 D I1 q1
 | false=>exact hb J s1 Y H1 D I1 q1
end
noncomputable abbrev TG:=V->St->Hp->(St->Hp->Prop)->Prop
noncomputable abbrev AJ:=GD V->St->Hp->(St->Hp->Prop)->Prop
abbrev PG (X:Cx)(target:Hl)(t:TG):Prop:=
 ∀(J:GD (GU×IM)) (s:GL) (Y:St) (H:Hp) (v:V) (u:GK) (Q:St->Hp->Prop),Inv X J Y H s->RelV v u->t v Y H Q->
  wpAny (model X.prog X.w) X.A (assign target X.env u) (λ_ s'=>∃Y' H',Inv X J Y' H' s'/\Q Y' H') X.xe s
abbrev CV (X:Cx)(ts:GD Hl)(t:AJ):Prop:=
 ∀(J:GD (GU×IM)) (s:GL) (Y:St) (H:Hp) (vs:GD V) (us:GD GK) (Q:St->Hp->Prop),Inv X J Y H s->Vals vs us->t vs Y H Q->
  wpAny (model X.prog X.w) X.A (assignInOrder ((assignEach ts X.env).map (·.2)) us) (λ_ s'=>∃Y' H',Inv X J Y' H' s'/\Q Y' H') X.xe s
noncomputable abbrev AK:=V->V->V->Hp->(Hp->Prop)->Prop
abbrev AL (X:Cx)(t:AK):Prop:=
 ∀(J:GD (GU×IM)) (s:GL) (Y:St) (H:Hp) (o i v:V) (ov iv u:GK) (Q:Hp->Prop),Inv X J Y H s->RelV o ov->RelV i iv->RelV v u->t o i v H Q->
  wpAny (model X.prog X.w) X.A (setItem ov iv u) (λ_ s'=>∃H',Inv X J Y H' s'/\Q H') X.xe s
section
variable{X:Cx}{pos:Jq}
abbrev CW (i:GP):TG:=λv Y H Q=>Q (Y.set i (gV v)) H
def qk {i:GP}{x:Hc}(hN:X.N.Nodup)(hi:X.N[i]?=gV x)(hx:xo X.env.scope x)(hf:X.fn x=true\/X.env.scope.names.lookup x=gV .local):PG X (.Name x pos) (CW i):=by
 intro J s Y H v u Q I r h;exact Nk (dO I hN hi hx r (λs' I'=>#[_,H,I',h]) hf)
abbrev E3:AJ:=λvs Y H Q=>vs=[]/\Q Y H
abbrev CY (t:TG)(u:AJ):AJ:=λvs Y H Q=>∃v r,vs=v::r/\t v Y H λY' H'=>u r Y' H' Q
def xv:CV X [] E3:=by
 intro J s Y H vs us Q I r h;obtain⟨e,h⟩:=h;subst e;cases r;exact Lx #[Y,H,I,h]
def tF {e:Hl}{es:GD Hl}{t:TG}{u:AJ}(h1:PG X e t)(h2:CV X es u)
  (hs:(assignEach (e::es) X.env).map (·.2)=assign e X.env::(assignEach es X.env).map (·.2):=by rfl):CV X (e::es) (CY t u):=by
 intro J s Y H vs us Q I r h;obtain⟨v,vr,e1,h⟩:=h;subst e1;cases r with
 | cons r rr=>
  rw[hs];show Jy (bm (h1 J s Y H _ _ _ I r h) λ_ s1 #[Y1,H1,I1,q1]=>?_)
  exact h2 J s1 Y1 H1 _ _ Q I1 rr q1
abbrev E4 (K:G4)(n:GP)(t:AJ):TG:=λv Y H Q=>∃a xs,v=.ref a/\SqT K H a xs/\xs.length=n/\t xs Y H Q
def AM {es:GD Hl}{k:GP}{t:AJ}{n:GP}(hc:X.calm=true)(h:CV X es t)
  (hn:(assignEach es X.env).length=n:=by rfl) (hst:(assignEach es X.env).findIdx? (·.1)=td:=by rfl):PG X (.Tuple es k pos) (E4 X.K n t):=by
 intro J s Y H v u Q I r hw;obtain⟨a,xs,e1,hq,hl,hw⟩:=hw;subst e1;cases r;obtain⟨its,rv,ht,hz⟩:=I.tuple hq;show assign_Tuple_tuple (I.ok.hd hc) ht (by simp[hn,<- hl,rv.length]) hst λh' hx=>?_
 have I1:Inv X J Y H { s with heap:=h' }:=I.kept (t':=s.toks) λb o e=>hx b o (Hu (Hf e)) e
 exact h J _ Y H xs _ Q I1 (by simpa using rv) hw
abbrev E5 (to ti:TE)(t:AK):TG:=λv Y H Q=>to Y H λo H1=>ti Y H1 λi H2=>t o i v H2 λH3=>Q Y H3
def AN {o i:Hl}{to ti:TE}{t:AK}(ho:PE X o to)(hi:PE X i ti)(hs:AL X t)
  (ha:∀v,assign (.Subscript o i pos) X.env v=(do
   let ov <- holding [v] (eval o X.env)
   let iv <- holding [v,ov] (eval i X.env)
   standAt pos
   holding [v,ov,iv] (setItem ov iv v)
   release [v,ov,iv] []):=by intro _; rfl):PG X (.Subscript o i pos) (E5 to ti t):=by
 intro J s Y H v u Q I r h;rw[ha];show GH (IJ (bm (ho J s Y H _ I h) λov s1 #[x,H1,I1,r1,q1]=>?_))
 show GH (IJ (bm (hi J s1 Y H1 _ I1 q1) λiv s2 #[y,H2,I2,r2,q2]=>?_))
 show GH (Kr (GH (IJ (bm (hs J s2 Y H2 x y v ov iv u _ I2 r1 r2 r q2) λ_ s3 #[H3,I3,q3]=>?_))))
 exact wpAny_release #[Y,H3,I3,q3]
abbrev E6 (te:TE)(g:TG):TS:=λD Y H=>te Y H λx H1=>g x Y H1 D.nx
def AO {tg e:Hl}{te:TE}{g:TG}(he:PE X e te)(hg:PG X tg g)(hs:swapsWithSole [tg] e pos.line X.env=pure false:=by rfl)(hw:swappedStores [tg] e X.env=pure td:=by rfl)
  (h1:(assignEach [tg] X.env).map (·.2)=[assign tg X.env]:=by rfl):PS X (.Assign [tg] e pos) (E6 te g):=by
 intro J s Y H D I h;show wpAny_Assign_stores (bm (he J s Y H _ I h) λv s1 #[x,H1,I1,r1,q1]=>?_) hs hw
 rw[h1];exact bm (hg J s1 Y H1 x v _ I1 r1 q1) λ_ s2 q=>q
abbrev E7 (i j:GP)(ta:TA):TS:=λD Y H=>ta Y H λvs H1=>∃v w,vs=[v,w]/\D.nx ((Y.set i (gV v)).set j (gV w)) H1
def AQ {i j:GP}{x y:Hc}{a b:Hl}{ta:TA}{px py pt:Jq}{kt k2 pt2}(hc:X.calm=true)(hN:X.N.Nodup)(hi:X.N[i]?=gV x)(hj:X.N[j]?=gV y)(hij:i≠j)
  (hx:X.env.scope.names.lookup x=gV .local) (hy:X.env.scope.names.lookup y=gV .local) (ha:PA X [a,b] ta)
  (hw:swappedStores [.Tuple [.Name x px,.Name y py] kt pt] (.Tuple [a,b] k2 pt2) X.env=pure (gV [x,y]))
  (hs:swapsWithSole [.Tuple [.Name x px,.Name y py] kt pt] (.Tuple [a,b] k2 pt2) pos.line X.env=pure false:=by rfl) :
  PS X (.Assign [.Tuple [.Name x px,.Name y py] kt pt] (.Tuple [a,b] k2 pt2) pos) (E7 i j ta):=by
 intro J s Y H D I h;rw[N6];show GH (Kr ?_);rw[hs];show GH (GX ?_);rw[HD #v[]]
 show GH (Tuple_ (bm (ha _ J s Y H _ I h) λus s1 #[vs,H1,I1,r1,q1]=>?_))
 obtain⟨v,w,e1,q1⟩:=q1;subst e1;obtain⟨u1,u2,rfl,rv,rw'⟩ : ∃u1 u2,us=[u1,u2]/\RelV v u1/\RelV w u2:=by
  cases r1 with
  | cons p q=>
   cases q with
   | cons p' q'=>
    cases q';exact#[_,_,rfl,p,p']
 show HS ?_ (by change 2<=sizeLine; decide)
 have I2:Inv X J Y H1 { s1 with heap:=s1.heap.push { cls:=.type "tuple",data:=.seq [u1,u2].toArray } }:=I1.kept (t':=s1.toks) λb o e=>GR _ e
 rw[hw];show GH (GX ?_);change wpAny (model X.prog X.w) X.A (do rule "assign.swapped-stores"; let items <- unpackItems (.ref s1.heap.objs.size) 2 td; assignInOrder [λv=>bindName X.env y v,λv=>bindName X.env x v] items.reverse; pure NL) _ _ _
 show GH (LU (GH (Nl (items:=[u1,u2].toArray) (I.ok.hd hc) (MJ s1.heap _) λh' hx'=>?_)))
 have I3:=I2.kept (h':=h') (t':=s1.toks) λb o e=>hx' b o (Hu (Hf e)) e
 change wpAny _ _ (assignInOrder [λv=>bindName X.env y v,λv=>bindName X.env x v] [u2,u1] >>= λ_=>pure NL) _ _ _
 show GH (Jy (KI (dO I3 hN hj (.inl hy) rw' (λs2 I4=>?_) (.inr hy))))
 show Jy (KI (dO I4 hN hi (.inl hx) rv (λs3 I5=>Lx (GX ?_)) (.inr hx)))
 rw[LB _ _ (Ne.symm hij)]at I5;exact#[_,H1,I5,q1]
abbrev AR (c:TT)(tb:TS):TS:=λD Y H=>∃W:GP->St->Hp->Prop,(∃m,W m Y H)/\∀m Y H,W m Y H->
 c Y H λb H1=>if b=true then ∃N:St->Hp->Prop,(∀Y' H',N Y' H'->∃m',m' < m/\W m' Y' H')/\tb { D with nx:=N,ct:=N,bk:=D.nx } Y H1 else D.nx Y H1
def tH {c:Hl}{body:GD JR}{tc:TT}{tb:TS}(hp:MK (model X.prog X.w) X.A X.env X.xe)(hc:PT X c tc)(hb:PSs X body tb):PS X (.While c body [] pos) (AR tc tb):=by
 intro J s Y H D I h;obtain⟨W,⟨m0,w0⟩,turn⟩:=h;show wpAny_While (codeAny_whileLoop (λn s'=>∃Y' H',Inv X J Y' H' s'/\W n Y' H') ?_ m0 #[Y,H,I,w0])
 rintro n s1 ⟨Y1,H1,I1,w1⟩;show JH hp (bm (hc J s1 Y1 H1 _ I1 (turn n Y1 H1 w1)) λb s2 #[H2,I2,q2]=>?_)
 cases b with
 | true=>
  obtain⟨N,hN,q2⟩:=q2;rw[Ho rfl];show JH hp (bm (hb J s2 Y1 H2 _ I2 q2) λf s3 q3=>?_)
  cases f with
  | next=>
   obtain⟨Y3,H3,I3,n3⟩:=q3;obtain⟨m',hm,w3⟩:=hN Y3 H3 n3;exact#[m',hm,Y3,H3,I3,w3]
  | cont=>
   obtain⟨Y3,H3,I3,n3⟩:=q3;obtain⟨m',hm,w3⟩:=hN Y3 H3 n3;exact#[m',hm,Y3,H3,I3,w3]
  | brk=>exact q3
  | ret v=>exact q3
 | false=>
  rw[HD Hb];exact L7 #[Y1,H2,I2,q2]
end
structure It where
 go:GP->Hp->Prop
 yld:GP->Hp->V->Hp->Prop
 stop:GP->Hp->Prop
abbrev im (X:Cx)(J:GD (GU×IM))(H:Hp)(b:GU):Prop:=
 H b=td/\b≠X.env.locals/\b∉X.fs/\(b∈X.ex\/X.s₀.heap.objs.size<=b)/\(∀x c,X.env.cells.lookup x=gV c->c≠b)/\∀p∈X.pn++J,p.1≠b
def Inv.fpOk {X:Cx}{J:GD (GU×IM)}{Y:St}{H H':Hp}{s:GL}{b:GU}(I:Inv X J Y H s)(hb:s.heap.objs.size<=b)(hn:H' b=td):im X J H' b:=by
 show#[hn,JK (Hr I.lt hb),I.nofs hb,.inr (Hs I.sz hb),λx c e z=>?_,λp hp z=>?_]
 ·obtain⟨v,q⟩:=I.cell x c e;exact absurd (Hr q.lt (by rw[z]; exact hb)) (HY _)
 ·exact absurd (Hr (Hf (I.pin p hp).1) (by rw[z]; exact hb)) (HY _)
structure Turn (P:Hx)(w:HL)(K:G4)(tg:Hl)(tv:It)(fp:GD GU)(it:GU)(tn:GP->HX->Prop):Prop where
 mem:it∈fp
 obj:∀i h,tn i h->∀b∈fp,∃o,h.get? b=gV o/\∀v,o.data≠.cell v
 keep:∀i h h',tn i h->(∀b∈fp,∀o,h.get? b=gV o->h'.get? b=gV o)->tn i h'
 item:∀(X:Cx),X.prog=P->X.w=w->X.K=K->X.calm=true->∀(i:GP) (J:GD (GU×IM)) (s:GL) (Y:St) (H:Hp) (E:GK->GL->Prop),Inv X J Y H s->(∀b∈fp,im X J H b)->tn i s.heap->tv.go i H->
  wpAny (model P w) X.A (pyNext (.ref it)) (λr s1=>∃u,r=gV u/\
   wpAny (model P w) X.A (letOwnedTupleGo tg (.ref it) u) (λ_ s2=>∃x H',Inv X J Y H' s2/\RelV x u/\tv.yld i H x H'/\tn (i+1) s2.heap/\∀b∈fp,H' b=td) E s1) E s
 done:∀(X:Cx),X.prog=P->X.w=w->X.K=K->X.calm=true->∀(i:GP) (J:GD (GU×IM)) (s:GL) (Y:St) (H:Hp) (E:GK->GL->Prop),Inv X J Y H s->(∀b∈fp,im X J H b)->tn i s.heap->tv.stop i H->
  wpAny (model P w) X.A (pyNext (.ref it)) (λr s1=>r=td/\Inv X J Y H s1) E s
 self:∀(A:HE) (i:GP) (s:GL) (Q:GK->GL->Prop) (E:GK->GL->Prop),tn i s.heap->Q (.ref it) s->wpAny (model P w) A (pyIter (.ref it)) Q E s
noncomputable abbrev TI:=St->Hp->(It->Hp->Prop)->Prop
abbrev EF (X:Cx)(J:GD (GU×IM))(Y:St)(tg:Hl)(R:It->Hp->Prop)(itv:GK)(s2:GL):Prop:=
 ∃(it:GU) (fp:GD GU) (tn:GP->HX->Prop) (tv:It) (H':Hp),itv=.ref it/\Inv X J Y H' s2/\Turn X.prog X.w X.K tg tv fp it tn/\tn 0 s2.heap/\(∀b∈fp,im X J H' b)/\R tv H'
abbrev PI (X:Cx)(tg iter:Hl)(wi:TI):Prop:=
 ∀(J:GD (GU×IM)) (s:GL) (Y:St) (H:Hp) (R:It->Hp->Prop),Inv X J Y H s->wi Y H R->
  wpAny (model X.prog X.w) X.A (eval iter X.env) (λv s1=>wpAny (model X.prog X.w) X.A (pyIter v) (EF X J Y tg R) X.xe s1) X.xe s
def ql {Mqa:O3}{A:HE}{E:GK->GL->Prop}{s:GL}{tg:Hl}{it:GU}{u:GK}{o:IM}{n:Iw}{vs:HR GK}{Q:Unit->GL->Prop}(ho:s.heap.get? it=gV o)(hc:o.cls=.type n)(hd:o.data=.fields vs)
    (hn:["enumerate","zip","dict_itemiterator","dict_reverseitemiterator","odict_iterator","itertools.zip_longest","itertools.pairwise"].contains n=false) (hQ:Q () s):wpAny Mqa A (letOwnedTupleGo tg (.ref it) u) Q E s:=by
  unfold letOwnedTupleGo;cases tg <;> first
    | exact GX hQ
    | (cases u <;> first
        | exact GX hQ
        | (show GH (M4 ho ?_)
           rw[hc,hd];change wpAny Mqa A (if (["enumerate","zip","dict_itemiterator","dict_reverseitemiterator","odict_iterator","itertools.zip_longest","itertools.pairwise"].contains n&&vs[0]?==gV (rawInt _))=true then _ else _) Q E s
           rw[HD (by intro h; rw[hn,Mr]at h; cases h)]
           exact GX hQ))
abbrev E8 (K:G4)(a:GU):It:=
 #[λi H=>∃xs x,SqL K H a xs/\xs[i]?=gV x,λi H x H'=>H'=H/\∀xs,SqL K H a xs->xs[i]?=gV x,λi H=>∃xs,SqL K H a xs/\xs.length<=i]
abbrev CB (K:G4)(a:GU):It:=
 #[λi H=>∃xs x,SqT K H a xs/\xs[i]?=gV x,λi H x H'=>H'=H/\∀xs,SqT K H a xs->xs[i]?=gV x,λi H=>∃xs,SqT K H a xs/\xs.length<=i]
abbrev CZ (lo:G0)(n:GP):It:=#[λi _=>i < n,λi H x H'=>H'=H/\x=.int (lo+i),λi _=>n<=i]
def rF {P:Hx}{w:HL}{K:G4}{tg:Hl}(a it:GU):Turn P w K tg (E8 K a) [it] it (λi h=>h.IsListIter it a i) where
 mem:=by simp
 obj:=λi h st b hb=>by
  have e:b=it:=by simpa using hb
  subst e;obtain⟨o,e,c,d⟩:=st;exact#[o,e,λv z=>by rw[d]at z; cases z]
 keep:=λi h h' st k=>st.at λo e=>k it (by simp) o e
 item:=by
  intro X hP hw hK hc i J s Y H E I hf st hg;subst hP hw hK;obtain⟨xs,x,hq,hx⟩:=hg;obtain⟨its,rv,p,hz⟩:=I.list hq;obtain⟨u,hu,ru⟩:=rv.get hx;obtain⟨f0,f1,f2,f3,f4,f5⟩:=hf it (by simp)
  show wpAny_pyNext_list_item st p.isList (x:=u) (by simpa using hu) λh' st' sb=>?_
  have I1:Inv X J Y H { s with heap:=h' }:=I.turned (t':=s.toks) (λb o hb e=>(sb.2 b hb).trans e) f0 f1 f3 f4 f5
  obtain⟨o,e,c,d⟩:=id st';exact#[u,rfl,ql (s:={ s with heap:=h' }) e c d #v[] #[x,H,I1,ru,#[rfl,λys hy=>by rw[I.list_inj hy hq]; exact hx],st',λb hb=>(hf b hb).1]]
 done:=by
  intro X hP hw hK hc i J s Y H E I hf st hg;subst hP hw hK;obtain⟨xs,hq,hx⟩:=hg;obtain⟨its,rv,p,hz⟩:=I.list hq;obtain⟨f0,f1,f2,f3,f4,f5⟩:=hf it (by simp)
  have hl:=rv.length;exact wpAny_pyNext_list_end (I.ok.hd hc) st p.isList (by simp; omega) λh' eb=>#[rfl,I.turned (t':=s.toks) (λb o hb e=>eb b o hb e) f0 f1 f3 f4 f5]
 self:=λ_ _ _ _ _ st h=>wpAny_pyIter_listiter st h
def o6 {P:Hx}{w:HL}{K:G4}{tg:Hl}(a it:GU):Turn P w K tg (CB K a) [it] it (λi h=>h.IsTupleIter it a i) where
 mem:=by simp
 obj:=λi h st b hb=>by
  have e:b=it:=by simpa using hb
  subst e;obtain⟨o,e,c,d⟩:=st;exact#[o,e,λv z=>by rw[d]at z; cases z]
 keep:=λi h h' st k=>st.at λo e=>k it (by simp) o e
 item:=by
  intro X hP hw hK hc i J s Y H E I hf st hg;subst hP hw hK;obtain⟨xs,x,hq,hx⟩:=hg;obtain⟨its,rv,p,hz⟩:=I.tuple hq;obtain⟨u,hu,ru⟩:=rv.get hx;obtain⟨f0,f1,f2,f3,f4,f5⟩:=hf it (by simp)
  show wpAny_pyNext_tuple_item st (show s.heap.IsTuple a its.toArray from p) (x:=u) (by simpa using hu) λh' st' sb=>?_
  have I1:Inv X J Y H { s with heap:=h' }:=I.turned (t':=s.toks) (λb o hb e=>(sb.2 b hb).trans e) f0 f1 f3 f4 f5
  obtain⟨o,e,c,d⟩:=id st';exact#[u,rfl,ql (s:={ s with heap:=h' }) e c d #v[] #[x,H,I1,ru,#[rfl,λys hy=>by rw[I.tuple_inj hy hq]; exact hx],st',λb hb=>(hf b hb).1]]
 done:=by
  intro X hP hw hK hc i J s Y H E I hf st hg;subst hP hw hK;obtain⟨xs,hq,hx⟩:=hg;obtain⟨its,rv,p,hz⟩:=I.tuple hq;obtain⟨f0,f1,f2,f3,f4,f5⟩:=hf it (by simp)
  have hl:=rv.length;exact wpAny_pyNext_tuple_end (I.ok.hd hc) st (show s.heap.IsTuple a its.toArray from p) (by simp; omega) λh' eb=>#[rfl,I.turned (t':=s.toks) (λb o hb e=>eb b o hb e) f0 f1 f3 f4 f5]
 self:=λ_ _ _ _ _ st h=>wpAny_pyIter_tupleiter st h
def o7 {P:Hx}{w:HL}{K:G4}{tg:Hl}(it:GU)(lo:G0)(n:GP):Turn P w K tg (CZ lo n) [it] it (λi h=>O5 h it (lo+(i:GP)*1) ((n:G0) - (i:GP)) 1) where
 mem:=by simp
 obj:=λi h st b hb=>by
  have e:b=it:=by simpa using hb
  subst e;exact#[_,st,λv z=>by
   have z':Data.fields _=Data.cell v:=z;cases z']
 keep:=λi h h' st k=>k it (by simp) _ st
 item:=by
  intro X hP hw hK hc i J s Y H E I hf st hg;subst hP hw hK;obtain⟨f0,f1,f2,f3,f4,f5⟩:=hf it (by simp)
  have W:=Walks.range (prog:=X.prog) (w:=X.w) (I.ok.hd hc) it lo 1 n;show W.item i s _ _ hg st λv h' tk hv st' kk=>?_
  obtain⟨t,rfl⟩:=hv;have I1:Inv X J Y H { s with heap:=h',toks:=tk }:=I.turned (λb o hb e=>kk b o (by simpa using hb) e) f0 f1 f3 f4 f5
  show#[_,rfl,ql (s:={ s with heap:=h',toks:=tk }) (n:="range_iterator") st' rfl rfl #v[] #[.int (lo+i),H,I1,#[t,?_],#[rfl,rfl],st',λb hb=>(hf b hb).1]]
  rw[Int.mul_one]
 done:=by
  intro X hP hw hK hc i J s Y H E I hf st hg;subst hP hw hK;obtain⟨f0,f1,f2,f3,f4,f5⟩:=hf it (by simp)
  exact wpAny_pyNext_range_end (I.ok.hd hc) st (by have:n<=i:=hg; omega) λh' eb=>#[rfl,I.turned (t':=s.toks) (λb o hb e=>eb b o hb e) f0 f1 f3 f4 f5]
 self:=λ_ _ _ _ _ st h=>wpAny_pyIter_rangeiter st h
section
variable{X:Cx}{tg:Hl}
def nq {J:GD (GU×IM)}{Y:St}{H:Hp}{s:GL}{R:It->Hp->Prop}{E:GK->GL->Prop}{lo hi:G0}{t u v:PX}{tk:GP}(I:Inv X J Y H s)(h1 : -(2 ^ 62)<=lo)(h2:lo < 2 ^ 62)(h3 : -(2 ^ 62)<=hi)(h4:hi < 2 ^ 62)
  (q:R (CZ lo (hi - lo).toNat) H):wpAny (model X.prog X.w) X.A (pyIter (.ref s.heap.objs.size)) (EF X J Y tg R) E { s with heap:=s.heap.push { cls:=.type "range",data:=.fields [.int lo t,.int hi u,.int 1 v].toArray },toks:=tk }:=by
 show wpAny_pyIter_range (IsRange.new ..) (OU h1 h2 h3 h4) ?_;have I1:Inv X J Y H { s with heap:=s.heap.push { cls:=.type "range",data:=.fields [.int lo t,.int hi u,.int 1 v].toArray },toks:=tk }:=I.kept λb o e=>GR _ e
 show#[(s.heap.push { cls:=.type "range",data:=.fields [.int lo t,.int hi u,.int 1 v].toArray }).objs.size,[(s.heap.push { cls:=.type "range",data:=.fields [.int lo t,.int hi u,.int 1 v].toArray }).objs.size],_,_,H,rfl,
  I1.kept (t':=tk) λb o e=>GR _ e,o7 _ lo (hi - lo).toNat,?_,λb hb=>?_,q]
 ·have e1:lo+((0:GP):G0)*1=lo:=by simp
  have e2:(((hi - lo).toNat:GP):G0) - ((0:GP):G0)=IX lo hi 1:=by rw[MS]; split <;> omega
  change O5 _ _ (lo+((0:GP):G0)*1) ((((hi - lo).toNat:GP):G0) - ((0:GP):G0)) 1;rw[e1,e2];exact He _ rfl
 ·have e:b=(s.heap.push { cls:=.type "range",data:=.fields [.int lo t,.int hi u,.int 1 v].toArray }).objs.size:=by simpa using hb
  subst e;exact I1.fpOk (G3 _) (I1.hok.fresh (G3 _))
abbrev C0 (ta:TA):TI:=λY H R=>ta Y H λvs H1=>∃j:G0,vs=[.int j]/\-(2 ^ 62)<=j/\j < 2 ^ 62/\R (CZ 0 j.toNat) H1
abbrev iRng2 (ta:TA):TI:=λY H R=>ta Y H λvs H1=>∃i j:G0,vs=[.int i,.int j]/\(-(2 ^ 62)<=i/\i < 2 ^ 62/\-(2 ^ 62)<=j/\j < 2 ^ 62)/\R (CZ i (j - i).toNat) H1
def rG {a:Hl}{ta:TA}{p pos:Jq}(hg:Gl X "range")(hm:X.mg "range" = td)(ha:PA X [a] ta)(hs:starEach [a] X.env=[(false,eval a X.env)]:=by rfl):PI X tg (.Call (.Name "range" p) [a] [] pos) (C0 ta):=by
 intro J s Y H R I h;show Call_ (ik I hg hm boot_range (Js (bm (ha pos J s Y H _ I h) λus s1 #[vs,H1,I1,r1,q1]=>?_) hs rfl))
 obtain⟨j,e,q1,q2,q⟩:=q1;subst e;cases r1 with
 | cons r rr=>
  cases rr;obtain⟨t,rfl⟩:=r;exact OW (nq I1 ∅ ∅ q1 q2 (by simpa using q))
def rH {a b:Hl}{ta:TA}{p pos:Jq}(hg:Gl X "range")(hm:X.mg "range" = td)(ha:PA X [a,b] ta)(hs:starEach [a,b] X.env=[(false,eval a X.env),(false,eval b X.env)]:=by rfl)(hs2:starEach [b] X.env=[(false,eval b X.env)]:=by rfl) :
  PI X tg (.Call (.Name "range" p) [a,b] [] pos) (iRng2 ta):=by
 intro J s Y H R I h;show Call_ (ik I hg hm boot_range (Js (bm (ha pos J s Y H _ I h) λus s1 #[vs,H1,I1,r1,q1]=>?_) (by rw[hs,hs2]) (by rw[hs2]; rfl)))
 obtain⟨i,j,e,⟨q1,q2,q3,q4⟩,q⟩:=q1;subst e;cases r1 with
 | cons r rr=>
  cases rr with
  | cons r' rr=>
   cases rr;obtain⟨t,rfl⟩:=r;obtain⟨t',rfl⟩:=r';exact call_range_2 (nq I1 q1 q2 q3 q4 q)
abbrev E9 (wi:TI)(g:TG)(tb:TS):TS:=λD Y H=>wi Y H λtv H1=>∃W:GP->GP->St->Hp->Prop,(∃m,W 0 m Y H1)/\∀i m Y H,W i m Y H->
 (tv.stop i H/\D.nx Y H)\/(tv.go i H/\∃N:St->Hp->Prop,(∀Y' H',N Y' H'->∃m',m' < m/\W (i+1) m' Y' H')/\∀x H',tv.yld i H x H'->g x Y H' λY2 H2=>tb { D with nx:=N,ct:=N,bk:=D.nx } Y2 H2)
abbrev io (fp:GD GU)(h:HX):GD (GU×IM):=fp.filterMap λb=>(h.get? b).map λo=>(b,o)
def eP {fp:GD GU}{h:HX}{b:GU}{o:IM}(hb:b∈fp)(e:h.get? b=gV o):(b,o)∈io fp h:=M5.mpr #[b,hb,by rw[e]; rfl]
def rJ {fp:GD GU}{h:HX}{p:GU×IM}(hp:p∈io fp h):p.1∈fp/\h.get? p.1=gV p.2:=by
 obtain⟨b,hb,e⟩:=M5.mp hp;cases q:h.get? b with
 | none=>rw[q]at e; cases e
 | some o=>
  rw[q]at e;have e':(b,o)=p:=Io e;subst e';exact#[hb,q]
def Inv.pinned {J:GD (GU×IM)}{Y:St}{H:Hp}{s:GL}{fp:GD GU}(I:Inv X J Y H s)(hf:∀b∈fp,im X J H b)(ho:∀b∈fp,∃o,s.heap.get? b=gV o/\∀v,o.data≠.cell v):Inv X (J++io fp s.heap) Y H s:=
 I.pins_of λp hp=>(Ht.mp hp).elim (λz=>I.pin p (Hw _ z)) λz=>by
  obtain⟨hb,e⟩:=rJ z;obtain⟨f0,f1,f2,_⟩:=hf p.1 hb;obtain⟨o,e',d⟩:=ho p.1 hb;rw[e]at e'; cases e'
  exact#[e,f0,f1,f2,d]
def Inv.unpinned {J pl:GD (GU×IM)}{Y:St}{H:Hp}{s:GL}(I:Inv X (J++pl) Y H s):Inv X J Y H s:=I.pins_of λp hp=>I.pin p (Hw _ (Jk _ hp))
def AS {iter:Hl}{body:GD JR}{wi:TI}{g:TG}{tb:TS}{pos:Jq}(hp:MK (model X.prog X.w) X.A X.env X.xe)(hc:X.calm=true)(hi:PI X tg iter wi)(hg:PG X tg g)(hb:PSs X body tb)
  (hs:∀x,foldedSetIterable iter X.env x=pure x:=by intro _; rfl):PS X (.For tg iter body [] pos) (E9 wi g tb):=by
 intro J s Y H D I h;show wpAny_For (bm (hi J s Y H _ I h) λv s1 h1=>bm h1 λitv s2 h2=>?_) hs
 obtain⟨it,fp,tn,tv,H2,e,I2,T,aM,f2,W,⟨m0,w0⟩,turn⟩:=h2;subst e;have stat:∀ {H':Hp},(∀b∈fp,H' b=td)->∀b∈fp,im X J H' b:=λhn b hb=>#[hn b hb,(f2 b hb).2]
 show codeAny_forLoop_any (λn s'=>∃i Y' H',Inv X J Y' H' s'/\tn i s'.heap/\(∀b∈fp,H' b=td)/\W i n Y' H') ?_ m0 #[0,Y,H2,I2,aM,λb hb=>(f2 b hb).1,w0]
 rintro n s3 ⟨i,Y3,H3,I3,st3,fr3,w3⟩;rcases turn i n Y3 H3 w3 with⟨stop,qn⟩|⟨go,N,hN,step⟩
 ·show JH hp (bm (T.done X rfl rfl rfl hc i J s3 Y3 H3 X.xe I3 (stat fr3) st3 stop) λr s4 #[hr,I4]=>?_)
  subst hr;exact L7 #[Y3,H3,I4,qn]
 ·show JH hp (bm (T.item X rfl rfl rfl hc i J s3 Y3 H3 X.xe I3 (stat fr3) st3 go) λr s4 #[u,hr,h4]=>?_)
  subst hr;show JH hp (bm h4 λ_ s5 #[x,H5,I5,r5,y5,st5,fr5]=>?_)
  have I5':=I5.pinned (stat fr5) (T.obj _ _ st5);show JH hp (bm (hg _ s5 Y3 H5 x u _ I5' r5 (step x H5 y5)) λ_ s6 #[Y6,H6,I6,q6]=>?_)
  show JH hp (bm (hb _ s6 Y6 H6 _ I6 q6) λf s7 q7=>?_)
  have again:∀ {Y7:St} {H7:Hp},Inv X (J++io fp s5.heap) Y7 H7 s7->N Y7 H7->∃m,m < n/\∃i Y' H',Inv X J Y' H' s7/\tn i s7.heap/\(∀b∈fp,H' b=td)/\W i m Y' H':=λ{Y7 H7} I7 n7=>by
   obtain⟨m',hm,w7⟩:=hN Y7 H7 n7;show#[m',hm,i+1,Y7,H7,I7.unpinned,T.keep _ _ _ st5 λb hb o e=>(I7.pin (b,o) (Hw _ (Hw _ (eP hb e)))).1,λb hb=>?_,w7]
   obtain⟨o,e,d⟩:=T.obj _ _ st5 b hb;exact(I7.pin (b,o) (Hw _ (Hw _ (eP hb e)))).2.1
  cases f with
  | next=>obtain⟨Y7,H7,I7,n7⟩:=q7; exact again I7 n7
  | cont=>obtain⟨Y7,H7,I7,n7⟩:=q7; exact again I7 n7
  | brk=>obtain⟨Y7,H7,I7,q7⟩:=q7; exact#[Y7,H7,I7.unpinned,q7]
  | ret v=>obtain⟨x7,Y7,H7,I7,r7,q7⟩:=q7; exact#[x7,Y7,H7,I7.unpinned,r7,q7]
end
def for_tup {K:G4}{a:GU}{xs:GD V}{g:TG}{tb:TS}{D:Ends}{Y:St}{H:Hp}(Pv:GP->St->Hp->Prop)(h0:Pv 0 Y H)(hl:∀i Y H,i<=xs.length->Pv i Y H->SqT K H a xs)
  (hs:∀i x Y H,xs[i]?=gV x->Pv i Y H->g x Y H λY2 H2=>tb { D with nx:=Pv (i+1),ct:=Pv (i+1),bk:=D.nx } Y2 H2) (hd:∀Y H,Pv xs.length Y H->D.nx Y H) :
  ∃W:GP->GP->St->Hp->Prop,(∃m,W 0 m Y H)/\∀i m Y H,W i m Y H->
   ((CB K a).stop i H/\D.nx Y H)\/((CB K a).go i H/\∃N:St->Hp->Prop,(∀Y' H',N Y' H'->∃m',m' < m/\W (i+1) m' Y' H')/\∀x H',(CB K a).yld i H x H'->g x Y H' λY2 H2=>tb { D with nx:=N,ct:=N,bk:=D.nx } Y2 H2):=by
 show#[λi m Y H=>m=xs.length - i/\i<=xs.length/\Pv i Y H,#[xs.length,by simp,IB _,h0],?_]
 rintro i m Y H ⟨rfl,hi,p⟩;have q:=hl i Y H hi p
 by_cases hlt:i < xs.length
 ·show .inr #[#[xs,xs[i],q,by simp[hlt]],Pv (i+1),λY' H' p'=>#[xs.length - (i+1),∅,rfl,hlt,p'],λx H' y=>?_]
  obtain⟨e,y⟩:=y;subst e;exact hs i x Y _ (y xs q) p
 ·have e:i=xs.length:=∅
  subst e;exact .inl #[#[xs,q,G3 _],hd Y H p]
noncomputable abbrev R2:=V->V->Hp->VK->Prop
abbrev OpR (X:Cx)(f:GK->GK->O4 GK)(r:R2):Prop:=
 ∀(J:GD (GU×IM)) (s:GL) (Y:St) (H:Hp) (x y:V) (v u:GK) (Q:VK),Inv X J Y H s->RelV x v->RelV y u->r x y H Q->
  wpAny (model X.prog X.w) X.A (f v u) (EP X J Y Q) X.xe s
abbrev Fa (X:Cx)(f:GK->O4 GK)(r:V->Hp->VK->Prop):Prop:=
 ∀(J:GD (GU×IM)) (s:GL) (Y:St) (H:Hp) (x:V) (v:GK) (Q:VK),Inv X J Y H s->RelV x v->r x H Q->
  wpAny (model X.prog X.w) X.A (f v) (EP X J Y Q) X.xe s
abbrev CallR (X:Cx)(f:GK)(r:GD V->Hp->VK->Prop):Prop:=
 ∀(J:GD (GU×IM)) (s:GL) (Y:St) (H:Hp) (xs:GD V) (us:GD GK) (Q:VK),Inv X J Y H s->Vals xs us->r xs H Q->
  wpAny (model X.prog X.w) X.A (call f us) (EP X J Y Q) X.xe s
abbrev Fb (X:Cx)(r:V->Hp->(Hj->Hp->Prop)->Prop):Prop:=
 ∀(J:GD (GU×IM)) (s:GL) (Y:St) (H:Hp) (x:V) (v:GK) (Q:Hj->Hp->Prop),Inv X J Y H s->RelV x v->r x H Q->
  wpAny (model X.prog X.w) X.A (truthy v) (TP X J Y Q) X.xe s
abbrev EG (r:R2)(ta tb:TE):TE:=λY H Q=>ta Y H λx H1=>tb Y H1 λy H2=>r x y H2 Q
abbrev Gr (r:V->Hp->VK->Prop)(ta:TE):TE:=λY H Q=>ta Y H λx H1=>r x H1 Q
abbrev rI (C:G0->G0->Prop)(g:G0->G0->V):R2:=λx y H Q=>∃i j,x=.int i/\y=.int j/\C i j/\Q (g i j) H
abbrev zU (g:G0->G0->V):R2:=λx y H Q=>∃i j,x=.int i/\y=.int j/\Q (g i j) H
abbrev rU (g:G0->V):V->Hp->VK->Prop:=λx H Q=>∃i,x=.int i/\Q (g i) H
section
variable{X:Cx}{a b c:Hl}{ta tb tc:TE}{pos:Jq}
def AT (ha:PE X a ta)(hb:PE X b tb){J:GD (GU×IM)}{s:GL}{Y:St}{H:Hp}{R:V->V->Hp->Prop}(I:Inv X J Y H s)
  (h:ta Y H λx H1=>tb Y H1 λy H2=>R x y H2) {Q:GK->GL->Prop} {f:GK->GK->O4 GK}
  (hf:∀v u s2 x y H2,Inv X J Y H2 s2->RelV x v->RelV y u->R x y H2->wpAny (model X.prog X.w) X.A (f v u) Q X.xe s2) :
  wpAny (model X.prog X.w) X.A (eval a X.env) (λv s₁=>wpAny (model X.prog X.w) X.A (eval b X.env) (λu s₂=>wpAny (model X.prog X.w) X.A (f v u) Q X.xe s₂) X.xe s₁) X.xe s:=by
 show bm (ha J s Y H _ I h) λv s1 #[x,H1,I1,r1,q1]=>?_
 show bm (hb J s1 Y H1 _ I1 q1) λu s2 #[y,H2,I2,r2,q2]=>?_
 exact hf v u s2 x y H2 I2 r1 r2 q2
def C3 {op:Nm}{r:R2}(ho:OpR X (binaryOp op) r)(ha:PE X a ta)(hb:PE X b tb):PE X (.BinOp a op b pos) (EG r ta tb):=by
 intro J s Y H Q I h;exact wpAny_BinOp (AT ha hb I h λv u s2 x y H2 I2 rx ry q=>ho J s2 Y H2 x y v u Q I2 rx ry q)
def C4 {op:UnaryOp}{r:V->Hp->VK->Prop}(ho:Fa X (unaryOp op) r)(ha:PE X a ta):PE X (.UnaryOp op a pos) (Gr r ta):=by
 intro J s Y H Q I h;exact UnaryOp_ (bm (ha J s Y H _ I h) λv s1 #[x,H1,I1,r1,q1]=>ho J s1 Y H1 x v Q I1 r1 q1)
def EH {f:GK->GK->O4 GK}{C:G0->G0->Prop}{g:G0->G0->G0}
  (rule:∀(i j:G0) (t u:PX) (s:GL) (Q:GK->GL->Prop) (E:GK->GL->Prop),C i j->Q (.int (g i j) s.toks) { s with toks:=s.toks+1 }->wpAny (model X.prog X.w) X.A (f (.int i t) (.int j u)) Q E s) :
  OpR X f (rI C λi j=>.int (g i j)):=by
 intro J s Y H x y v u Q I rx ry h;obtain⟨i,j,rfl,rfl,hc,q⟩:=h;obtain⟨t,rfl⟩:=rx;obtain⟨t',rfl⟩:=ry;exact rule i j t t' s _ _ hc #[.int (g i j),H,I.tok _,#[_,rfl],q]
def C5 {f:GK->GK->O4 GK}{g:G0->G0->G0}
  (rule:∀(i j:G0) (t u:PX) (s:GL) (Q:GK->GL->Prop) (E:GK->GL->Prop),Q (.int (g i j) s.toks) { s with toks:=s.toks+1 }->wpAny (model X.prog X.w) X.A (f (.int i t) (.int j u)) Q E s) :
  OpR X f (zU λi j=>.int (g i j)):=by
 intro J s Y H x y v u Q I rx ry h;obtain⟨i,j,rfl,rfl,q⟩:=h;obtain⟨t,rfl⟩:=rx;obtain⟨t',rfl⟩:=ry;exact rule i j t t' s _ _ #[.int (g i j),H,I.tok _,#[_,rfl],q]
def xw {f:GK->GK->O4 GK}{g:G0->G0->Hj}
  (rule:∀(i j:G0) (t u:PX) (s:GL) (Q:GK->GL->Prop) (E:GK->GL->Prop),Q (.bool (g i j)) s->wpAny (model X.prog X.w) X.A (f (.int i t) (.int j u)) Q E s) :
  OpR X f (zU λi j=>.bl (g i j)):=by
 intro J s Y H x y v u Q I rx ry h;obtain⟨i,j,rfl,rfl,q⟩:=h;obtain⟨t,rfl⟩:=rx;obtain⟨t',rfl⟩:=ry;exact rule i j t t' s _ _ #[.bl (g i j),H,I,rfl,q]
abbrev Fc (i j:G0):Prop:=0 < j/\j < 1073741824
abbrev Fd (i j:G0):Prop:=0<=j/\j<=1000000/\i.natAbs < 2 ^ 64
abbrev CMul (i j:G0):Prop:=(-(2 ^ 64) < i/\i < 2 ^ 64)\/(-(2 ^ 64) < j/\j < 2 ^ 64)
def CMul.ok {i j:G0}(h:CMul i j):IntMulOk i j:=by
 rcases h with⟨h1,h2⟩|⟨h1,h2⟩
 ·exact .of_left (OE h1 h2)
 ·exact .of_right (OE h1 h2)
def AU:OpR X (binaryOp .Add) (zU λi j=>.int (i+j)):=C5 λ_ _ _ _ _ _ _ q=>add_int q
def AV:OpR X (binaryOp .Sub) (zU λi j=>.int (i - j)):=C5 λ_ _ _ _ _ _ _ q=>sub_int q
def AW:OpR X (binaryOp .Mult) (rI CMul λi j=>.int (i*j)):=EH λ_ _ _ _ _ _ _ hc q=>mul_int q hc.ok
def xx:OpR X (binaryOp .FloorDiv) (rI Fc λi j=>.int (i / j)):=EH λi j _ _ _ _ _ hc q=>by
 have h1:(0:G0) < j:=hc.1;have h2:j < 1073741824:=hc.2;exact floordiv_int ∅ (by rw[Int.fdiv_eq_ediv_of_nonneg i ∅]; exact q) (.inl (PyProof.noPylong_small ∅))
def AX:OpR X (binaryOp .Mod) (rI (λ_ j=>0 < j) λi j=>.int (i % j)):=EH λi j _ _ _ _ _ hc q=>by
 have h1:(0:G0) < j:=hc;exact mod_int' ∅ (by rw[Int.fmod_eq_emod_of_nonneg i ∅]; exact q)
def AY:OpR X (binaryOp .Pow) (rI Fd λi j=>.int (i ^ j.toNat)):=EH λ_ _ _ _ _ _ _ hc q=>pow_int_small hc.1 hc.2.1 hc.2.2 q
def unI {f:GK->O4 GK}{g:G0->G0}
  (rule:∀(i:G0) (t:PX) (s:GL) (Q:GK->GL->Prop) (E:GK->GL->Prop),Q (.int (g i) s.toks) { s with toks:=s.toks+1 }->wpAny (model X.prog X.w) X.A (f (.int i t)) Q E s) :
  Fa X f (rU λi=>.int (g i)):=by
 intro J s Y H x v Q I rx h;obtain⟨i,rfl,q⟩:=h;obtain⟨t,rfl⟩:=rx;exact rule i t s _ _ #[.int (g i),H,I.tok _,#[_,rfl],q]
def AZ:Fa X (unaryOp .USub) (rU λi=>.int (-i)):=unI λ_ _ _ _ _ q=>neg_int q
def tJ {J:GD (GU×IM)}{Y:St}{H:Hp}{s:GL}{Q:VK}{k k':Hj}(I:Inv X J Y H s)(q:Q (.bl k) H)(e:k=k'):EP X J Y Q (.bool k') s:=by
 subst e;exact#[.bl k,H,I,rfl,q]
def C6:OpR X (compareOp .Lt) (zU λi j=>.bl (decide (i < j))):=xw λ_ _ _ _ _ _ _ q=>lt_int q
def C7:OpR X (compareOp .LtE) (zU λi j=>.bl (decide (i<=j))):=xw λ_ _ _ _ _ _ _ q=>le_int q
def C8:OpR X (compareOp .Gt) (zU λi j=>.bl (decide (j < i))):=xw λ_ _ _ _ _ _ _ q=>gt_int q
def C9:OpR X (compareOp .GtE) (zU λi j=>.bl (decide (j<=i))):=xw λ_ _ _ _ _ _ _ q=>ge_int q
def A6:OpR X (compareOp .Is) (λx y H Q=>y=.non/\Q (.bl (decide (x=.non))) H):=by
 intro J s Y H x y v u Q I rx ry h;obtain⟨rfl,q⟩:=h;cases ry;show is_none_gen (tJ I q ?_);cases x <;> first
  | (cases rx; rfl)
  | (obtain⟨t,rfl⟩:=rx; rfl)
def xy:OpR X (compareOp .IsNot) (λx y H Q=>y=.non/\Q (.bl (!decide (x=.non))) H):=by
 intro J s Y H x y v u Q I rx ry h;obtain⟨rfl,q⟩:=h;cases ry;show isnot_none_gen (tJ I q ?_);cases x <;> first
  | (cases rx; rfl)
  | (obtain⟨t,rfl⟩:=rx; rfl)
def xz {op:N1}{r:R2}(ho:OpR X (compareOp op) r)(ha:PE X a ta)(hb:PE X b tb)(hm:behindInMarks op b=false):PE X (.Compare a [op] [b] pos) (EG r ta tb):=by
 intro J s Y H Q I h;exact wpAny_Compare1 (AT ha hb I h λv u s2 x y H2 I2 rx ry q=>ho J s2 Y H2 x y v u Q I2 rx ry q) hm
abbrev zV (t:TE):TT:=λY H Q=>t Y H λx H'=>∃k,x=.bl k/\Q k H'
def xA {op:N1}{r:R2}(ho:OpR X (compareOp op) r)(ha:PE X a ta)(hb:PE X b tb)(hm:behindInMarks op b=false):PT X (.Compare a [op] [b] pos) (zV (EG r ta tb)):=by
 intro J s Y H Q I h;show wpAny_isTrue_Compare1 (bm (ha J s Y H _ I h) λv s1 #[x,H1,I1,r1,q1]=>bm (hb J s1 Y H1 _ I1 q1) λu s2 #[y,H2,I2,r2,q2]=>
  bm (ho J s2 Y H2 x y v u _ I2 r1 r2 q2) λc s3 #[z,H3,I3,r3,k,e,q3]=>?_) hm
 subst e;cases r3;exact ID #[H3,I3,q3]
abbrev o8 (r r':R2)(ta tb tc:TE):TE:=λY H Q=>ta Y H λx H1=>tb Y H1 λy H2=>r x y H2 λz H3=>∃k,z=.bl k/\
 (if k=true then tc Y H3 λw' H4=>r' y w' H4 Q else Q (.bl false) H3)
def tK {op op':N1}{r r':R2}(ho:OpR X (compareOp op) r)(ho':OpR X (compareOp op') r')(ha:PE X a ta)(hb:PE X b tb)(hc:PE X c tc)
  (hm:lastMarks [op,op'] [b,c]=false:=by with_unfolding_all rfl):PE X (.Compare a [op,op'] [b,c] pos) (o8 r r' ta tb tc):=by
 intro J s Y H Q I h;show Compare_chain (bm (ha J s Y H _ I h) λv s1 #[x,H1,I1,r1,q1]=>chain_link (bm (hb J s1 Y H1 _ I1 q1) λu s2 #[y,H2,I2,r2,q2]=>
  bm (ho J s2 Y H2 x y v u _ I2 r1 r2 q2) λd s3 #[z,H3,I3,r3,k,e,q3]=>?_)) hm
 subst e;cases r3;show ID ?_;cases k with
 | false=>exact ite_ff #[.bl false,H3,I3,rfl,q3]
 | true=>exact ite_tt (chain_last (bm (hc J s3 Y H3 _ I3 q3) λw' s4 #[z',H4,I4,r4,q4]=>ho' J s4 Y H4 y z' u w' Q I4 r2 r4 q4))
def tL {op op':N1}{r r':R2}(ho:OpR X (compareOp op) r)(ho':OpR X (compareOp op') r')(ha:PE X a ta)(hb:PE X b tb)(hc:PE X c tc)
  (hm:lastMarks [op,op'] [b,c]=false:=by with_unfolding_all rfl):PT X (.Compare a [op,op'] [b,c] pos) (zV (o8 r r' ta tb tc)):=by
 intro J s Y H Q I h;show isTrue_chain (bm (ha J s Y H _ I h) λv s1 #[x,H1,I1,r1,q1]=>test_link (bm (hb J s1 Y H1 _ I1 q1) λu s2 #[y,H2,I2,r2,q2]=>
  bm (ho J s2 Y H2 x y v u _ I2 r1 r2 q2) λd s3 #[z,H3,I3,r3,k,e,q3]=>?_)) hm
 subst e;cases r3;show ID ?_;cases k with
 | false=>
  obtain⟨k',e',q'⟩:=q3;cases e';exact ite_ff #[H3,I3,q']
 | true=>
  show ite_tt (test_last (bm (hc J s3 Y H3 _ I3 q3) λw' s4 #[z',H4,I4,r4,q4]=>bm (ho' J s4 Y H4 y z' u w' _ I4 r2 r4 q4) λd' s5 #[z2,H5,I5,r5,k2,e2,q5]=>?_))
  subst e2;cases r5;exact ID #[H5,I5,q5]
abbrev Fe (K:G4)(x:V)(H:Hp)(k:Hj):Prop:=
 match x with
 | .non=>k=false
 | .bl b=>k=b
 | .int i=>k=(i != 0)
 | .str y=>y.length<=sizeLine/\k=((y.length:G0) != 0)
 | .byt y=>y.size<=sizeLine/\k=((y.size:G0) != 0)
 | .ref p=>(∃xs,SqL K H p xs/\k = !xs.isEmpty)\/(∃xs,SqT K H p xs/\k = !xs.isEmpty)\/∃U,H p=gV (.dK U)/\k = !U.isEmpty
 | _=>Iq
def o9 {κ:Type}{U:GD (κ×V)}{vs:GD (κ×GK)}(r:KV U vs):(!vs.isEmpty) = !U.isEmpty:=by
 cases r <;> rfl
def jv {xs:GD V}{its:GD GK}(r:Vals xs its):(!its.toArray.isEmpty) = !xs.isEmpty:=by
 cases r <;> simp
def iq:(sizeLine:GP) < 2 ^ 63:=by rw[Ik]; decide
def A7:Fb X (λx H Q=>∃k,Fe X.K x H k/\Q k H):=by
 intro J s Y H x v Q I rx h;obtain⟨k,e,q⟩:=h;have hl:=iq;have hs:sizeLine=16777216:=Ik;cases x with
 | non=>
  cases rx;have e':k=false:=e;subst e';exact truthy_none #[H,I,q]
 | bl b=>
  cases rx;have e':k=b:=e;subst e';exact ID #[H,I,q]
 | int i=>
  obtain⟨t,rfl⟩:=rx;have e':k=(i != 0):=e;subst e';exact PySem.P.truthy_int #[H,I,q]
 | str y=>
  obtain⟨t,rfl⟩:=rx;obtain⟨hy,e'⟩ : y.length<=sizeLine/\k=((y.length:G0) != 0):=e;subst e';exact PySem.P.truthy_str ∅ #[H,I.tok _,q]
 | byt y=>
  obtain⟨t,rfl⟩:=rx;obtain⟨hy,e'⟩ : y.size<=sizeLine/\k=((y.size:G0) != 0):=e;subst e';exact PySem.W.truthy_bytes ∅ #[H,I.tok _,q]
 | ref p=>
  cases rx;have e':(∃xs,SqL X.K H p xs/\k = !xs.isEmpty)\/(∃xs,SqT X.K H p xs/\k = !xs.isEmpty)\/∃U,H p=gV (.dK U)/\k = !U.isEmpty:=e;rcases e' with⟨xs,hx,e'⟩|⟨xs,hx,e'⟩|⟨U,hx,e'⟩
  ·subst e';obtain⟨its,r,pl,hz⟩:=I.list hx;have hlen:=r.length;exact wpAny_truthy_list pl.isList (by simp only[G9]; omega) #[H,I.tok _,by rw[jv r]; exact q]
  ·subst e';obtain⟨its,r,pl,hz⟩:=I.tuple hx;have hlen:=r.length;exact truthy_tuple pl (by simp only[G9]; omega) #[H,I.tok _,by rw[jv r]; exact q]
  ·subst e';obtain⟨hz,hS,vs,r,m⟩ : U.length<=sizeLine/\(p==sysModules)=false/\∃vs,KV U vs/\s.heap.DictOf (lR X.prog X.w) p vs:=I.hok p _ hx;have hlen:U.length=vs.length:=LA r;exact wpAny_truthy_dict hS m ∅ #[H,I.tok _,by rw[o9 r]; exact q]
 | _=>exact(show Iq from e).elim
def pb:OpR X (binaryOp .Add) (λx y H Q=>∃i j,x=.str i/\y=.str j/\i.length+j.length<=sizeLine/\Q (.str (i++j)) H):=by
 intro J s Y H x y v u Q I rx ry h;obtain⟨i,j,rfl,rfl,hz,q⟩:=h;obtain⟨t,rfl⟩:=rx;obtain⟨t',rfl⟩:=ry;exact add_str (λt' tk=>#[.str (i++j),H,I.tok _,#[_,rfl],q]) hz
def kM {x:V}{us:GD GK}(r:Vals [x] us):∃u,us=[u]/\RelV x u:=by
 cases r with
 | cons r1 r2=>cases r2; exact#[_,rfl,r1]
def kN:CallR X (.type "int") (λxs H Q=>(∃i,xs=[.int i]/\Q (.int i) H)\/∃k,xs=[.bl k]/\Q (.int (if k then 1 else 0)) H):=by
 intro J s Y H xs us Q I r h;rcases h with⟨i,rfl,q⟩|⟨k,rfl,q⟩
 ·obtain⟨u,rfl,t,rfl⟩:=kM r;exact call_int_int #[.int i,H,I,#[_,rfl],q]
 ·obtain⟨u,rfl,r1⟩:=kM r;cases r1;exact call_int_bool #[.int (if k then 1 else 0),H,I.tok _,#[_,rfl],q]
abbrev Ff (K:G4)(x:V)(H:Hp)(n:GP):Prop:=
 match x with
 | .str y=>y.length<=sizeLine/\n=y.length
 | .byt y=>y.size<=sizeLine/\n=y.size
 | .ref p=>(∃xs,SqL K H p xs/\n=xs.length)\/∃xs,SqT K H p xs/\n=xs.length
 | _=>Iq
def jw:CallR X (.builtin "len") (λxs H Q=>∃x n,xs=[x]/\Ff X.K x H n/\Q (.int n) H):=by
 intro J s Y H xs us Q I r h;obtain⟨x,n,rfl,e,q⟩:=h;obtain⟨u,rfl,rx⟩:=kM r;have hl:=iq;have hs:sizeLine=16777216:=Ik;cases x with
 | str y=>
  obtain⟨t,rfl⟩:=rx;obtain⟨hy,e'⟩ : y.length<=sizeLine/\n=y.length:=e;subst e';exact len_str ∅ #[.int _,H,I.tok _,#[_,rfl],q]
 | byt y=>
  obtain⟨t,rfl⟩:=rx;obtain⟨hy,e'⟩ : y.size<=sizeLine/\n=y.size:=e;subst e';exact PySem.W.len_bytes ∅ #[.int _,H,I.tok _,#[_,rfl],q]
 | ref p=>
  cases rx;have e':(∃xs,SqL X.K H p xs/\n=xs.length)\/∃xs,SqT X.K H p xs/\n=xs.length:=e;rcases e' with⟨xs,hx,e'⟩|⟨xs,hx,e'⟩
  ·subst e';obtain⟨its,r',pl,hz⟩:=I.list hx;have hlen:=r'.length;exact Calls.call_len_list pl.isList (by simp only[G9]; omega) #[.int xs.length,H,I.tok _,#[_,by simp only[G9]; rw[hlen]],q]
  ·subst e';obtain⟨its,r',pl,hz⟩:=I.tuple hx;have hlen:=r'.length;exact len_tuple pl (by simp only[G9]; omega) #[.int xs.length,H,I.tok _,#[_,by simp only[G9]; rw[hlen]],q]
 | _=>exact(show Iq from e).elim
end
structure Room (k:GP)(A:HE):Prop where
 hd:A.handled=td
 dp:A.depth+3*k+5 < recursionLimit
 un:A.units+16*k+200 < cLine
def Room.deeper {k:GP}{A:HE}(r:Room (k+1) A)(env:MR):Room k (A.deeper env):=
 #[r.hd,by have:=r.dp; show A.depth+1+3*k+5 < _; omega,by have:=r.un; show A.units+3+16*k+200 < _; omega]
def Room.depth {k:GP}{A:HE}(r:Room k A):A.depth < recursionLimit:=by have:=r.dp; omega
abbrev Da:TA:=λ_ H Q=>Q [] H
abbrev Db (ta:TE)(tr:TA):TA:=λY H Q=>ta Y H λx H1=>tr Y H1 λxs H2=>Q (x::xs) H2
section
variable{X:Cx}{e:Hl}{es:GD Hl}{te:TE}{t:TA}{pos:Jq}
def tM:PA X [] Da:=λ_ _ _ _ H Q I h=>Calls.spliced_nil #[[],H,I,.nil,h]
def lT (ha:PE X e te)(hr:PA X es t)(hs:starEach (e::es) X.env=(false,eval e X.env)::starEach es X.env:=by rfl):PA X (e::es) (Db te t):=by
 intro pos J s Y H Q I h;rw[hs];change wpAny _ _ (spliced ((false,eval e X.env)::backTo pos (starEach es X.env))) _ _ s;show Calls.spliced_cons (bm (ha J s Y H _ I h) λu s1 #[x,H1,I1,r1,q1]=>?_)
 exact bm (hr pos J s1 Y H1 _ I1 q1) λus s2 #[xs,H2,I2,r2,q2]=>#[x::xs,H2,I2,.cons r1 r2,q2]
abbrev Fg (t:TA):TE:=λY H Q=>t Y H λxs H1=>xs.length<=sizeLine/\∀p,H1 p=td->Q (.ref p) (bM H1 p (.tup xs))
abbrev Fh (t:TA):TE:=λY H Q=>t Y H λxs H1=>xs.length<=sizeLine/\∀p,H1 p=td->Q (.ref p) (bM H1 p (.lst xs))
def Ba {x1}(h:PA X es t):PE X (.Tuple es x1 pos) (Fg t):=by
 intro J s Y H Q I hq;show wpAny_Tuple_spliced (bm (h pos J s Y H _ I hq) λus s1 #[xs,H1,I1,r,z,q]=>#[by rw[<- r.length]; exact z,?_])
 have hf:H1 s1.heap.objs.size=td:=I1.hok.fresh (G3 _);show#[.ref s1.heap.objs.size,bM H1 s1.heap.objs.size (.tup xs),I1.laid (t':=s1.toks) (λb u e=>GR _ e) (G3 _) ?_,rfl,q _ hf]
 exact#[#[z,NoD.new _ _ _],us,r,#[_,He _ rfl,rfl,_,rfl]]
def Bb (h:PA X es t):PE X (.List es pos) (Fh t):=by
 intro J s Y H Q I hq;show wpAny_List_spliced (bm (h pos J s Y H _ I hq) λus s1 #[xs,H1,I1,r,z,q]=>#[by rw[<- r.length]; exact z,?_])
 have hf:H1 s1.heap.objs.size=td:=I1.hok.fresh (G3 _);show#[.ref s1.heap.objs.size,bM H1 s1.heap.objs.size (.lst xs),I1.laid (t':=s1.toks) (λb u e=>GR _ e) (G3 _) ?_,rfl,q _ hf]
 exact#[z,us,0,r,He _ rfl]
end
noncomputable abbrev Sp:=GD V->Hp->VK->XK->Prop
noncomputable abbrev tN:=GD MR->Hp->GL->XK->GK->GL->Prop
structure Env0 (P:Hx)(w:HL)(K:G4)(mg:Hc->GN GK)(base:HX)(A:HE)(outer:GD MR)(s:GL)(H:Hp):Prop where
 frames:A.frames=gV outer
 mod:Mod K mg base
 bs:∀b o,base.get? b=gV o->s.heap.get? b=gV o/\H b=td
 bsz:base.objs.size<=s.heap.objs.size
 funs:s.heap.FunFrames base outer
 frf:∀b∈o5 outer,H b=td
 hok:HOk P w H s.heap
 bare:Lw s.gens
abbrev CE (outer:GD MR)(P:Hx)(w:HL)(H:Hp)(s:GL)(Q:VK)(u:GK)(s':GL):Prop:=
 ∃v H',s'.os=s.os/\Lw s'.gens/\Un (o5 outer) [] H H' s.heap s'.heap/\HOk P w H' s'.heap/\RelV v u/\Q v H'
abbrev CR (CX:tN)(outer:GD MR)(P:Hx)(w:HL)(H:Hp)(s:GL)(Q:VK)(E:XK)(r:NM)(s':GL):Prop:=
 match r with
 | .ok (.ret u)=>CE outer P w H s Q u s'
 | .ok _=>Iq
 | .error e=>CX outer H s E e s'
structure FnOk (P:Hx)(w:HL)(K:G4)(mg:Hc->GN GK)(base:HX)(CX:tN)(k:GP)(f:GU)(fd:Jz)(ps:GD Hc)(sp:Sp):Prop where
 len:∀vs H Q E,sp vs H Q E->vs.length=ps.length
 run:∀(A:HE) (outer:GD MR) (s:GL) (H:Hp) (args:Args) (us:GD GK) (vs:GD V) (Q:VK) (E:XK),Room k A->Env0 P w K mg base A outer s H->Nn s fd args (ps.zip us)->Vals vs us->sp vs H Q E->
  codeAny (model P w) A (.call (.ref f) args) (CR CX outer P w H s Q E) s
section
variable{X:Cx}{J:GD (GU×IM)}{Y:St}{H:Hp}{s s':GL}
def Inv.env0 (I:Inv X J Y H s):Env0 X.prog X.w X.K X.mg X.base X.A X.stack s H:=
 #[I.ok.frames,I.ok.mod,I.bs,Hs I.ok.bsz I.sz,I.stack,I.stkFree,I.hok,I.bare]
def Inv.after {Q:VK}{u:GK}(I:Inv X J Y H s)(h:CE X.stack X.prog X.w H s Q u s'):EP X J Y Q u s':=by
 obtain⟨v,H',os,bare,un,hok,r,q⟩:=h;obtain⟨hh,g,d,t,os'⟩:=s';obtain rfl:os'=s.os:=os;exact#[v,H',I.call (h':=hh) (g':=g) (d':=d) (t':=t) (ch:=[]) un hok bare (λb z=>absurd z (by simp)),r,q]
end
abbrev tP (sp:Sp)(dvs:GD V)(E:XK)(t:TA):TE:=λY H Q=>t Y H λvs H1=>sp (vs++dvs) H1 Q E
abbrev Binds (K:G4)(fd:Jz)(ps:GD Hc)(ds:GD GK):Prop:=
 ∀(s:GL) (us:GD GK),K.In s.heap->(us++ds).length=ps.length->Nn s fd #[us,[]] (ps.zip (us++ds))
def Binds.all {K:G4}{fd:Jz}{ps:GD Hc}(h:∀us:GD GK,us.length=ps.length->bindArgs fd #[us,[]]=pure (ps.zip us)):Binds K fd ps []:=λs us _ hl=>by
 rw[Iy]at hl ⊢;exact .of_eq (h us hl)
abbrev lU (CX:tN)(X:Cx)(E:XK):Prop:=∀(J:GD (GU×IM)) (Y:St) (H:Hp) (s:GL) (e:GK) (s':GL),Inv X J Y H s->CX X.stack H s E e s'->X.xe e s'
section
variable{X:Cx}{CX:tN}{k:GP}{f C:GU}{fd:Jz}{ps:GD Hc}{sp:Sp}{dvs:GD V}{ds:GD GK}{E:XK}{x m:Hc}{p pos apos:Jq}{e o:Hl}{es:GD Hl}{ta:TE}{t:TA}
def tQ {J:GD (GU×IM)}{Y:St}{H:Hp}{s:GL}{Q:VK}{us:GD GK}{vs:GD V}(F:FnOk X.prog X.w X.K X.mg X.base CX k f fd ps sp)(hr:Room k X.A)(hb:Binds X.K fd ps ds)(hd:Vals dvs ds)(hx:lU CX X E)
  (I:Inv X J Y H s) (r:Vals vs us) (h:sp (vs++dvs) H Q E):wpAny (model X.prog X.w) X.A (call (.ref f) us) (EP X J Y Q) X.xe s:=by
 have r2:Vals (vs++dvs) (us++ds):=r.append hd;have hl:(us++ds).length=ps.length:=by rw[<- r2.length]; exact F.len _ _ _ _ h
 show wpAny_call (LV (F.run X.A X.stack s H #[us,[]] (us++ds) (vs++dvs) Q E hr I.env0 (hb s us I.kIn hl) r2 h) λr s' hq=>?_)
 cases r with
 | error e=>exact hx J Y H s e s' I hq
 | ok fl=>
  cases fl with
  | ret u=>exact I.after hq
  | next=>exact Iq.elim hq
  | brk=>exact Iq.elim hq
  | cont=>exact Iq.elim hq
def xB (F:FnOk X.prog X.w X.K X.mg X.base CX k f fd ps sp)(hr:Room k X.A)(hg:Gl X x)(hm:X.mg x=gV (.ref f))(hk:Iz X.K (.ref f)=true)(hb:Binds X.K fd ps ds)(hd:Vals dvs ds)(hx:lU CX X E)
  (ha:PA X (e::es) t) (hdb:(x==("__debug__" : Hc))=false:=by decide) (he:starEach (e::es) X.env=(false,eval e X.env)::starEach es X.env:=by rfl) (hpl:(backTo pos (starEach es X.env)).any (·.1)=false:=by rfl) :
  PE X (.Call (.Name x p) (e::es) [] pos) (tP sp dvs E t):=by
 intro J s Y H Q I h;show Kz (qj I hg hm ?_ hdb);show PySem.W.callWith_K (h₀:=X.base) I.ok.mod.kin hk (bm (ha pos J s Y H _ I h) λus s1 #[vs,H1,I1,r,q]=>#[I1.kIn,?_]) he hpl
 exact tQ F hr hb hd hx I1 r q
def tR (F:FnOk X.prog X.w X.K X.mg X.base CX k f fd ps sp)(hr:Room k X.A)(hg:Gl X x)(hm:X.mg x=gV (.ref f))(hk:Iz X.K (.ref f)=true)(hb:Binds X.K fd ps ds)(hd:Vals dvs ds)(hx:lU CX X E)
  (hdb:(x==("__debug__" : Hc))=false:=by decide):PE X (.Call (.Name x p) [] [] pos) (tP sp dvs E Da):=by
 intro J s Y H Q I h;show Kz (qj I hg hm ?_ hdb);exact PySem.W.callWith_K0 I.kIn hk (tQ (us:=[]) F hr hb hd hx I .nil h)
end
structure FnScope (N P:GD Hc)(sc:JZ):Prop where
 kind:sc.kind=.function
 co:sc.isCoroutine=false
 gen:sc.isGenerator=false
 nd:N.Nodup
 pre:N.take P.length=P
 par:∀x∈P,sc.names.lookup x=gV .local\/sc.names.lookup x=gV .cell
 nofree:∀y∈sc.names,y.2≠.free
def kO {kindOf:Hc->GN IE}{x:Hc}:∀ {binds:GD (Hc×GK)} {m:Hc->GN GK},(∀v,(x,v)∉binds)->bindL kindOf binds m x=m x
 | [],_,_=>rfl
 | (n,v)::r,m,h=>by
  unfold bindL;rw[kO λw hw=>h w (Hv _ hw)]
  split
  ·have:x≠n:=by rintro rfl; exact h v HH
   simp[this]
  ·rfl
def kP {kindOf:Hc->GN IE}{x:Hc}:∀ {binds:GD (Hc×GK)} {m:Hc->GN GK},(∀v,(x,v)∉binds)->bindC kindOf binds m x=m x
 | [],_,_=>rfl
 | (n,v)::r,m,h=>by
  unfold bindC;rw[kP λw hw=>h w (Hv _ hw)]
  split
  ·rfl
  ·have:x≠n:=by rintro rfl; exact h v HH
   simp[this]
def kQ {kindOf:Hc->GN IE}{x:Hc}{v:GK}:∀ {P:GD Hc} {vs:GD GK} {i:GP} {m:Hc->GN GK},P.Nodup->P[i]?=gV x->vs[i]?=gV v->kindOf x=gV .local->
  bindL kindOf (P.zip vs) m x=gV v
 | [],_,_,_,_,h,_,_=>by simp at h
 | _::_,[],_,_,_,_,h,_=>by simp at h
 | p::P,w::vs,0,m,nd,h1,h2,hk=>by
  simp at h1 h2; subst h1; subst h2
  change bindL kindOf ((p,w)::P.zip vs) m p=_;unfold bindL;rw[kO λv hv=>(IS.mp nd).1 (L8 hv).1,Ho hk]
  simp
 | p::P,w::vs,i+1,m,nd,h1,h2,hk=>by
  change bindL kindOf ((p,w)::P.zip vs) m x=_;unfold bindL;exact kQ (i:=i) (IS.mp nd).2 (by simpa using h1) (by simpa using h2) hk
def kR {kindOf:Hc->GN IE}{x:Hc}{v:GK}:∀ {P:GD Hc} {vs:GD GK} {i:GP} {m:Hc->GN GK},P.Nodup->P[i]?=gV x->vs[i]?=gV v->kindOf x≠gV .local->
  bindC kindOf (P.zip vs) m x=gV v
 | [],_,_,_,_,h,_,_=>by simp at h
 | _::_,[],_,_,_,_,h,_=>by simp at h
 | p::P,w::vs,0,m,nd,h1,h2,hk=>by
  simp at h1 h2; subst h1; subst h2
  change bindC kindOf ((p,w)::P.zip vs) m p=_;unfold bindC;rw[kP λv hv=>(IS.mp nd).1 (L8 hv).1,HD hk]
  simp
 | p::P,w::vs,i+1,m,nd,h1,h2,hk=>by
  change bindC kindOf ((p,w)::P.zip vs) m x=_;unfold bindC;exact kR (i:=i) (IS.mp nd).2 (by simpa using h1) (by simpa using h2) hk
abbrev fu (N:GD Hc)(vs:GD V):St:=vs.map gV++HU (N.length - vs.length) td
abbrev pc (CX:tN)(P:Hx)(w:HL)(K:G4)(mg:Hc->GN GK)(base:HX)(N:GD Hc)(qual:Hc)(scope:JZ)(f:GU)(cd:GK)(A:HE)(outer:GD MR)(s:GL)(H:Hp)(E:XK):Cx where
 prog:=P
 w:=w
 K:=K
 mg:=mg
 base:=base
 A:=A.deeper (envOfC qual scope s.heap.objs.size f cd)
 N:=N
 s₀:=s
 H₀:=H
 env:=envOfC qual scope s.heap.objs.size f cd
 outer:=outer
 stack:=envOfC qual scope s.heap.objs.size f cd::outer
 ex:=[]
 calm:=true
 fn:=λ_=>true
 pn:=[]
 xe:=λe s'=>wpAny (model P w) (A.deeper (envOfC qual scope s.heap.objs.size f cd)) (leaving (envOfC qual scope s.heap.objs.size f cd) e) (λ_ s''=>CX outer H s E e s'') (λe' s''=>CX outer H s E e' s'') s'
def nr {sc:JZ}{n:GP}{x:Hc}(h:sc.names.lookup x=gV .cell):∃c,(cellsFrom n sc.names []).lookup x=gV c:=by
 have q:=LW sc.names n [] (.inl h);exact Ig.mp q
def rK {CX:tN}{P:Hx}{w:HL}{K:G4}{mg:Hc->GN GK}{base:HX}{N ps:GD Hc}{qual:Hc}{scope:JZ}{f:GU}{cd:GK}{A:HE}{outer:GD MR}{s s1:GL}{H:Hp}{E:XK}{us:GD GK}{vs:GD V}
  (S:FnScope N ps scope) (hd:A.handled=td) (e0:Env0 P w K mg base A outer s H) (hl:vs.length=ps.length) (r:Vals vs us)
  (x:InCallC s s.heap.objs.size (bindL (envOfC qual scope s.heap.objs.size f cd).kindOf (ps.zip us) λ_=>td) (cellsFrom (s.heap.objs.size+1) scope.names []) (bindC (envOfC qual scope s.heap.objs.size f cd).kindOf (ps.zip us) λ_=>td) s1) :
  Inv (pc CX P w K mg base N qual scope f cd A outer s H E) [] (fu N vs) H s1:=by
 have hpl:ps.length<=N.length:=by have:=congrArg O6 S.pre; rw[Hm]at this; omega
 obtain⟨h1,tk,rfl,hk⟩:=x.done;have noA:∀b:GU,b∉(pc CX P w K mg base N qual scope f cd A outer s H E).ex:=λb z=>absurd (show b∈([]:GD GU)from z) (by simp)
 show#[#[e0.mod,S.kind,rfl,rfl,G3 _,λy z c h1 h2=>?_,λy hy=>?_,λy c _ h=>?_,λ_=>hd,Around.frames_deeper e0.frames,.inr #[rfl,rfl],λb z=>absurd z (noA b),e0.bs,e0.bsz,λb _ _=>noA b,λb z=>absurd z (noA b),e0.funs,e0.frf],
  rfl,e0.bare,Un.kept hk,#[_,x.toInCall.ns,λi y v h1 h2 h3=>?_],λy c h=>#[_,x.cell y c h],e0.hok.fresh (G3 _),λy c h=>?_,λp hp=>absurd (show p∈([]:GD (GU×IM))from hp) (by simp),e0.hok.kept hk,?_]
 ·exact name_of_addr x.apart (JT h1) (JT h2)
 ·have hy:scope.names.lookup y=gV .cell\/scope.names.lookup y=gV .free:=hy;rcases hy with hy|hy
  ·exact nr hy
  ·exact absurd rfl (S.nofree _ (JT hy))
 ·exact KH (x.above y c (JT h))
 ·have hi:i < vs.length:=by
   unfold fu at h2
   by_cases hi:i < vs.length
   ·exact hi
   ·rw[HN (by simpa using hi)]at h2
    rw[List.getElem?_replicate]at h2;split at h2 <;> cases h2
  have ha:vs[i]?=gV v:=by
   unfold fu at h2;rw[HC (by simpa using hi),GV]at h2
   cases e:vs[i]? with
   | none=>rw[e]at h2; cases h2
   | some a=>rw[e]at h2; cases h2; rfl
  obtain⟨u,hu,rv⟩:=r.get ha;have hp:ps[i]?=gV y:=by
   rw[<- S.pre,Ks ∅]; exact h1
  have ndP:ps.Nodup:=by rw[<- S.pre]; exact S.nd.sublist (No _ _)
  show#[u,rv,?_];rcases S.par y (G7 hp)with k|k
  ·exact .inl #[k,kQ ndP hp hu k]
  ·obtain⟨c,e⟩:=nr (n:=s.heap.objs.size+1) k;show .inr #[.inl k,c,e,?_];have q:=x.cell y c e;rw[kR ndP hp hu (by change scope.names.lookup y≠_; rw[k]; decide)]at q
   exact q
 ·exact e0.hok.fresh (KH (x.above y c (JT h)))
 ·unfold fu;change _=N.length;rw[GJ,GF,Mk];omega
def Dc {CX:tN}{P:Hx}{w:HL}{K:G4}{mg:Hc->GN GK}{base:HX}{k:GP}{f:GU}{name qual:Hc}{params:Arguments}{body:GD JR}{scope:JZ}{dV kV doc pm cdv ct oc:GK}{an od:GN GU}
  {osl:HR (GN GK)} {N ps:GD Hc} {sp:Sp} (lk:K.lookup f=gV #[oc,od,.func (Jj name qual params body scope dV kV doc pm an cdv ct),osl]) (hcd:JW K cdv qual=true) (S:FnScope N ps scope)
  (len:∀vs H Q E,sp vs H Q E->vs.length=ps.length)
  (hbody:∀(A:HE) (outer:GD MR) (s:GL) (H:Hp) (vs:GD V) (Q:VK) (E:XK),Room k (A.deeper (envOfC qual scope s.heap.objs.size f cdv))->sp vs H Q E->
   ∃t,PSs (pc CX P w K mg base N qual scope f cdv A outer s H E) body t/\t { nx:=λ_ H'=>Q .non H',rt:=Q } (fu N vs) H) :
  FnOk P w K mg base CX (k+1) f (Jj name qual params body scope dV kV doc pm an cdv ct) ps sp:=by
 show#[len,λA outer s H args us vs Q E hr e0 hb r hsp=>?_]
 have hl:=len _ _ _ _ hsp;have KX:K.In s.heap:=e0.mod.kin.keeps λb o e=>(e0.bs b o e).1
 have lim:s.heap.NoLimit:=e0.mod.nolimit.keeps λb o e=>(e0.bs b o e).1
 have hkind:∀y∈ps.zip us,scope.names.lookup y.1=gV .local\/(scope.names.lookup y.1=gV .cell/\((cellsFrom (s.heap.objs.size+1) scope.names []).lookup y.1).isSome=true):=λ#[n,v] hy=>by
  rcases S.par n (L8 hy).1 with q|q
  ·exact .inl q
  ·exact .inr #[q,LW _ _ _ (.inl q)]
 show codeAny_call_function hr.depth (KX _ _ lk) rfl S.co S.gen rfl (PySem.W.codeRec_of KX hcd) (hb _ _ _ _ ?_);show wpAny_newFunctionEnv_cells S.kind hkind λenv he s1 x=>?_
 subst he;show#[lim.keeps x.toInCall.keep,codeAny_func ?_];obtain⟨t,ht,hq⟩:=hbody A outer s H vs Q E (hr.deeper _) hsp;have I:Inv (pc CX P w K mg base N qual scope f cdv A outer s H E) [] (fu N vs) H s1:=rK S hr.hd e0 hl r x;show IW (ht [] s1 (fu N vs) H _ I hq) (λfl s' hs=>?_) λe s' hs=>hs
 have fin:∀ {Y':St} {H':Hp} {v:V} {u:GK},Inv (pc CX P w K mg base N qual scope f cdv A outer s H E) [] Y' H' s'->RelV v u->Q v H'->CE outer P w H s Q u s':=
  λ{Y' H' v u} tv rv q=>#[v,H',tv.os,tv.bare,tv.base,tv.hok,rv,q]
 cases fl with
 | ret u=>
  obtain⟨v,Y',H',tv,rv,q⟩:=hs;exact fin tv rv q
 | next=>
  obtain⟨Y',H',tv,q⟩:=hs;exact fin (v:=V.non) (u:=HZ) tv rfl q
 | brk=>
  obtain⟨_,_,_,q⟩:=hs;exact Iq.elim q
 | cont=>
  obtain⟨_,_,_,q⟩:=hs;exact Iq.elim q
section
variable{X:Cx}{x:Hc}{p pos:Jq}{e:Hl}{es:GD Hl}{t:TA}{id T:Iw}{r:GD V->Hp->VK->Prop}
abbrev F9 (r:GD V->Hp->VK->Prop)(t:TA):TE:=λY H Q=>t Y H λvs H1=>r vs H1 Q
def nu (hc:CallR X (.builtin id) r)(hg:Gl X x)(hm:X.mg x=td)(hv:bootBuiltins x=gV (.builtin id))(ha:PA X (e::es) t)(hn:x≠"__name__":=by decide)(hdb:(x==("__debug__" : Hc))=false:=by decide)
  (he:starEach (e::es) X.env=(false,eval e X.env)::starEach es X.env:=by rfl) (hpl:(backTo pos (starEach es X.env)).any (·.1)=false:=by rfl):PE X (.Call (.Name x p) (e::es) [] pos) (F9 r t):=by
 intro J s Y H Q I h;show Kz (ik I hg hm hv ?_ hn hdb);exact NN (bm (ha pos J s Y H _ I h) λus s1 #[vs,H1,I1,r1,q1]=>hc J s1 Y H1 vs us Q I1 r1 q1) he hpl
def rL (hc:CallR X (.type T) r)(hg:Gl X x)(hm:X.mg x=td)(hv:bootBuiltins x=gV (.type T))(ha:PA X (e::es) t)(hn:x≠"__name__":=by decide)(hdb:(x==("__debug__" : Hc))=false:=by decide)
  (he:starEach (e::es) X.env=(false,eval e X.env)::starEach es X.env:=by rfl) (hpl:(backTo pos (starEach es X.env)).any (·.1)=false:=by rfl):PE X (.Call (.Name x p) (e::es) [] pos) (F9 r t):=by
 intro J s Y H Q I h;show Kz (ik I hg hm hv ?_ hn hdb);exact Js (bm (ha pos J s Y H _ I h) λus s1 #[vs,H1,I1,r1,q1]=>hc J s1 Y H1 vs us Q I1 r1 q1) he hpl
end
end L2
namespace HT
open PySem PyProof.Rows
section
open PySem.SeqAt
open PySem.AutoSeq1 (wpAny_loadPart')
open PySem.MeetsSeq PySem.MeetsSeq2 PySem.MeetsSeq3
end
section
variable{prog:Hx}{w:HL}{A:HE}{E:GK->GL->Prop}{s:GL}
def xD {t b:GU}{vs ws:GD GK}{Q:GK->GL->Prop}(ht:Nj s.heap t vs.toArray)(hb:Nj s.heap b ws.toArray)(hv:vs≠[])
  (h1:ws=[]->Q (.ref t) s) (h2:ws≠[]->Q (.ref s.heap.objs.size) { s with heap:=s.heap.push { cls:=.type "tuple",data:=.seq (vs++ws).toArray } })
  (hsz:vs.length+ws.length<=sizeLine):wpAny (model prog w) A (binaryOp .Add (.ref t) (.ref b)) Q E s:=by
 obtain⟨⟨cls,dd,data,sl⟩,ho,hc,n,hd⟩:=id ht;obtain⟨⟨cls2,dd2,data2,sl2⟩,ho2,hc2,n2,hd2⟩:=id hb;simp only at hc hd hc2 hd2;subst hc hd hc2 hd2;have e:vs.toArray++ws.toArray=(vs++ws).toArray:=by simp
 by_cases hw:ws=[]
 ·exact Np #[_,ho,rfl] #[_,ho2,rfl] LK MT KJ KD (Kt _ _)
   (tuple_addW1 t b vs.toArray ws.toArray n n2 dd dd2 sl sl2 (by simpa using hv) (by simp[hw])) #[ho,ho2,h1 hw]
 ·show Np #[_,ho,rfl] #[_,ho2,rfl] LK MT KJ KD (Kt _ _)
   (tuple_addW2 t b vs.toArray ws.toArray n n2 dd dd2 sl sl2 (by simpa using hv) (by simpa using hw) (by rw[G9,G9]; exact hsz)) #[ho,ho2,?_]
  rw[e];exact h2 hw
abbrev ci (n d:GP):GN G0->GP
 | none=>d
 | some v=>if v < 0 then(v+(n:G0)).toNat else min v.toNat n
def jx (n d:GP):ci n d td=d:=rfl
def qm (n d k:GP):ci n d (gV (k:G0))=min k n:=by
 show(if (k:G0) < 0 then((k:G0)+(n:G0)).toNat else min (k:G0).toNat n)=min k n
 rw[HD ∅,Ha]
def Bc (n d:GP)(hd:d<=n)(o:GN G0):ci n d o<=n:=by
 cases o with
 | none=>exact hd
 | some v=>
  show(if v < 0 then(v+(n:G0)).toNat else min v.toNat n)<=n
  by_cases hv:v < 0
  ·rw[Ho hv]; omega
  ·rw[HD hv]; exact Nat.min_le_right _ _
def qo (v:G0)(n d:GP):(if v < 0 then max (v+(n:G0)) 0 else min v (n:G0))=((ci n d (gV v):GP):G0):=by
 show(if v < 0 then max (v+(n:G0)) 0 else min v (n:G0))=(((if v < 0 then(v+(n:G0)).toNat else min v.toNat n):GP):G0)
 by_cases hv:v < 0
 ·simp only[Ho hv]; omega
 ·simp only[HD hv]; omega
def pd (lo hi:GN G0)(n:GP):Kl lo hi 1 (n:G0)=(((ci n 0 lo:GP):G0),((ci n n hi:GP):G0)):=by
 have h1:¬ ((1:G0) < 0):=∅
 unfold Kl;simp only[h1,JL];show Oj ?_ ?_
 ·cases lo with
  | none=>rfl
  | some v=>exact qo v n 0
 ·cases hi with
  | none=>rfl
  | some v=>exact qo v n n
def pe (i j:GP):JG (i:G0) (j:G0) 1=j - i:=by
 unfold JG;have h1:(1:G0) > 0:=∅
 simp only[h1,J1,Int.ediv_one];split <;> omega
def jy {v:GK}{o:GN G0}{Q:GN G0->GL->Prop}(p:Le v o)(h:Q o s):wpAny (model prog w) A (N7 v) Q E s:=by
 cases p with
 | none=>exact Ol h
 | int i t=>exact slicePart_int h
def eu {sl:GU}{vl vu:GK}{lo hi:GN G0}{n:GP}{Q:G0×G0×GP->GL->Prop}(hs:s.heap.IsSliceOf sl vl vu .none)(pl:Le vl lo)(pu:Le vu hi)
  (h:Q (((ci n 0 lo:GP):G0),1,ci n n hi - ci n 0 lo) s):wpAny (model prog w) A (Lf (.ref sl) (pure (n:G0))) Q E s:=by
 obtain⟨os,hos,hcs,hds⟩:=id hs;unfold Lf OA;show GH (GH (Jl hos hds (x:=vl) rfl (GH (Jl hos hds (x:=vu) rfl (GH (Jl hos hds (x:=.none) rfl (GX ?_)))))));show GH (Ol ?_);change wpAny _ _ (if ((1:G0)==0)=true then _ else _) _ _ s
 rw[HD #v[]]
 show GH (jy pl (GH (jy pu (GH (GX ?_)))));change wpAny _ _ (match Kl lo hi 1 (n:G0)with|(lo,hi)=>pure (lo,(1:G0),JG lo hi 1)) _ _ s
 rw[pd lo hi n];change wpAny _ _ (pure (((ci n 0 lo:GP):G0),(1:G0),JG ((ci n 0 lo:GP):G0) ((ci n n hi:GP):G0) 1)) _ _ s;rw[pe];exact GX h
def tV (xs:HR GK)(i k:GP):((G8 k).filterMap λ(m:GP)=>xs[((i:G0)+(m:G0)*1).toNat]?).toArray=((xs.toList.drop i).take k).toArray:=by
 have e:(λ(m:GP)=>xs[((i:G0)+(m:G0)*1).toNat]?)=λm=>xs[i+m]?:=by
  funext m
  have:((i:G0)+(m:G0)*1).toNat=i+m:=∅
  rw[this]
 rw[e];have:=pick_run xs i k;rw[List.filterMap_map]at this;have e2:((λx=>xs[x]?)∘λx=>i+x)=λm=>xs[i+m]?:=rfl
 rw[e2]at this;rw[this]
def gN {t sl:GU}{items:HR GK}{vl vu:GK}{lo hi:GN G0}{Q:GK->GL->Prop}(ht:Nj s.heap t items)(hs:s.heap.IsSliceOf sl vl vu .none)(pl:Le vl lo)(pu:Le vu hi)
  (hw:¬ (ci items.size 0 lo=0/\ci items.size items.size hi=items.size))
  (h:Q (.ref s.heap.objs.size) { s with heap:=s.heap.push { cls:=.type "tuple",data:=.seq ((items.toList.drop (ci items.size 0 lo)).take (ci items.size items.size hi - ci items.size 0 lo)).toArray } })
  (hsz:items.size<=sizeLine):wpAny (model prog w) A (getItem (.ref t) (.ref sl)) Q E s:=by
 have htake:sizeOk (.seq ((items.toList.drop (ci items.size 0 lo)).take (ci items.size items.size hi - ci items.size 0 lo)).toArray):=by
  show((items.toList.drop (ci items.size 0 lo)).take (ci items.size items.size hi - ci items.size 0 lo)).toArray.size<=sizeLine;rw[G9,Hm,IY,HG];omega
 have hj:ci items.size items.size hi<=items.size:=Bc _ _ (G3 _) hi;obtain⟨os,hos,hcs,hds⟩:=id hs;have hTs:s.TypeIs (.ref sl) "slice":=#[os,hos,hcs];unfold getItem
 try with_reducible show IJ ?_
 first|refine GH (GX ?_)|skip
 show GH (Nq ht.typeIs #v[] ?_)
 show GH (Il (name:=IF "__getitem__") ht.typeIs Jg
  (IA Jg ht.typeIs MN ?_ (M6 _ _)))
 change wpAny _ _ (Kh (.ref t) >>= _) _ _ s;show GH (OF ht ?_);show GH (La hTs ?_);rw[Ho #v[]]
 show GH (eu hs pl pu ?_);have hno:¬ ((((ci items.size 0 lo:GP):G0)==0&&(1:G0)==1&&(ci items.size items.size hi - ci items.size 0 lo)==items.size)=true):=by
  intro q;rw[GQ,GQ]at q;have q1:((ci items.size 0 lo:GP):G0)=0:=eq_of_beq q.1.1;have q2:ci items.size items.size hi - ci items.size 0 lo=items.size:=eq_of_beq q.2;exact hw #[∅,∅]
 change wpAny _ _ (if (((ci items.size 0 lo:GP):G0)==0&&(1:G0)==1&&(ci items.size items.size hi - ci items.size 0 lo)==items.size)=true then _ else _) _ _ s
 rw[HD hno,tV]
 first
  | exact GH (m:=IQ _) (HS (GX #[_,rfl,GX h]) htake)
  | exact GH (m:=IQ _) (HS (GH (GX (GX #[_,rfl,GX h]))) htake)
  | exact GH (GH (m:=IQ _) (HS (GX (GX #[_,rfl,GX h])) htake))
  | exact GH (GH (m:=IQ _) (HS (GX #[_,rfl,GX h]) htake))
end
end HT
namespace L2
open PySem PySem.Spec PyProof.Rows
noncomputable abbrev TO:=St->Hp->(GN G0->Hp->Prop)->Prop
abbrev PO (X:Cx)(e:GN Hl)(t:TO):Prop:=
 ∀(J:GD (GU×IM)) (s:GL) (Y:St) (H:Hp) (Q:GN G0->Hp->Prop),Inv X J Y H s->t Y H Q->
  wpAny (model X.prog X.w) X.A (evalPart e X.env) (λu s'=>∃o H',Inv X J Y H' s'/\Le u o/\Q o H') X.xe s
abbrev xE:TO:=λ_ H Q=>Q td H
abbrev De (t:TE):TO:=λY H Q=>t Y H λx H1=>∃i,x=.int i/\Q (gV i) H1
section
variable{X:Cx}{e:Hl}{te:TE}{lo hi:GN Hl}{tl th:TO}{pos p2:Jq}
def xF:PO X td xE:=by
 intro J s Y H Q I h;rw[OG];exact GX #[td,H,I,.none,h]
def xG (h:PE X e te):PO X (gV e) (De te):=by
 intro J s Y H Q I hw;rw[evalPart_some];show bm (h J s Y H _ I hw) λu s1 #[x,H1,I1,r1,q1]=>?_
 obtain⟨i,rfl,q⟩:=q1;obtain⟨t,rfl⟩:=r1;exact#[gV i,H1,I1,.int i t,q]
abbrev Dg (X:Cx)(r:V->GN G0->GN G0->Hp->VK->Prop):Prop:=
 ∀(J:GD (GU×IM)) (s:GL) (Y:St) (H:Hp) (x:V) (v vl vu:GK) (lo hi:GN G0) (sl:GU) (Q:VK),Inv X J Y H s->RelV x v->s.heap.IsSliceOf sl vl vu .none->Le vl lo->Le vu hi->r x lo hi H Q->
  ∃T id,typeLookup (.type T) "__getitem__" = pure (gV (.builtin id))/\s.TypeIs v T/\wpAny (model X.prog X.w) X.A (getItem v (.ref sl)) (EP X J Y Q) X.xe s
abbrev Gs (r:V->GN G0->GN G0->Hp->VK->Prop)(te:TE)(tl th:TO):TE:=λY H Q=>te Y H λx H1=>tl Y H1 λl H2=>th Y H2 λu H3=>r x l u H3 Q
def tW {r:V->GN G0->GN G0->Hp->VK->Prop}(hr:Dg X r)(he:PE X e te)(hl:PO X lo tl)(hu:PO X hi th):PE X (.Subscript e (.Slice lo hi td p2) pos) (Gs r te tl th):=by
 intro J s Y H Q I h;show Subscript_ (bm (he J s Y H _ I h) λv s1 #[x,H1,I1,r1,q1]=>?_)
 show wpAny_Slice (bm (hl J s1 Y H1 _ I1 q1) λvl s2 #[l,H2,I2,pl,q2]=>bm (hu J s2 Y H2 _ I2 q2) λvu s3 #[u,H3,I3,pu,q3]=>?_)
 rw[OG];show GX ?_;have I4:Inv X J Y H3 { s3 with heap:=s3.heap.push { cls:=.type "slice",data:=.fields [vl,vu,.none].toArray } }:=I3.kept (t':=s3.toks) λb ob q=>GR _ q
 obtain⟨T,id,hT,ht,hg⟩:=hr J { s3 with heap:=s3.heap.push { cls:=.type "slice",data:=.fields [vl,vu,.none].toArray } } Y H3 x v vl vu l u s3.heap.objs.size Q I4 r1 (Pn ..) pl pu q3
 change wpAny (model X.prog X.w) X.A (subscriptTail e (.Slice lo hi td p2) v (.ref s3.heap.objs.size)) (EP X J Y Q) X.xe { s3 with heap:=s3.heap.push { cls:=.type "slice",data:=.fields [vl,vu,.none].toArray } }
 exact tail_any (ops:=[.ref s3.heap.objs.size,v]) ht hT hg (by with_unfolding_all rfl)
abbrev jz (xs:GD V)(lo hi:GN G0):GD V:=(xs.drop (HT.ci xs.length 0 lo)).take (HT.ci xs.length xs.length hi - HT.ci xs.length 0 lo)
def iZ (xs:GD V)(lo hi:GN G0):(jz xs lo hi).length<=xs.length:=by
 unfold jz;rw[Hm,IY];omega
abbrev Fi (K:G4):V->GN G0->GN G0->Hp->VK->Prop:=λx lo hi H Q=>∃a xs,x=.ref a/\SqT K H a xs/\
 ¬ (HT.ci xs.length 0 lo=0/\HT.ci xs.length xs.length hi=xs.length)/\∀p,H p=td->Q (.ref p) (bM H p (.tup (jz xs lo hi)))
def Bd:Dg X (Fi X.K):=by
 intro J s Y H x v vl vu lo hi sl Q I rx hs pl pu h;obtain⟨a,xs,rfl,hx,hw,q⟩:=h;cases rx;obtain⟨its,r,ht,hz⟩:=I.tuple hx;have hlen:its.toArray.size=xs.length:=by rw[G9]; exact r.length.symm
 show#["tuple",_,PyProof.Rows.slot_tuple_getitem.lookup,ht.typeIs,?_];show HT.gN ht hs pl pu (by rw[hlen]; exact hw) ?_ (by rw[hlen]; exact hz)
 rw[hlen];show#[.ref s.heap.objs.size,_,I.laid (t':=s.toks) (o:=.tup (jz xs lo hi)) (λb ob q=>GR _ q) (G3 _) ?_,rfl,q _ (I.hok.fresh (G3 _))]
 exact#[#[Hs (iZ xs lo hi) hz,NoD.new _ _ _],_,(r.drop (HT.ci xs.length 0 lo)).take (HT.ci xs.length xs.length hi - HT.ci xs.length 0 lo),MJ _ _]
def Vals.nil_iff {xs:GD V}{us:GD GK}(r:Vals xs us):us=[]↔xs=[]:=by
 cases r with
 | nil=>simp
 | cons _ _=>simp
end
abbrev qp (n:GP)(i:G0):GN GP:=if 0<=i then(if i < n then gV i.toNat else td)else if -(n:G0)<=i then gV (i+n).toNat else td
abbrev nv {α:Type}(xs:GD α)(i:G0):GN α:=(qp xs.length i).bind λj=>xs[j]?
def qr {n:GP}{i:G0}{j:GP}(h:qp n i=gV j):seqIndex? i n=gV j/\j < n/\-(n:G0)<=i/\i < n:=by
 unfold qp at h
 by_cases h0:0<=i
 ·rw[Ho h0]at h
  by_cases h1:i < n
  ·rw[Ho h1]at h;have e:i.toNat=j:=Io h;exact#[by rw[N2 h0 h1,e],∅,∅,h1]
  ·rw[HD h1]at h; cases h
 ·rw[HD h0]at h
  by_cases h1 : -(n:G0)<=i
  ·rw[Ho h1]at h;have e:(i+n).toNat=j:=Io h;exact#[by rw[Nr ∅ h1,e],∅,h1,∅]
  ·rw[HD h1]at h; cases h
def lV {α:Type}{xs:GD α}{i:G0}{v:α}(h:nv xs i=gV v):∃j,seqIndex? i xs.length=gV j/\xs[j]?=gV v/\j < xs.length/\-(xs.length:G0)<=i/\i < xs.length:=by
 unfold nv at h;cases e:qp xs.length i with
 | none=>rw[e]at h; cases h
 | some j=>
  rw[e]at h;obtain⟨h1,h2,h3,h4⟩:=qr e;exact#[j,h1,h,h2,h3,h4]
def atI_nat {α:Type}{xs:GD α}{j:GP}{v:α}(h:xs[j]?=gV v):nv xs (j:G0)=gV v:=by
 have hj:j < xs.length:=(G5.mp h).1;have e:qp xs.length (j:G0)=gV j:=by
  unfold qp;rw[Ho ∅,Ho ∅]; simp
 unfold nv; rw[e]; exact h
abbrev lW (b:Hl):Prop:=∀o i,subscripted b false o i=operate [o,i] (getItem o i)
abbrev IxR (X:Cx)(r:R2):Prop:=
 ∀(value slice:Hl) (J:GD (GU×IM)) (s:GL) (Y:St) (H:Hp) (x y:V) (v u:GK) (Q:VK),Inv X J Y H s->RelV x v->RelV y u->r x y H Q->
  subscripted slice false v u=operate [v,u] (getItem v u)->wpAny (model X.prog X.w) X.A (subscriptTail value slice v u) (EP X J Y Q) X.xe s
abbrev MtR (X:Cx)(id:Iw)(r:V->GD V->Hp->VK->Prop):Prop:=
 ∀(J:GD (GU×IM)) (s:GL) (Y:St) (H:Hp) (x:V) (xs:GD V) (v:GK) (us:GD GK) (Q:VK),Inv X J Y H s->RelV x v->Vals xs us->r x xs H Q->
  wpAny (model X.prog X.w) X.A (call (.builtin id) (v::us)) (EP X J Y Q) X.xe s
section
variable{X:Cx}{a b:Hl}{ta tb:TE}{pos:Jq}
def Dh {r:R2}(hr:IxR X r)(ha:PE X a ta)(hb:PE X b tb)(hs:lW b):PE X (.Subscript a b pos) (EG r ta tb):=by
 intro J s Y H Q I h;exact Subscript_ (AT ha hb I h λv u s2 x y H2 I2 rx ry q=>hr a b J s2 Y H2 x y v u Q I2 rx ry q (hs _ _))
abbrev Fj (K:G4):R2:=λx y H Q=>∃p xs i v,x=.ref p/\y=.int i/\SqL K H p xs/\nv xs i=gV v/\Q v H
abbrev Fk (K:G4):R2:=λx y H Q=>∃p xs i v,x=.ref p/\y=.int i/\SqT K H p xs/\nv xs i=gV v/\Q v H
abbrev Fn:R2:=λx y H Q=>∃z i c,x=.str z/\y=.int i/\z.length<=sizeLine/\nv z.cps.toList i=gV c/\Q (.str #[[c].toArray]) H
def xH:IxR X (Fj X.K):=by
 intro value slice J s Y H x y v u Q I rx ry h hs;obtain⟨p,xs,i,z,rfl,rfl,hq,he,q⟩:=h;cases rx;obtain⟨t,rfl⟩:=ry;obtain⟨its,r,pl,hz⟩:=I.list hq;obtain⟨j,h1,h2,h3,h4,h5⟩:=lV he;obtain⟨w,ew,rw'⟩:=r.get h2;have hl:=r.length;have hn:=iq;have fin:EP X J Y Q w s:=#[z,H,I,rw',q]
 by_cases h0:0<=i
 ·have hj:i.toNat=j:=by
   rw[N2 h0 h5]at h1;exact Io h1
  exact item_listR pl.isList h0 ∅ (by rw[hj]; simpa using ew) fin hs
 ·have hj:(i+(its.toArray.size:G0)).toNat=j:=by
   rw[Nr ∅ h4]at h1
   rw[G9,<- hl];exact Io h1
  exact KL (x:=w) pl.isList.typeIs slot_list_getitem.lookup
   (wpAny_getItem_list_neg (Q:=λr s'=>r=w/\EP X J Y Q r s') pl.isList ∅ (by rw[G9] <;> omega) ∅ (by rw[hj]; simpa using ew) #[rfl,fin]) hs
def Be:IxR X (Fk X.K):=by
 intro value slice J s Y H x y v u Q I rx ry h hs;obtain⟨p,xs,i,z,rfl,rfl,hq,he,q⟩:=h;cases rx;obtain⟨t,rfl⟩:=ry;obtain⟨its,r,pl,hz⟩:=I.tuple hq;obtain⟨j,h1,h2,h3,h4,h5⟩:=lV he;obtain⟨w,ew,rw'⟩:=r.get h2;have hl:=r.length;have hn:=iq;have fin:EP X J Y Q w s:=#[z,H,I,rw',q];exact KL (x:=w) pl.typeIs slot_tuple_getitem.lookup
  (getItem_tuple (j:=j) (Q:=λr s'=>r=w/\EP X J Y Q r s') pl ∅ ∅ (by rw[G9,<- hl]; exact h1) (by simpa using ew) #[rfl,fin]) hs
def Bf:IxR X Fn:=by
 intro value slice J s Y H x y v u Q I rx ry h hs;obtain⟨z,i,c,rfl,rfl,hz,he,q⟩:=h;obtain⟨t,rfl⟩:=rx;obtain⟨t',rfl⟩:=ry;obtain⟨j,h1,h2,h3,h4,h5⟩:=lV he;have hl:z.cps.toList.length=z.length:=by simp[Str.length]
 rw[hl]at h1 h4 h5;have hn:=iq;exact tail_any (typeIs_str s z t) slot_str_getitem.lookup (getItem_str (c:=c) (by
  have e1:decide (i < -(2 ^ 63:G0))=false:=Hz ∅
  have e2:decide (i>=2 ^ 63)=false:=Hz ∅
  rw[e1,e2,MU]) (by rw[h1]; simpa using h2) #[.str #[[c].toArray],H,I.tok _,#[_,rfl],q]) hs
def pf (its:GD GK)(n j:GP)(u:GK):IH (·.setIfInBounds j u) { cls:=.type "list",data:=.seq its.toArray n }={ cls:=.type "list",data:=.seq (its.set j u).toArray n }:=by
 simp[IH]
def Inv.lst {J:GD (GU×IM)}{Y:St}{H:Hp}{s:GL}{p:GU}{xs:GD V}(I:Inv X J Y H s)(h:H p=gV (.lst xs)) :
  ∃(its:GD GK) (n:GP),Vals xs its/\s.heap.get? p=gV { cls:=.type "list",data:=.seq its.toArray n }/\xs.length<=sizeLine:=by
 obtain⟨z,its,n,r,e⟩:=I.hok p _ h;exact#[its,n,r,e,z]
def Inv.lstUpd {J:GD (GU×IM)}{Y:St}{H:Hp}{s:GL}{p:GU}{xs ys:GD V}{its its':GD GK}{n n':GP}{f:IM->IM}(I:Inv X J Y H s)(h:H p=gV (.lst xs))
  (ho:s.heap.get? p=gV { cls:=.type "list",data:=.seq its.toArray n }) (hf:f { cls:=.type "list",data:=.seq its.toArray n }={ cls:=.type "list",data:=.seq its'.toArray n' }) (r:Vals ys its') (hz:ys.length<=sizeLine) (t:GP) :
  Inv X J Y (bM H p (.lst ys)) { s with heap:=s.heap.update p f,toks:=t }:=by
 have e:(s.heap.update p f).get? p=gV { cls:=.type "list",data:=.seq its'.toArray n' }:=by
  rw[JD f ho (by rw[hf] <;> rfl),hf]
 show I.write (x:=p) (e:=p) (by rw[h]; trivial) (.inl rfl) (λb u hb q=>(Ic _ _ (Ne.symm hb)).trans q) #[_,e] ?_
 exact#[hz,its',n',r,e]
abbrev Di:V->V->V->Hp->(Hp->Prop)->Prop:=λo i v H Q=>∃p xs k j,o=.ref p/\i=.int k/\H p=gV (.lst xs)/\qp xs.length k=gV j/\Q (bM H p (.lst (xs.set j v)))
def tX:AL X Di:=by
 intro J s Y H o i v ov iv u Q I ro ri rv h;obtain⟨p,xs,k,j,rfl,rfl,hp,hj,q⟩:=h;cases ro;obtain⟨t,rfl⟩:=ri;obtain⟨its,n,r,ho,hz⟩:=I.lst hp;obtain⟨h1,h2,h3,h4⟩:=qr hj;have hl:=r.length;have hn:=iq;have I':Inv X J Y (bM H p (.lst (xs.set j v))) { s with heap:=s.heap.update p (IH (·.setIfInBounds j u)) }:=
  I.lstUpd hp ho (pf its n j u) (r.set rv j) (by rw[N8]; exact hz) s.toks
 by_cases h0:0<=k
 ·have hk:k.toNat=j:=by
   rw[N2 h0 h4]at h1;exact Io h1
  exact PySem.W.ki_setAt ho h0 ∅ (by rw[G9,<- hl]; exact h4) (by rw[hk]; exact#[_,I',q])
 ·have hk:(k+(its.toArray.size:G0)).toNat=j:=by
   rw[Nr ∅ h3]at h1
   rw[G9,<- hl];exact Io h1
  exact PySem.W.ki_setBack ho ∅ (by rw[G9,<- hl]; exact h3) ∅ (by rw[hk]; exact#[_,I',q])
def lX (lo hi:GN G0)(n:GP):(sliceBounds lo hi td n).1=((HT.ci n 0 lo:GP):G0)/\(sliceBounds lo hi td n).2.1=((HT.ci n n hi:GP):G0)/\(sliceBounds lo hi td n).2.2=1:=by
 show#[?_,?_,rfl]
 ·cases lo with
  | none=>simp[sliceBounds,HT.ci]
  | some i=>
   simp only[sliceBounds,HT.ci,NO,show(1:G0) > 0 by decide,J1]
   by_cases h:i < 0
   ·simp only[h,J1] <;> omega
   ·simp only[h,JL] <;> omega
 ·cases hi with
  | none=>simp[sliceBounds,HT.ci]
  | some i=>
   simp only[sliceBounds,HT.ci,NO,show(1:G0) > 0 by decide,J1]
   by_cases h:i < 0
   ·simp only[h,J1] <;> omega
   ·simp only[h,JL] <;> omega
def kF (its:GD GK)(lo hi:GN G0):slicePick its.toArray lo hi td=((its.drop (HT.ci its.length 0 lo)).take (HT.ci its.length its.length hi - HT.ci its.length 0 lo)).toArray:=by
 obtain⟨h1,h2,h3⟩:=lX lo hi its.toArray.size;unfold slicePick;rw[h1,h2,h3];simp only[sliceRange_one,pick_run,G9] <;> rfl
abbrev Fo (K:G4):V->GN G0->GN G0->Hp->VK->Prop:=λx lo hi H Q=>∃a xs,x=.ref a/\SqL K H a xs/\∀p,H p=td->Q (.ref p) (bM H p (.lst (jz xs lo hi)))
def xI:Dg X (Fo X.K):=by
 intro J s Y H x v vl vu lo hi sl Q I rx hs pl pu h;obtain⟨a,xs,rfl,hx,q⟩:=h;cases rx;obtain⟨its,r,ht,hz⟩:=I.list hx;have hlen:=r.length;show#["list",_,slot_list_getitem.lookup,ht.isList.typeIs,?_];show wpAny_getItem_list_slice ht.isList hs pl pu .none (by simp) ?_ (by rw[G9] <;> omega)
 rw[kF,<- hlen];show#[.ref s.heap.objs.size,_,I.laid (t':=s.toks) (o:=.lst (jz xs lo hi)) (λb ob q=>GR _ q) (G3 _) ?_,rfl,q _ (I.hok.fresh (G3 _))]
 exact#[Hs (iZ xs lo hi) hz,_,0,(r.drop (HT.ci xs.length 0 lo)).take (HT.ci xs.length xs.length hi - HT.ci xs.length 0 lo),He _ rfl]
abbrev gf:V->Hj
 | .non=>true
 | .bl _=>true
 | .int _=>true
 | .str _=>true
 | _=>false
abbrev xJ:V->V->Hj
 | .non,.non=>true
 | .bl a,.bl b=>a==b
 | .bl a,.int b=>(if a then 1 else 0)==b
 | .int a,.bl b=>a==(if b then 1 else 0)
 | .int a,.int b=>a==b
 | .str a,.str b=>a==b
 | _,_=>false
def Bg {A:HE}{s:GL}{y x:V}{u v:GK}(ry:RelV y u)(rx:RelV x v)(fy:gf y=true)(fx:gf x=true):KU A s u v (xJ y x):=by
 cases y with
 | non=>
  cases ry;cases x with
  | non=>cases rx; exact PJ _
  | bl b=>cases rx; exact O7 b
  | int b=>obtain⟨t,rfl⟩:=rx; exact Pe b t
  | str b=>obtain⟨t,rfl⟩:=rx; exact Pf b t
  | _=>exact absurd (show false=true from fx) Hb
 | bl a=>
  cases ry;cases x with
  | non=>cases rx; exact O8 a
  | bl b=>cases rx; exact O9 a b
  | int b=>obtain⟨t,rfl⟩:=rx; exact Pg a b t
  | str b=>obtain⟨t,rfl⟩:=rx; exact Ph a b t
  | _=>exact absurd (show false=true from fx) Hb
 | int a=>
  obtain⟨t',rfl⟩:=ry;cases x with
  | non=>cases rx; exact Pi a t'
  | bl b=>cases rx; exact Pj a t' b
  | int b=>obtain⟨t,rfl⟩:=rx; exact Po a t' b t
  | str b=>obtain⟨t,rfl⟩:=rx; exact MZ a t' b t
  | _=>exact absurd (show false=true from fx) Hb
 | str a=>
  obtain⟨t',rfl⟩:=ry;cases x with
  | non=>cases rx; exact Pk a t'
  | bl b=>cases rx; exact Pl a t' b
  | int b=>obtain⟨t,rfl⟩:=rx; exact M0 a t' b t
  | str b=>obtain⟨t,rfl⟩:=rx; exact Pp a t' b t
  | _=>exact absurd (show false=true from fx) Hb
 | _=>exact absurd (show false=true from fy) Hb
abbrev ny (x:V)(u:GK):Hj:=match u with
 | .none=>xJ .non x
 | .bool b=>xJ (.bl b) x
 | .int i _=>xJ (.int i) x
 | .str z _=>xJ (.str z) x
 | _=>false
def pg {x y:V}{u:GK}(r:RelV y u)(f:gf y=true):ny x u=xJ y x:=by
 cases y with
 | non=>cases r; rfl
 | bl b=>cases r; rfl
 | int i=>obtain⟨t,rfl⟩:=r; rfl
 | str z=>obtain⟨t,rfl⟩:=r; rfl
 | _=>exact absurd (show false=true from f) Hb
def gO {x:V}:∀ {xs:GD V} {us:GD GK},Vals xs us->xs.all gf=true->us.any (ny x)=xs.any λy=>xJ y x
 | _,_,.nil,_=>rfl
 | y::xs,u::us,.cons r t,f=>by
  rw[HF,GQ]at f;rw[Jw,Jw,pg r f.1,gO t f.2]
def ey {A:HE}{s:GL}{x:V}{v:GK}(rx:RelV x v)(fx:gf x=true):∀ {xs:GD V} {us:GD GK},Vals xs us->xs.all gf=true->∀u∈us,KU A s u v (ny x u)
 | _,_,.nil,_=>λu hu=>by cases hu
 | y::xs,u::us,.cons r t,f=>λu' hu=>by
  rw[HF,GQ]at f;rcases Hn.mp hu with rfl|hu
  ·rw[pg r f.1]; exact Bg r rx f.1 fx
  ·exact ey rx fx t f.2 u' hu
abbrev EI (x:V)(xs:GD V):Hj:=xs.any λy=>xJ y x
abbrev Fp (K:G4)(neg:Hj):R2:=λx y H Q=>∃p xs,y=.ref p/\(SqL K H p xs\/SqT K H p xs)/\gf x=true/\xs.all gf=true/\Q (.bl (if neg then !EI x xs else EI x xs)) H
def rM:OpR X (compareOp .In) (Fp X.K false):=by
 intro J s Y H x y v u Q I rx ry h;obtain⟨p,xs,rfl,hq,fx,fs,q⟩:=h;cases ry;rcases hq with hq|hq
 ·obtain⟨its,r,pl,hz⟩:=I.list hq;show N9 (ny x) pl.isList (λw hw=>ey rx fx r fs w (by simpa using hw)) #[.bl _,H,I,rfl,?_]
  rw[show its.toArray.any (ny x)=its.any (ny x) by simp,gO r fs]
  exact q
 ·obtain⟨its,r,pl,hz⟩:=I.tuple hq;show NP (ny x) pl (λw hw=>ey rx fx r fs w (by simpa using hw)) #[.bl _,H,I,rfl,?_]
  rw[show its.toArray.any (ny x)=its.any (ny x) by simp,gO r fs]
  exact q
def lY:OpR X (compareOp .NotIn) (Fp X.K true):=by
 intro J s Y H x y v u Q I rx ry h;obtain⟨p,xs,rfl,hq,fx,fs,q⟩:=h;cases ry;rcases hq with hq|hq
 ·obtain⟨its,r,pl,hz⟩:=I.list hq;show M7 (ny x) pl.isList (λw hw=>ey rx fx r fs w (by simpa using hw)) #[.bl _,H,I,rfl,?_]
  rw[show its.toArray.any (ny x)=its.any (ny x) by simp,gO r fs]
  exact q
 ·obtain⟨its,r,pl,hz⟩:=I.tuple hq;show SeqAt.notIn_tupleAt (ny x) pl (λw hw=>ey rx fx r fs w (by simpa using hw)) #[.bl _,H,I,rfl,?_]
  rw[show its.toArray.any (ny x)=its.any (ny x) by simp,gO r fs]
  exact q
def lZ:CallR X (.type "list") (λxs H Q=>∃p ys,xs=[.ref p]/\(SqL X.K H p ys\/SqT X.K H p ys)/\∀l,H l=td->Q (.ref l) (bM H l (.lst ys))):=by
 intro J s Y H xs us Q I r h;obtain⟨p,ys,rfl,hq,q⟩:=h;obtain⟨u,rfl,rx⟩:=kM r;cases rx;have fin:∀(its:GD GK),Vals ys its->ys.length<=sizeLine->∀(h':HX) (c':GP),(∀b o',s.heap.get? b=gV o'->h'.get? b=gV o')->
   h'.get? s.heap.objs.size=gV { cls:=.type "list",dict:=td,data:=.seq its.toArray c',slots:=#[] }->EP X J Y Q (.ref s.heap.objs.size) { s with heap:=h' }:=λits r' hz h' c' kp e=>
  #[.ref s.heap.objs.size,_,I.laid (t':=s.toks) kp (G3 _) (show ObjOk X.prog X.w _ h' _ (.lst ys)from#[hz,its,c',r',e]),rfl,q _ (I.hok.fresh (G3 _))]
 rcases hq with hq|hq
 ·obtain⟨its,r',pl,hz⟩:=I.list hq;have hlen:=r'.length;obtain⟨o,ho,hc,n,hd⟩:=pl.isList;exact OH p (.inl rfl) ho hc hd (λh' c' kp e=>fin its r' hz h' c' kp e) (by simp only[G9] <;> omega)
 ·obtain⟨its,r',pl,hz⟩:=I.tuple hq;have hlen:=r'.length;obtain⟨o,ho,hc,n,hd⟩:=pl;exact OH p (.inr rfl) ho hc hd (λh' c' kp e=>fin its r' hz h' c' kp e) (by simp only[G9] <;> omega)
def gk:CallR X (.type "tuple") (λxs H Q=>∃p ys,xs=[.ref p]/\((SqL X.K H p ys/\∀l,H l=td->Q (.ref l) (bM H l (.tup ys)))\/(SqT X.K H p ys/\Q (.ref p) H))):=by
 intro J s Y H xs us Q I r h;obtain⟨p,ys,rfl,h⟩:=h;obtain⟨u,rfl,rx⟩:=kM r;cases rx;rcases h with⟨hq,q⟩|⟨hq,q⟩
 ·obtain⟨its,r',pl,hz⟩:=I.list hq;have hlen:=r'.length;show call_tuple_list pl.isList (λh' kp=>?_) (by simp only[G9] <;> omega)
  have I1:Inv X J Y H { s with heap:=h' }:=I.kept (t':=s.toks) kp
  have I2:Inv X J Y (bM H h'.objs.size (.tup ys)) { s with heap:=h'.push { cls:=.type "tuple",data:=.seq its.toArray } }:=
   I1.laid (t':=s.toks) (λb o e=>GR _ e) (G3 _) (show ObjOk X.prog X.w _ _ _ (.tup ys)from#[#[hz,NoD.new _ _ _],its,r',MJ _ _])
  exact#[.ref h'.objs.size,_,I2,rfl,q _ (I1.hok.fresh (G3 _))]
 ·obtain⟨its,r',pl,hz⟩:=I.tuple hq;exact call_tuple_same pl #[.ref p,H,I,rfl,q]
abbrev Fq (K:G4)(T:Iw)(x:V)(H:Hp):Prop:=match x with
 | .str _=>T = "str"
 | .int _=>T = "int"
 | .ref p=>(T = "list"/\∃xs,SqL K H p xs)\/(T = "tuple"/\∃o,K.lookup p=gV o/\o.cls=.type "tuple"/\o.dict=td)\/
   (T = "dict"/\((∃U,H p=gV (.dK U))\/∃U,H p=gV (.dT U)))\/(T = "set"/\∃S n,H p=gV (.set S n))
 | _=>Iq
def tY {J:GD (GU×IM)}{Y:St}{H:Hp}{s:GL}{T:Iw}{x:V}{v:GK}(I:Inv X J Y H s)(r:RelV x v)(ty:Fq X.K T x H) :
  s.TypeIs v T/\∀a,v=.ref a->∃ob,s.heap.get? a=gV ob/\ob.dict=td:=by
 cases x with
 | str z=>
  obtain⟨t,rfl⟩:=r;cases(show T = "str" from ty)
  exact#[typeIs_str s z t,λ_ e=>nomatch e]
 | int i=>
  obtain⟨t,rfl⟩:=r;cases(show T = "int" from ty)
  exact#[Om s i t,λ_ e=>nomatch e]
 | ref p=>
  cases r;rcases ty with⟨rfl,xs,hq⟩|⟨rfl,o,hk,hc,hd⟩|⟨rfl,hk⟩|⟨rfl,S,n,hk⟩
  ·obtain⟨its,_,pl,_⟩:=I.list hq;show#[pl.isList.typeIs,λa e=>?_]
   cases e;obtain⟨o,n,e,c,hd,_⟩:=pl;exact#[o,e,hd]
  ·show#[#[o,I.kIn p o hk,hc],λa e=>?_]
   cases e;exact#[o,I.kIn _ o hk,hd]
  ·have z:∃o,s.heap.get? p=gV o/\o.ExactDict:=by
    rcases hk with⟨U,hk⟩|⟨U,hk⟩
    ·obtain⟨_,_,_,_,o,_,_,e,ex,_⟩:=I.hok p _ hk;exact#[o,e,ex]
    ·obtain⟨_,_,_,_,o,_,_,e,ex,_⟩:=I.hok p _ hk;exact#[o,e,ex]
   obtain⟨o,e,ex⟩:=z;show#[#[o,e,ex.1],λa e2=>?_]
   cases e2;exact#[o,e,ex.2.1]
  ·obtain⟨o,_,_,_,e,ex,_⟩:=I.hok p _ hk;show#[#[o,e,ex.1],λa e2=>?_]
   cases e2;exact#[o,e,ex.2.1]
 | _=>exact Iq.elim ty
variable{o e:Hl}{es:GD Hl}{to:TE}{t:TA}{name:Hc}{apos cpos:Jq}{T id:Iw}{r:V->GD V->Hp->VK->Prop}
end
abbrev Fs (X:Cx)(id:Iw)(r:V->GD V->Hp->VK->Prop):Prop:=
 ∀(J:GD (GU×IM)) (s:GL) (Y:St) (H:Hp) (x:V) (xs:GD V) (v:GK) (us:GD GK) (Q:VK),Inv X J Y H s->RelV x v->Vals xs us->r x xs H Q->
  wpAny (model X.prog X.w) X.A (call (.builtin id) (v::us)) (EP X J Y Q) X.xe s
def Vals.one:∀ {x:V} {us:GD GK},Vals [x] us->∃u,us=[u]/\RelV x u
 | _,_,.cons r .nil=>#[_,rfl,r]
def Vals.eraseIdx:∀ {xs:GD V} {us:GD GK} (i:GP),Vals xs us->Vals (xs.eraseIdx i) (us.eraseIdx i)
 | _,_,_,.nil=>.nil
 | _,_,0,.cons _ t=>t
 | _,_,i+1,.cons r t=>.cons r (Vals.eraseIdx i t)
def Vals.rep {xs:GD V}{us:GD GK}(h:Vals xs us):∀k:GP,Vals (HU k xs).flatten (HU k us).flatten
 | 0=>.nil
 | k+1=>by
  rw[Je,Je,JM,JM];exact Vals.append h (Vals.rep h k)
def kS {α:Type}:∀(l:GD α) (i:GP),(l.eraseIdx i).length<=l.length
 | [],_=>G3 _
 | _::_,0=>J0 _
 | _::r,i+1=>Nat.succ_le_succ (kS r i)
def kU (its:GD GK):∀(k:GP) (acc:GD GK),
  On (λx1 x2=>x1++x2) acc.toArray (HU k its.toArray)=(acc++(HU k its).flatten).toArray
 | 0,acc=>by simp
 | k+1,acc=>by
  have e:acc.toArray++its.toArray=(acc++its).toArray:=by simp
  have e2:(acc++its)++(HU k its).flatten=acc++(HU (k+1) its).flatten:=by
   rw[Je,JM,KM]
  rw[<- e2,<- kU its k (acc++its),<- e,Je,List.foldl_cons]
section
variable{X:Cx}{J:GD (GU×IM)}{Y:St}{H:Hp}{s:GL}{l b:GU}{xs ys zs:GD V}
def Inv.lset {its its':GD GK}{n:GP}{f:HR GK->HR GK}{t':GP}(I:Inv X J Y H s)(hH:H l=gV (.lst xs))
  (e:s.heap.get? l=gV { cls:=.type "list",data:=.seq its.toArray n }) (hf:f its.toArray=its'.toArray) (hv:Vals ys its') (hz:ys.length<=sizeLine) :
  Inv X J Y (bM H l (.lst ys)) { s with heap:=s.heap.update l (IH f),toks:=t' }:=by
 have q:=NQ e f;rw[hf]at q;show I.write (x:=l) (e:=l) (by rw[hH]; exact trivial) (.inl rfl) (λb' u hb hu=>(Ic s.heap (IH f) (Ne.symm hb)).trans hu) #[_,q] ?_
 exact#[hz,its',_,hv,q]
def Inv.lnew {its:GD GK}{t':GP}(I:Inv X J Y H s)(hv:Vals ys its)(hz:ys.length<=sizeLine) :
  Inv X J Y (bM H s.heap.objs.size (.lst ys)) { s with heap:=s.heap.push { cls:=.type "list",data:=.seq its.toArray },toks:=t' }:=
 I.laid (λ_ _ q=>GR _ q) (G3 _) #[hz,its,0,hv,He _ rfl]
def Inv.fresh (I:Inv X J Y H s):H s.heap.objs.size=td:=I.hok.fresh (G3 _)
def Inv.lstM (I:Inv X J Y H s)(hH:H l=gV (.lst xs)):xs.length<=sizeLine/\∃(its:GD GK) (n:GP),Vals xs its/\xs.length=its.length/\s.heap.get? l=gV { cls:=.type "list",data:=.seq its.toArray n }:=by
 obtain⟨z,its,n,r,e⟩:=I.hok l _ hH;exact#[z,its,n,r,r.length,e]
def nz {n:GP}(h:n<=sizeLine):JP n=false:=by
 unfold JP;exact Hz ∅
end
section
variable{X:Cx}
abbrev xK:V->GD V->Hp->VK->Prop:=λx vs H Q=>∃l xs y,x=.ref l/\vs=[y]/\H l=gV (.lst xs)/\xs.length < sizeLine/\Q .non (bM H l (.lst (xs++[y])))
def rN:Fs X "list.append" xK:=by
 intro J s Y H x vs v us Q I rx rv h;obtain⟨l,xs,y,rfl,rfl,hH,hz,q⟩:=h;cases rx;obtain⟨u,rfl,ru⟩:=rv.one;obtain⟨z,its,n,r,hl,e⟩:=I.lstM hH;show KW F.slot_list_append #[_,e,rfl] F.entry_list_append (F.args_list_append_2 _ _) (Nt l its.toArray n u (by rw[G9]; omega)) #[e,?_]
 show#[.non,_,I.lset (its':=its++[u]) hH e (by simp) (r.append #v[ru]) ?_,rfl,q]
 rw[GJ,HB];omega
abbrev xL:V->GD V->Hp->VK->Prop:=λx vs H Q=>∃l b xs zs,x=.ref l/\vs=[.ref b]/\H l=gV (.lst xs)/\H b=gV (.lst zs)/\xs.length+zs.length<=sizeLine/\Q .non (bM H l (.lst (xs++zs)))
def rO:Fs X "list.extend" xL:=by
 intro J s Y H x vs v us Q I rx rv h;obtain⟨l,b,xs,zs,rfl,rfl,hH,hB,hz,q⟩:=h;cases rx;obtain⟨u,rfl,ru⟩:=rv.one;cases ru;obtain⟨z,its,n,r,hl,e⟩:=I.lstM hH;obtain⟨z2,its2,n2,r2,hl2,e2⟩:=I.lstM hB;have hsz:its.toArray.size+its2.toArray.size<=sizeLine:=by rw[G9,G9]; omega
 have hlong:¬ (!its.toArray.isEmpty&&JP (its.toArray.size+its2.toArray.size))=true:=by
  rw[nz hsz,Bool.and_false];exact Hb
 show KW F.slot_list_extend #[_,e,rfl] F.entry_list_extend (F.args_list_extend_2 _ _)
  (Nu l its.toArray n b its2.toArray n2 hlong (by rw[G9]; omega) ∅) #[e,e2,?_]
 show#[.non,_,I.lset (its':=its++its2) hH e (by simp) (r.append r2) ?_,rfl,q]
 rw[GJ];omega
abbrev Bh:V->GD V->Hp->VK->Prop:=λx vs H Q=>∃l xs i k y,x=.ref l/\vs=[.int i]/\H l=gV (.lst xs)/\-(2 ^ 63)<=i/\i < 2 ^ 63/\seqIndex? i xs.length=gV k/\xs[k]?=gV y/\Q y (bM H l (.lst (xs.eraseIdx k)))
def tZ:Fs X "list.pop" Bh:=by
 intro J s Y H x vs v us Q I rx rv h;obtain⟨l,xs,i,k,y,rfl,rfl,hH,h1,h2,hk,hy,q⟩:=h;cases rx;obtain⟨u,rfl,ru⟩:=rv.one;obtain⟨t,rfl⟩:=ru;obtain⟨z,its,n,r,hl,e⟩:=I.lstM hH;obtain⟨w,hw,rw'⟩:=r.get hy;show KW F.slot_list_pop #[_,e,rfl] F.entry_list_pop (F.args_list_pop_2 _ _)
  (Pa l its.toArray n i t k w (Oo h1 h2) (by rw[G9,<- hl]; exact hk) (by rw[<- IN]; exact hw) (by rw[G9]; omega)) #[e,?_]
 show#[y,_,I.lset (its':=its.eraseIdx k) hH e ?_ (r.eraseIdx k) ?_,rw',q]
 ·change its.toArray.eraseIdxIfInBounds k=(its.eraseIdx k).toArray;rw[List.eraseIdxIfInBounds_toArray]
 ·have:=kS xs k;omega
abbrev Ft:R2:=λx y H Q=>∃l b xs zs,x=.ref l/\y=.ref b/\H l=gV (.lst xs)/\H b=gV (.lst zs)/\xs.length+zs.length<=sizeLine/\∀p,H p=td->Q (.ref p) (bM H p (.lst (xs++zs)))
def Bj:OpR X (binaryOp .Add) Ft:=by
 intro J s Y H x y v u Q I rx ry h;obtain⟨l,b,xs,zs,rfl,rfl,hH,hB,hz,q⟩:=h;cases rx;cases ry;obtain⟨z,its,n,r,hl,e⟩:=I.lstM hH;obtain⟨z2,its2,n2,r2,hl2,e2⟩:=I.lstM hB;show PySem.P.add_list e e2 ?_ (by rw[G9,G9]; omega)
 have ea:its.toArray++its2.toArray=(its++its2).toArray:=by simp
 rw[ea];exact#[.ref _,_,I.lnew (t':=s.toks) (r.append r2) (by rw[GJ]; omega),rfl,q _ I.fresh]
abbrev Fu:R2:=λx y H Q=>∃l k xs,x=.ref l/\y=.int k/\H l=gV (.lst xs)/\-(2 ^ 63)<=k/\k < 2 ^ 63/\xs.length*k.toNat<=sizeLine/\
 ∀p,H p=td->Q (.ref p) (bM H p (.lst (HU k.toNat xs).flatten))
def xM {α:Type}(xs:GD α)(k:GP):(HU k xs).flatten.length=k*xs.length:=by
 induction k with
 | zero=>simp
 | succ k ih=>rw[Je,JM,GJ,ih,LX,Nat.add_comm]
def Bk:OpR X (binaryOp .Mult) Fu:=by
 intro J s Y H x y v u Q I rx ry h;obtain⟨l,k,xs,rfl,rfl,hH,h1,h2,hz,q⟩:=h;cases rx;obtain⟨t,rfl⟩:=ry;obtain⟨z,its,n,r,hl,e⟩:=I.lstM hH;have hlen:its.toArray.size*k.toNat<=sizeLine:=by rw[G9,<- hl]; exact hz
 have hcap:¬ its.toArray.size*k.toNat > (2 ^ 63 - 1) / 8:=by
  have:(sizeLine:GP)<=(2 ^ 63 - 1) / 8:=by decide
  omega
 have hfit:¬ (!Op k)=true:=by
  rw[Oo h1 h2];exact Hb
 have hlong:¬ JP (its.toArray.size*k.toNat)=true:=by
  rw[nz hlen];exact Hb
 have hnew:On (λx1 x2=>x1++x2) #[] (HU (if its.toArray.isEmpty=true then 0 else k.toNat) its.toArray)=(HU k.toNat its).flatten.toArray:=by
  have f0:∀m:GP,On (λx1 x2=>x1++x2) #[] (HU m its.toArray)=(HU m its).flatten.toArray:=λm=>by
   have:=kU its m [];rw[Oa]at this;exact this
  rw[f0];cases its with
  | nil=>simp
  | cons a r'=>rw[HD (by simp)]
 show wpAny_binaryOp_repeat_ref (T:="list") (U:="int") #v[] #[_,e,rfl] (λs'=>Om s' k t) noFill_list_mul F.fills_int_mul F.slot_int_rmul repeat_list F.slot_int_index.lookup
  (KW F.slot_int_rmul (Om s k t) F.entry_int_rmul (F.args_int_rmul_2 _ _) (int___rmul___int_list k t l its.toArray n)
   #[e,rfl,#[_,e,rfl],KW F.slot_list_mul #[_,e,rfl] F.entry_list_mul (F.args_list_mul_2 _ _) (Ni l its.toArray n k t hfit hcap hlong) #[e,?_]])
 rw[hnew];exact#[.ref _,_,I.lnew (t':=s.toks) (r.rep k.toNat) (by rw[xM,Nat.mul_comm]; exact hz),rfl,q _ I.fresh]
end
section
variable{X:Cx}{J:GD (GU×IM)}{Y:St}{H:Hp}{s:GL}{a:GU}{y v:V}{u r:GK}{o:GN V}{A:HE}{E:GK->GL->Prop}
def Inv.big (I:Inv X J Y H s):sysModules < s.heap.objs.size:=by
 have h:mainGlobals < s.heap.objs.size:=(I.mod.glob.keeps I.bk).lt;exact Jt #v[] h
def l4 {h':HX}{t':GP}{ob:HO}(I:Inv X J Y H s)(mu:CL (H a))(hs:JJ a s.heap h')(he:∃q,h'.get? a=gV q)(new:ObjOk X.prog X.w (bM H a ob) h' a ob) :
  Inv X J Y (bM H a ob) { s with heap:=h',toks:=t' }:=
 I.write (x:=a) (e:=a) mu (.inl rfl) (λb q hb z=>(hs.2 b hb).trans z) he new
end
noncomputable abbrev VV:GD (V×V)->GD (GK×GK)->Prop:=LR λp q=>RelV p.1 q.1/\RelV p.2 q.2
structure M1 (X:Cx)(o:Hl)(m:Hc)(apos:Jq)(e:Hl)(cpos:Jq):Prop where
 base:attributeBase o m X.env (eval o X.env)=eval o X.env
 lE:((backTo cpos (starEach [e] X.env)).all (λx=>!x.1)&&(backToKw cpos (keywordEach [] X.env)).all (λx=>x.1.isSome)
  && decide (([e]:GD Hl).length+([]:GD ML).length+(if ([]:GD ML).isEmpty then 0 else 1) < 30))=true
 line:(apos.endLine==cpos.line)=true
 trees:backTo cpos (starEach [e] X.env)=[(false,eval e X.env)]
end L2
namespace Att
open PySem PySem.W PySem.Calls PyProof.Rows
def jf {P:M8}{h:HX}:∀(ns:GD G0) (vs:GD GK),WellAll P h vs (ns.map WData.int)->Og vs ns:=by
 intro ns
 induction ns with
 | nil=>
  intro vs w;rw[Nv]at w;cases w;exact .nil
 | cons n ns ih=>
  intro vs w;rw[Ir]at w;cases w with
  | cons a b=>
   cases a;exact .cons _ _ (ih _ b)
def rP {l:OpenLaw}{n:GP}(hn:l.most=gV n){P:M8}{h:HX}{args:GD WData}{vals:GD GK}
  (hpre:l.row.toRowW.claim.pre args=true) (hwl:WellAll P h vals args) :
  ∃a vs ns,vals=[HQ a]/\args=[WData.list (ns.map WData.int)]/\h.get? a=gV { cls:=.type "list",data:=.seq vs.toArray }/\Og vs ns/\ns.length<=n:=by
 have hsh:WShape.hasAll [] args [.list .int]=true:=(pre_splitW hpre).1;have hc:l.pre.holds [] { args:=args }=true:=(pre_splitW hpre).2;obtain⟨d,r,rfl,h1,h2⟩:=hasAllW_cons hsh;obtain rfl:=hasAllW_nil h2;obtain⟨xs,rfl,h3⟩:=hasW_list h1;obtain⟨ns,rfl⟩:=items_int h3;have hlen:ns.length<=n:=by
  unfold OpenLaw.pre at hc;have h4:(WTm.not (.lt (.lit (.int (n:G0))) (.len (.arg 0)))).holds [] { args:=[.list (ns.map .int)] }=true:=by
   have h4:=(holds_andW hc).1;rw[hn]at h4;exact h4
  have h5:=condW_of h4 (w_not (w_lt w_lit (w_len_list (w_arg rfl))));rw[GF]at h5;show Nat.le_of_not_lt λq=>?_
  have q':(n:G0) < ((ns.length:GP):G0):=∅
  first
   | (rw[Iu q']at h5; exact absurd h5 #v[])
   | (simp at h5; omega)
 cases hwl with
 | cons w1 w2=>
  cases w2;cases w1 with
  | list ho hall=>exact#[_,_,ns,rfl,rfl,ho,jf ns _ hall,hlen]
def rQ (l:OpenLaw)(args:GD WData):l.row.toRowW.claim.post args (.bool true) args=true:=
 postW_of (r:=l.row.toRowW) (X:=(true==true))
  (show WShape.has [] (.bool true) .bool=true by first|rfl|decide|simp[WShape.has,WShape.arms,WShape.armsAll])
  (show(WTm.eq .res (.lit (.bool true))).value [] { args:=args,res:=gV (.bool true),after:=args }=gV (.bool (true==true))from w_eq_bool (w_res rfl) w_lit) rfl
def attach_call {l:OpenLaw}{n:GP}{q:Hx}{loose:GD Hc}{XP:(Hc->GN GK)->HX->Prop}{YP:HL->HX->Prop}{d:DefRec}
  (hn:l.most=gV n) (hdf:d.params.defaults=[])
  (call:∀(w:HL) (s₀ s₁:GL) (mg mb:Hc->GN GK) (fa:GU) (o:IM) (pm cd doc:GK) (a:GU) (vs:GD GK) (ns:GD G0),
   Ground q loose [] XP w s₀ mg mb s₁.heap->YP w s₁.heap->
   s₁.heap.get? fa=gV o->o.data=.func (docDef d.name d.params d.body d.scope pm cd doc)->s₁.heap.CodeRec cd d.name->mg d.name=gV (.ref fa)->
   s₁.heap.get? a=gV { cls:=.type "list",data:=.seq vs.toArray }->Og vs ns->ns.length<=n->s₁.gens=#[]->
   codeAny (model l.prog w) callerA (.call (.ref fa) #[[.ref a],[]]) (λr s'=>r=.ok (.ret (.bool true))/\OldK s₁.heap s'.heap/\s'.os=s₁.os/\Lw s'.gens) s₁) :
  WalkO q loose XP YP l.row.toRowW d [] (λf vs=>Oq f vs):=by
 intro w s₀ s₁ mg mb G Yq fa o pm cd doc dV kV ho hd hcd hD hmg hg args vals as hpre hlay hrd hwl hlo;obtain rfl:dV=.none:=Dflts.none hD hdf;obtain rfl:kV=.none:=Dflts.noKw hD;obtain⟨a,vs,ns,rfl,rfl,hobj,hints,hlen⟩:=rP hn hpre hwl;show enter_call (LV (call w s₀ s₁ mg mb fa o pm cd doc a vs ns G Yq ho (fd_plain hd) hcd hmg hobj hints hlen hg) λr s' hq=>?_)
 obtain⟨rfl,h2,h3,h4⟩:=hq;exact#[.inl #[.bool true,.bool true,[],rfl,λ_=>rfl,.bool true,rQ l _,λ_=>#[Py,λ_ hm=>(nomatch hm)]],h2,h3,h4]
end Att
namespace L2
open PySem PySem.Spec PyProof.Rows
def kW:∀ {vs:GD GK} {ns:GD G0},Og vs ns->Vals (ns.map V.int) vs
 | _,_,.nil=>.nil
 | _,_,.cons n t h=>.cons #[t,rfl] (kW h)
abbrev t8 (H:Hp):Prop:=∀b,H b=td\/∃o xs,H b=gV (.frz o (.lst xs))
def t9 {P:Hx}{w:HL}{K:G4}{mg mb:Hc->GN GK}{CX:tN}{k:GP}{fa a:GU}{fd:Jz}{x:Hc}{sp:Sp}{s₁:GL}{vs:GD GK}{ns:GD G0}
  (KX:K.In s₁.heap) (hns:s₁.heap.Ns mainGlobals mg) (hb:s₁.heap.Ns builtinsNs mb) (hbb:∀x:Hc,x≠"__name__"->mb x=bootBuiltins x) (hlim:s₁.heap.NoLimit) (hg:s₁.gens=#[])
  (ha:s₁.heap.get? a=gV { cls:=.type "list",data:=.seq vs.toArray }) (hi:Og vs ns) (hl:ns.length<=sizeLine) (hr:Room k callerA)
  (F:∀base:HX,K.In base->base.Ns mainGlobals mg->FnOk P w K mg base CX k fa fd [x] sp) (hbind:∀(s:GL) (u:GK),Nn s fd #[[u],[]] [(x,u)])
  (hsp:∀H:Hp,t8 H->SqL K H a (ns.map V.int)->sp [.ref a] H (λv _=>v=.bl true) λ_ _ _=>Iq)
  (hCX:∀H e s',CX [] H s₁ (λ_ _ _=>Iq) e s'->Iq) :
  codeAny (model P w) callerA (.call (.ref fa) #[[.ref a],[]]) (λr s'=>r=.ok (.ret (.bool true))/\OldK s₁.heap s'.heap/\s'.os=s₁.os/\Lw s'.gens) s₁:=by
 have rv:=kW hi;have lenV:=hi.length;have core:∀H:Hp,t8 H->SqL K H a (ns.map V.int)->HOk P w H s₁.heap->(∀b,H b≠td->b=a)->(H a≠td->K.lookup a=td)->
   codeAny (model P w) callerA (.call (.ref fa) #[[.ref a],[]]) (λr s'=>r=.ok (.ret (.bool true))/\OldK s₁.heap s'.heap/\s'.os=s₁.os/\Lw s'.gens) s₁:=by
  intro H hO hS hok hA hK;have base_of:∀ {b:GU} {o:IM},s₁.heap.get? b=gV o->H b=td->(lS s₁.heap H).get? b=gV o:=λe n=>sX e n
  have noA:∀ {b:GU} {o:IM} {es:HR Jn} {ep:GP},s₁.heap.get? b=gV o->o.data=.dict es ep->H b=td:=λ{b o es ep} e d=>by
   cases q:H b with
   | none=>rfl
   | some u=>
    have e':b=a:=hA b (by rw[q]; simp)
    subst e';rw[ha]at e; cases e
    have d':Data.seq vs.toArray _=Data.dict es ep:=d;cases d'
  have nsK:∀ {b:GU} {m:Hc->GN GK},s₁.heap.Ns b m->(lS s₁.heap H).Ns b m:=λ{b m} #[o,es,ep,e,d,r]=>#[o,es,ep,base_of e (noA e d),d,r]
  have hKb:K.In (lS s₁.heap H):=λb o e=>base_of (KX b o e) (by
   cases q:H b with
   | none=>rfl
   | some u=>
    have e':b=a:=hA b (by rw[q]; simp)
    subst e';rw[hK (by rw[q]; simp)]at e; cases e)
  have hM:Mod K mg (lS s₁.heap H):=#[hKb,nsK hns,#[mb,nsK hb,hbb],let ⟨mc,h1,h2⟩:=hlim; #[mc,nsK h1,h2]]
  have e0:Env0 P w K mg (lS s₁.heap H) callerA [] s₁ H:=#[rfl,hM,λb o e=>xm e,Nat.le_of_eq (rD _ _),trivial,λb hb=>absurd (show b∈([]:GD GU)from hb) (by simp),hok,.of_eq hg]
  show LV ((F _ hKb (nsK hns)).run callerA [] s₁ H #[[.ref a],[]] [.ref a] [.ref a] _ _ hr e0 (hbind s₁ (.ref a)) #v[rfl] (hsp H hO hS)) λr s' h=>?_
  cases r with
  | error e=>exact(hCX H e s' h).elim
  | ok fl=>
   cases fl with
   | next=>exact Iq.elim h
   | brk=>exact Iq.elim h
   | cont=>exact Iq.elim h
   | ret u=>
    obtain⟨v,H',os,bare,un,hok',r',q⟩:=h;have q':v=.bl true:=q;subst q';obtain rfl:u=Jo true:=r';show#[rfl,OldK.of_keep λb o e=>?_,os,bare]
    cases q:H b with
    | none=>exact un.keep b o e q (by intro z; exact absurd (show b∈([]:GD GU)from z) (by simp)) (by simp)
    | some u=>
     rcases hO b with z|⟨ob,xs,z⟩
     ·rw[q]at z; cases z
     ·have z2:=un.frzs b ob _ z;obtain⟨e1,_⟩:=hok b _ z;obtain⟨e2,_⟩:=hok' b _ z2;rw[e]at e1; cases e1
      exact e2
 cases hk:K.lookup a with
 | some o=>
  have e:=KX a o hk;rw[ha]at e;cases e;show core (λ_=>td) (λ_=>.inl rfl) (.inr #[_,vs.toArray,_,hk,rfl,rfl,rfl,by rw[G9,lenV]; exact hl,by simpa using rv]) (λb u z=>by have z':(td:GN HO)=gV u:=z; cases z') (λb z=>absurd rfl z) λz=>absurd rfl z
 | none=>
  show core (λb=>if b=a then gV (.frz { cls:=.type "list",data:=.seq vs.toArray } (.lst (ns.map V.int)))else td) (λb=>?_) (.inl (.inr #[{ cls:=.type "list",data:=.seq vs.toArray },Ho rfl])) (λb u z=>?_) (λb z=>?_) λ_=>hk
  ·by_cases hb:b=a
   ·exact .inr #[_,_,Ho hb]
   ·exact .inl (HD hb)
  ·by_cases hb:b=a
   ·have z':=(Ho hb).symm.trans z;cases z';subst hb;exact#[ha,by rw[GF]; exact hl,vs,_,rv,ha]
   ·have z':=(HD hb).symm.trans z;cases z'
  ·by_cases hb:b=a
   ·exact hb
   ·exact absurd (HD hb) z
def xN {l:L9}{n k:GP}{q:Hx}{loose:GD Hc}{XP:(Hc->GN GK)->HX->Prop}{YP:HL->HX->Prop}{d:DefRec}{K:M8->G4}{CX:HL->tN}{sp:HL->Sp}{x:Hc}
  (hn:l.most=gV n) (hn2:n<=sizeLine) (hdf:d.params.defaults=[]) (hr:Room k callerA)
  (hY:∀(w:HL) (h:HX),YP w h->(K w.params).In h)
  (F:∀(w:HL) (mg:Hc->GN GK) (fa:GU) (h:HX),(K w.params).In h->h.Ns mainGlobals mg->mg d.name=gV (.ref fa)->
   ∃fd:Jz,(∀(s:GL) (u:GK),Nn s fd #[[u],[]] [(x,u)])/\
    ∀base:HX,(K w.params).In base->base.Ns mainGlobals mg->FnOk l.prog w (K w.params) mg base (CX w) k fa fd [x] (sp w))
  (hsp:∀(w:HL) (H:Hp) (a:GU) (ns:GD G0),ns.length<=n->t8 H->SqL (K w.params) H a (ns.map V.int)->sp w [.ref a] H (λv _=>v=.bl true) λ_ _ _=>Iq)
  (hCX:∀(w:HL) (H:Hp) (s:GL) (e:GK) (s':GL),CX w [] H s (λ_ _ _=>Iq) e s'->Iq) :
  OI q loose XP YP l.row.toRowW d [] (λf vs=>Oq f vs):=by
 show Att.attach_call hn hdf λw s₀ s₁ mg mb fa o pm cd doc a vs ns G Yq ho hd hcd hmg hobj hints hlen hg=>?_
 have KX:=hY w _ Yq;obtain⟨fd,hb,hF⟩:=F w mg fa _ KX G.T.g hmg;exact t9 KX G.T.g G.T.b G.T.builtins G.T.nolimit hg hobj hints (Hs hlen hn2) hr hF hb (λH hO hS=>hsp w H a ns hlen hO hS) λH e s'=>hCX w H s₁ e s'
abbrev dA (s:JR):Arguments:=match s with
 | .FunctionDef _ a _ _ _ _ _ _ _ _=>a
 | _=>{ posonlyargs:=[],args:=[],vararg:=td,kwonlyargs:=[],kw_defaults:=[],kwarg:=td,defaults:=[] }
abbrev cr (s:JR):GD JR:=match s with
 | .FunctionDef _ _ b _ _ _ _ _ _ _=>b
 | _=>[]
abbrev aR (s:JR):JZ:=match s with
 | .FunctionDef _ _ _ _ _ _ sc _ _ _=>sc
 | _=>{ kind:=.function,names:=[],isGenerator:=false,isCoroutine:=false }
noncomputable abbrev sW:tN:=λ_ _ _ _ _ _=>Iq
noncomputable abbrev E0:XK:=λ_ _ _=>Iq
def zW {X:Cx}:lU sW X E0:=λ_ _ _ _ _ _ _ h=>h.elim
structure Fun (K:G4)(x qual:Hc)(st:JR)(f:GU)(fd:Jz):Prop where
 ex:∃(oc:GK) (od:GN GU) (kV doc pm:GK) (an:GN GU) (cdv ct:GK) (osl:HR (GN GK)),
  fd=Jj x qual (dA st) (cr st) (aR st) .none kV doc pm an cdv ct/\K.lookup f=gV #[oc,od,.func fd,osl]/\JW K cdv qual=true
 kp:Iz K (.ref f)=true
section
variable{P:Hx}{w:HL}{K:G4}{mg:Hc->GN GK}{base:HX}
def Fun.ok {x qual:Hc}{st:JR}{f:GU}{fd:Jz}{N ps:GD Hc}{k:GP}{sp:Sp}(F:Fun K x qual st f fd)(S:FnScope N ps (aR st))(len:∀vs H Q E,sp vs H Q E->vs.length=ps.length)
  (hbody:∀(cdv:GK) (A:HE) (outer:GD MR) (s:GL) (H:Hp) (vs:GD V) (Q:VK) (E:XK),Room k (A.deeper (envOfC qual (aR st) s.heap.objs.size f cdv))->sp vs H Q E->
   ∃t,PSs (pc sW P w K mg base N qual (aR st) f cdv A outer s H E).nox (cr st) t/\t { nx:=λ_ H'=>Q .non H',rt:=Q } (fu N vs) H):FnOk P w K mg base sW (k+1) f fd ps sp:=by
 obtain⟨oc,od,kV,doc,pm,an,cdv,ct,osl,rfl,lk,hcd⟩:=F.ex;show Dc lk hcd S len λA outer s H vs Q E hr hsp=>?_
 obtain⟨t,h,q⟩:=hbody cdv A outer s H vs Q E hr hsp;exact#[t,h.nox,q]
def Fun.binds {x qual:Hc}{st:JR}{f:GU}{fd:Jz}{ps:GD Hc}(F:Fun K x qual st f fd)
  (h:∀(kV doc pm:GK) (an:GN GU) (cdv ct:GK) (us:GD GK),us.length=ps.length->bindArgs (Jj x qual (dA st) (cr st) (aR st) .none kV doc pm an cdv ct) #[us,[]]=pure (ps.zip us)):Binds K fd ps []:=by
 obtain⟨oc,od,kV,doc,pm,an,cdv,ct,osl,rfl,lk,hcd⟩:=F.ex;exact .all (h kV doc pm an cdv ct)
def ub {x qual:Hc}{st:JR}{f:GU}{oc:GK}{od an:GN GU}{osl:HR (GN GK)}{kV doc pm cdv ct:GK}(l:K.lookup f=gV #[oc,od,.func (Jj x qual (dA st) (cr st) (aR st) .none kV doc pm an cdv ct),osl])
  (c:JW K cdv qual=true) (k:Iz K (.ref f)=true):Fun K x qual st f (Jj x qual (dA st) (cr st) (aR st) .none kV doc pm an cdv ct):=#[#[oc,od,kV,doc,pm,an,cdv,ct,osl,rfl,l,c],k]
end
end L2
open PySem PySem.W PyProof.Rows L2
set_option maxHeartbeats 0
namespace Mi
section
abbrev kX (i:GP):JR:=PySem.Challenge.pw_layworld_k31_unlaid_looked_at.main.body.getD i (.Pass #[0,0,0,0])
abbrev pw:Hx:=Lm
abbrev ge (P:M8)(n:Hc)(t:GP)(v:GK):Jn:=#[PyData.keyHash P n,.str n t,v]
abbrev kd (a:GP)(es:GD Jn)(n:GP):GU×IM:=(a,#[.type "dict",td,.dict es.toArray n,#[]])
abbrev kc (a:GP)(vs:GD GK):GU×IM:=(a,#[.type "code",td,.fields vs.toArray,#[]])
abbrev kf (a:GP)(st:JR)(n:Hc)(pm cd:GK):GU×IM:=(a,#[.type "function",td,.func (Jj n n (dA st) (cr st) (aR st) .none .none .none pm td cd .none),#[]])
abbrev Fv (i:GP):GK:=if i<=3 then(.str "layworld.kinds" 187)else if i<=8 then(.str "layworld.worlds" 210)else if i<=12 then(.str "layworld.parts" 242)else if i<=14 then(.str "layworld.rules" 262)else if i<=22 then(.str "layworld.threes" 272)else if i<=27 then(.str "layworld.fillings" 338)else if i<=35 then(.str "layworld.always" 373)else(.str "law_layworld_k31_unlaid_looked_at" 434)
abbrev kx (a:GP)(b:Hj)(i:GP)(s:Hc)(t:GP)(l p:G0)(m:GP)(R:G4):G4:=kc a [.str s t,.str s (t+1),.str "/claim/cut.py" (t+2),.int l 0,.int p 0,.int 0 0,.int 0 0,.int 3 0,.ref (if b then a - 5 else a - 3),.bool true,.int 181 0,.ref (if b then a - 4 else a - 2),.none,if b then .ref (a - 3)else .none,if b then .ref (a - 2)else .none,.ref (a - 1),.int m 0,.int l 0,.str "/claim/cut.py" (m+1)]::kf (a+1) (kX i) s (Fv i) (.ref a)::R
abbrev K0 (P:M8):G4:=kd 3 [ge P "__name__" 165 (.str "law_layworld_k31_unlaid_looked_at" 434),ge P "__doc__" 166 .none,ge P "__package__" 167 .none,ge P "__loader__" 168 (.builtin "__main__.__loader__#opaque"),ge P "__spec__" 169 .none,ge P "__annotations__" 170 (.ref 6),ge P "__builtins__" 171 (.ref 4),ge P "__file__" 173 (.str "/claim/cut.py" 172),ge P "__cached__" 174 .none,ge P "is_whole" 195 (.ref 21),ge P "is_tuple_of" 203 (.ref 28),ge P "is_numbers" 209 (.ref 33),ge P "is_world" 217 (.ref 38),ge P "is_point" 223 (.ref 43),ge P "has_point_form" 231 (.ref 50),ge P "way" 241 (.ref 57),ge P "part" 249 (.ref 62),ge P "point_over" 255 (.ref 67),ge P "longer_orders" 261 (.ref 72),ge P "back" 271 (.ref 79),ge P "barred_threes" 284 (.ref 86),ge P "three_at" 296 (.ref 93),ge P "first_barred" 304 (.ref 100),ge P "first_three" 315 (.ref 107),ge P "first_bar" 325 (.ref 114),ge P "wishes_over" 331 (.ref 119),ge P "longer_wishes" 337 (.ref 124),ge P "barred_by" 349 (.ref 131),ge P "all_bars" 355 (.ref 136),ge P "with_both" 366 (.ref 143),ge P "same_bar" 372 (.ref 148),ge P "unlaid" 381 (.ref 155),ge P "first_unfilled" 393 (.ref 162),ge P "unfilled_behind" 407 (.ref 169),ge P "longer_by_a_point" 413 (.ref 174),ge P "longer_by_a_way" 419 (.ref 179),ge P "is_unlaid" 427 (.ref 186),ge P "is_base_with_two" 433 (.ref 191),ge P "_law_flow" 442 (.ref 198),ge P "_law_pick" 452 (.ref 205),ge P "_law_shuffled" 462 (.ref 212),ge P "_law_names" 468 (.ref 217),ge P "_law_between" 478 (.ref 224),ge P "_law_part" 484 (.ref 229),ge P "_law_turns" 490 (.ref 236),ge P "_law_figure" 496 (.ref 241),ge P "_law_bad" 506 (.ref 248),ge P "_law_may" 516 (.ref 255),ge P "_law_last_may" 530 (.ref 262),ge P "_law_backs" 539 (.ref 269),ge P "_law_rule_of" 545 (.ref 274),ge P "_law_free_three" 551 (.ref 279),ge P "_law_sizes" 559 (.ref 286),ge P "_law_any_rule" 571 (.ref 293),ge P "_law_rising" 577 (.ref 298),ge P "_law_unlaying_rule" 583 (.ref 303),ge P "_law_new_ways" 600 (.ref 310),ge P "_law_world" 614 (.ref 317),ge P "_law_alike" 620 (.ref 322),ge P "_law_new_point" 634 (.ref 329),ge P "_law_near" 649 (.ref 336),ge P "_law_pair" 662 (.ref 343),ge P "_law_both" 673 (.ref 350),ge P "_law_fills" 686 (.ref 357),ge P "_law_is_world" 692 (.ref 362),ge P "_law_unfilled" 707 (.ref 369),ge P "_law_thing" 713 (.ref 374),ge P "_law_other_point" 719 (.ref 379),ge P "_law_spoilt_thing" 734 (.ref 386),ge P "_law_some_rule" 741 (.ref 393),ge P "law" 755 (.ref 400)] 71::(kx 20 true 1 "is_whole" 189 2 1 193
 (kx 27 true 2 "is_tuple_of" 196 4 2 201
 (kx 32 false 3 "is_numbers" 204 6 2 207
 (kx 37 false 5 "is_world" 212 9 2 215
 (kx 42 false 6 "is_point" 218 11 3 221
 (kx 49 true 7 "has_point_form" 224 16 2 229
 (kx 56 true 8 "way" 232 18 4 239
 (kx 61 false 10 "part" 244 23 3 247
 (kx 66 false 11 "point_over" 250 25 4 253
 (kx 71 false 12 "longer_orders" 256 27 2 259
 (kx 78 true 14 "back" 264 33 2 269
 (kx 85 true 16 "barred_threes" 274 36 1 282
 (kx 92 true 17 "three_at" 285 45 4 294
 (kx 99 true 18 "first_barred" 297 49 2 302
 (kx 106 true 19 "first_three" 305 51 2 313
 (kx 113 true 20 "first_bar" 316 58 2 323
 (kx 118 false 21 "wishes_over" 326 64 3 329
 (kx 123 false 22 "longer_wishes" 332 72 2 335
 (kx 130 true 24 "barred_by" 340 78 4 347
 (kx 135 false 25 "all_bars" 350 80 5 353
 (kx 142 true 26 "with_both" 356 83 5 364
 (kx 147 false 27 "same_bar" 367 85 2 370
 (kx 154 true 29 "unlaid" 375 91 1 379
 (kx 161 true 30 "first_unfilled" 382 93 2 391
 (kx 168 true 31 "unfilled_behind" 394 101 4 405
 (kx 173 false 32 "longer_by_a_point" 408 112 3 411
 (kx 178 false 33 "longer_by_a_way" 414 120 4 417
 (kx 185 true 34 "is_unlaid" 420 123 2 425
 (kx 190 false 35 "is_base_with_two" 428 125 2 431
 (kx 197 true 37 "_law_flow" 436 132 1 440
 (kx 204 true 38 "_law_pick" 443 134 2 450
 (kx 211 true 39 "_law_shuffled" 453 149 2 460
 (kx 216 false 40 "_law_names" 463 155 2 466
 (kx 223 true 41 "_law_between" 469 157 4 476
 (kx 228 false 42 "_law_part" 479 161 3 482
 (kx 235 true 43 "_law_turns" 485 167 0 488
 (kx 240 false 44 "_law_figure" 491 169 2 494
 (kx 247 true 45 "_law_bad" 497 171 1 504
 (kx 254 true 46 "_law_may" 507 177 3 514
 (kx 261 true 47 "_law_last_may" 517 182 4 528
 (kx 268 true 48 "_law_backs" 531 189 2 537
 (kx 273 false 49 "_law_rule_of" 540 192 4 543
 (kx 278 false 50 "_law_free_three" 546 196 3 549
 (kx 285 true 51 "_law_sizes" 552 201 1 557
 (kx 292 true 52 "_law_any_rule" 560 204 1 569
 (kx 297 false 53 "_law_rising" 572 211 1 575
 (kx 302 false 54 "_law_unlaying_rule" 578 217 1 581
 (kx 309 true 55 "_law_new_ways" 584 232 6 598
 (kx 316 true 56 "_law_world" 601 245 4 612
 (kx 321 false 57 "_law_alike" 615 253 2 618
 (kx 328 true 58 "_law_new_point" 621 265 4 632
 (kx 335 true 59 "_law_near" 635 273 5 647
 (kx 342 true 60 "_law_pair" 650 284 4 660
 (kx 349 true 61 "_law_both" 663 296 5 671
 (kx 356 true 62 "_law_fills" 674 298 5 684
 (kx 361 false 63 "_law_is_world" 687 304 2 690
 (kx 368 true 64 "_law_unfilled" 693 313 4 705
 (kx 373 false 65 "_law_thing" 708 322 4 711
 (kx 378 false 66 "_law_other_point" 714 338 3 717
 (kx 385 true 67 "_law_spoilt_thing" 720 347 3 732
 (kx 392 true 68 "_law_some_rule" 735 365 1 739
 (kx 399 true 69 "law" 742 369 1 753 []))))))))))))))))))))))))))))))))))))))))))))))))))))))))))))))
abbrev Ga:GD GP:=[3,20,21,27,28,32,33,37,38,42,43,49,50,56,57,61,62,66,67,71,72,78,79,85,86,92,93,99,100,106,107,113,114,118,119,123,124,130,131,135,136,142,143,147,148,154,155,161,162,168,169,173,174,178,179,185,186,190,191,197,198,204,205,211,212,216,217,223,224,228,229,235,236,240,241,247,248,254,255,261,262,268,269,273,274,278,279,285,286,292,293,297,298,302,303,309,310,316,317,321,322,328,329,335,336,342,343,349,350,356,357,361,362,368,369,373,374,378,379,385,386,392,393,399,400]
abbrev vq:Hx:={ pw with main:={ pw.main with body:=[kX 69] } }
abbrev lo:GD Hc:=[("is_whole" : Hc),("is_tuple_of" : Hc),("is_numbers" : Hc),("is_world" : Hc),("is_point" : Hc),("has_point_form" : Hc),("way" : Hc),("part" : Hc),("point_over" : Hc),("longer_orders" : Hc),("back" : Hc),("barred_threes" : Hc),("three_at" : Hc),("first_barred" : Hc),("first_three" : Hc),("first_bar" : Hc),("wishes_over" : Hc),("longer_wishes" : Hc),("barred_by" : Hc),("all_bars" : Hc),("with_both" : Hc),("same_bar" : Hc),("unlaid" : Hc),("first_unfilled" : Hc),("unfilled_behind" : Hc),("longer_by_a_point" : Hc),("longer_by_a_way" : Hc),("is_unlaid" : Hc),("is_base_with_two" : Hc),("_law_flow" : Hc),("_law_pick" : Hc),("_law_shuffled" : Hc),("_law_names" : Hc),("_law_between" : Hc),("_law_part" : Hc),("_law_turns" : Hc),("_law_figure" : Hc),("_law_bad" : Hc),("_law_may" : Hc),("_law_last_may" : Hc),("_law_backs" : Hc),("_law_rule_of" : Hc),("_law_free_three" : Hc),("_law_sizes" : Hc),("_law_any_rule" : Hc),("_law_rising" : Hc),("_law_unlaying_rule" : Hc),("_law_new_ways" : Hc),("_law_world" : Hc),("_law_alike" : Hc),("_law_new_point" : Hc),("_law_near" : Hc),("_law_pair" : Hc),("_law_both" : Hc),("_law_fills" : Hc),("_law_is_world" : Hc),("_law_unfilled" : Hc),("_law_thing" : Hc),("_law_other_point" : Hc),("_law_spoilt_thing" : Hc),("_law_some_rule" : Hc)]
def eK:∀P,Ga=(K0 P).map (·.1):=λ_=>by kernel_rfl
abbrev hk:PySem.W.Hook:=PySem.W.kHook K0 Ga eK
def hl:PySem.W.LeftO pw vq lo (λs=>OX vq [] s&&OJ [] s) hk.obs hk.val 4008:=λw=>by kernel_rfl
def s0:PySem.Challenge.rw_layworld_k31_unlaid_looked_at.row.wellSaid=true:=by kernel_rfl
end
end Mi
namespace Mi
open PySem PySem.Spec PyProof.Rows L2
inductive W where
 | non|bl (b:Hj)|int (i:G0)|str (x:Hc)|tup (xs:GD W)|ref (i:GP)
inductive T where
 | int (i:G0)|str (x:Hc)|tup (xs:GD T)
mutual
def T.beq:T->T->Hj
 | .int i,.int j=>i==j
 | .str x,.str y=>x==y
 | .tup xs,.tup ys=>T.beqs xs ys
 | _,_=>false
def T.beqs:GD T->GD T->Hj
 | [],[]=>true
 | x::xs,y::ys=>T.beq x y&&T.beqs xs ys
 | _,_=>false
end
mutual
theorem T.beq_iff:∀x y:T,T.beq x y=true↔x=y
 | .int i,.int j=>by simp[T.beq]
 | .str x,.str y=>by simp[T.beq]
 | .tup xs,.tup ys=>by simp[T.beq,T.beqs_iff xs ys]
 | .int _,.str _|.int _,.tup _|.str _,.int _|.str _,.tup _|.tup _,.int _|.tup _,.str _=>by simp[T.beq]
theorem T.beqs_iff:∀xs ys:GD T,T.beqs xs ys=true↔xs=ys
 | [],[]=>by simp[T.beqs]
 | x::xs,y::ys=>by simp[T.beqs,T.beq_iff x y,T.beqs_iff xs ys]
 | [],_::_|_::_,[]=>by simp[T.beqs]
end
noncomputable instance:Kf T:=λx y=>decidable_of_iff (T.beq x y=true) (T.beq_iff x y)
mutual
def T.w:T->W
 | .int i=>.int i
 | .str x=>.str x
 | .tup xs=>.tup (T.ws xs)
def T.ws:GD T->GD W
 | []=>[]
 | x::xs=>T.w x::T.ws xs
end
mutual
def W.t:W->GN T
 | .int i=>gV (.int i)
 | .str x=>gV (.str x)
 | .tup xs=>(W.ts xs).map .tup
 | _=>td
def W.ts:GD W->GN (GD T)
 | []=>gV []
 | x::xs=>match W.t x,W.ts xs with
  | some y,gV ys=>gV (y::ys)
  | _,_=>td
end
mutual
theorem W.t_w:∀ {w:W} {k:T},W.t w=gV k->k.w=w
 | .int i,_,h=>by cases h; rfl
 | .str x,_,h=>by cases h; rfl
 | .tup xs,_,h=>by
  simp only[W.t,GM]at h;obtain⟨ks,h1,h2⟩:=h;subst h2;simp only[T.w,W.ts_w h1]
 | .non,_,h|.bl _,_,h|.ref _,_,h=>by cases h
theorem W.ts_w:∀ {ws:GD W} {ks:GD T},W.ts ws=gV ks->T.ws ks=ws
 | [],_,h=>by cases h; rfl
 | w::ws,_,h=>by
  simp only[W.ts]at h;split at h
  ·rename_i y ys h1 h2;cases h;simp only[T.ws,W.t_w h1,W.ts_w h2]
  ·cases h
end
mutual
theorem T.w_t:∀k:T,W.t k.w=gV k
 | .int _=>rfl
 | .str _=>rfl
 | .tup xs=>by simp only[T.w,W.t,T.ws_ts xs,HA]
theorem T.ws_ts:∀ks:GD T,W.ts (T.ws ks)=gV ks
 | []=>rfl
 | x::xs=>by simp only[T.ws,W.ts,T.w_t x,T.ws_ts xs]
end
mutual
def T.depth:T->GP
 | .tup xs=>T.depths xs+1
 | _=>0
def T.depths:GD T->GP
 | []=>0
 | x::xs=>max (T.depth x) (T.depths xs)
end
mutual
def T.draws:T->GP
 | .tup xs=>T.drawss xs+1
 | _=>1
def T.drawss:GD T->GP
 | []=>0
 | x::xs=>T.draws x+T.drawss xs
end
mutual
def nA (wd:HL):T->G0
 | .int i=>hashInt i
 | .str x=>hashStr wd x
 | .tup xs=>reduceHash (Ln (jA wd xs))
def jA (wd:HL):GD T->GD G0
 | []=>[]
 | x::xs=>nA wd x::jA wd xs
end
abbrev T.isTup:T->Hj
 | .tup _=>true
 | _=>false
abbrev bg:GP:=6
inductive O where
 | lst (xs:GD W)
 | fro (xs:GD W)
 | rng (lo hi:G0)
 | dic (U:GD (T×W))
 | frd (U:GD (T×W))
noncomputable abbrev aa:=GD O
noncomputable abbrev Fm:=GD (GN W)
section
variable (K:G4) (A:GD GU) (H:Hp)
mutual
inductive Rel:W->V->Prop
 | non:Rel .non .non
 | bl {b:Hj}:Rel (.bl b) (.bl b)
 | int {i:G0}:Rel (.int i) (.int i)
 | str {x:Hc}:Rel (.str x) (.str x)
 | tup {ws:GD W} {a:GU} {vs:GD V}:SqT K H a vs->RelL ws vs->Rel (.tup ws) (.ref a)
 | ref {i:GP} {a:GU}:A[i]?=gV a->Rel (.ref i) (.ref a)
inductive RelL:GD W->GD V->Prop
 | nil:RelL [] []
 | cons {w:W} {v:V} {ws:GD W} {vs:GD V}:Rel w v->RelL ws vs->RelL (w::ws) (v::vs)
end
end
section
variable{K:G4}{A A' A'':GD GU}{H H' H'':Hp}
structure Ext (K:G4)(A:GD GU)(H:Hp)(A':GD GU)(H':Hp):Prop where
 ad:∀(i:GP) (a:GU),A[i]?=gV a->A'[i]?=gV a
 tp:∀(a:GU) (vs:GD V),SqT K H a vs->SqT K H' a vs
 fz:∀(a:GU) (o:IM) (u:HO),H a=gV (.frz o u)->H' a=gV (.frz o u)
def Ext.refl:Ext K A H A H:=#[λ_ _ h=>h,λ_ _ h=>h,λ_ _ _ h=>h]
def Ext.trans (e:Ext K A H A' H')(f:Ext K A' H' A'' H''):Ext K A H A'' H'':=#[λi a h=>f.ad i a (e.ad i a h),λa vs h=>f.tp a vs (e.tp a vs h),λa o u h=>f.fz a o u (e.fz a o u h)]
mutual
theorem Rel.mono (e:Ext K A H A' H'):∀ {w:W} {v:V},Rel K A H w v->Rel K A' H' w v
 | _,_,.non=>.non
 | _,_,.bl=>.bl
 | _,_,.int=>.int
 | _,_,.str=>.str
 | _,_,.tup h r=>.tup (e.tp _ _ h) (RelL.mono e r)
 | _,_,.ref h=>.ref (e.ad _ _ h)
theorem RelL.mono (e:Ext K A H A' H'):∀ {ws:GD W} {vs:GD V},RelL K A H ws vs->RelL K A' H' ws vs
 | _,_,.nil=>.nil
 | _,_,.cons r t=>.cons (Rel.mono e r) (RelL.mono e t)
end
def RelL.length:∀ {ws:GD W} {vs:GD V},RelL K A H ws vs->ws.length=vs.length
 | _,_,.nil=>rfl
 | _,_,.cons _ t=>by simp[RelL.length t]
def RelL.get:∀ {ws:GD W} {vs:GD V} {i:GP} {w:W},RelL K A H ws vs->ws[i]?=gV w->∃v,vs[i]?=gV v/\Rel K A H w v
 | _,_,_,_,.nil,e=>by simp at e
 | _,_,0,_,.cons r _,e=>by simp at e; subst e; exact#[_,rfl,r]
 | _,_,i+1,w,.cons _ t,e=>by
  obtain⟨u,h1,h2⟩:=RelL.get (i:=i) (w:=w) t (by simpa using e)
  exact#[u,by simpa using h1,h2]
def RelL.append:∀ {xs ys:GD W} {us ws:GD V},RelL K A H xs us->RelL K A H ys ws->RelL K A H (xs++ys) (us++ws)
 | _,_,_,_,.nil,s=>s
 | _,_,_,_,.cons r t,s=>.cons r (RelL.append t s)
def RelL.take:∀ {xs:GD W} {us:GD V} (n:GP),RelL K A H xs us->RelL K A H (xs.take n) (us.take n)
 | _,_,0,_=>.nil
 | _,_,_+1,.nil=>.nil
 | _,_,n+1,.cons r t=>.cons r (RelL.take n t)
def RelL.drop:∀ {xs:GD W} {us:GD V} (n:GP),RelL K A H xs us->RelL K A H (xs.drop n) (us.drop n)
 | _,_,0,r=>r
 | _,_,_+1,.nil=>.nil
 | _,_,n+1,.cons _ t=>RelL.drop n t
def RelL.set {x:W}{u:V}(r:Rel K A H x u):∀ {xs:GD W} {us:GD V} (i:GP),RelL K A H xs us->RelL K A H (xs.set i x) (us.set i u)
 | _,_,_,.nil=>.nil
 | _,_,0,.cons _ t=>.cons r t
 | _,_,i+1,.cons q t=>.cons q (RelL.set r i t)
def RelL.rep {xs:GD W}{us:GD V}(h:RelL K A H xs us):∀k:GP,RelL K A H (HU k xs).flatten (HU k us).flatten
 | 0=>.nil
 | k+1=>by
  rw[Je,Je,JM,JM];exact RelL.append h (RelL.rep h k)
def RelL.eraseIdx:∀ {xs:GD W} {us:GD V} (i:GP),RelL K A H xs us->RelL K A H (xs.eraseIdx i) (us.eraseIdx i)
 | _,_,_,.nil=>.nil
 | _,_,0,.cons _ t=>t
 | _,_,i+1,.cons r t=>.cons r (RelL.eraseIdx i t)
abbrev FroL (K:G4)(H:Hp)(a:GU)(vs:GD V):Prop:=
 (∃o,H a=gV (.frz o (.lst vs)))\/
  ∃(o:IM) (its:HR GK) (n:GP),K.lookup a=gV o/\o.cls=.type "list"/\o.dict=td/\o.data=.seq its n/\its.size<=sizeLine/\Vals vs its.toList
def FroL.sq {a:GU}{vs:GD V}(h:FroL K H a vs):SqL K H a vs:=by
 rcases h with⟨o,h⟩|h
 ·exact .inl (.inr #[o,h])
 ·exact .inr h
abbrev ud (wd:HL)(x:T×GU×GK):Jn:=#[nA wd x.1,.ref x.2.1,x.2.2]
abbrev DicAt (wd:HL)(a:GU)(xs:GD (T×GU×GK))(h:HX):Prop:=
 xs.length<=sizeLine/\(a==sysModules)=false/\(xs.map (·.1)).Nodup/\∃o es ep,h.get? a=gV o/\o.ExactDict/\o.data=.dict es ep/\es.toList=xs.map (ud wd)
abbrev dP (wd:HL)(a:GU)(xs:GD (T×GU×GK)):HO:=.ext (DicAt wd a xs)
abbrev KRel (K:G4)(A:GD GU)(H:Hp):GD (T×W)->GD (T×GU×GK)->Prop:=
 LR λ(p:T×W) (q:T×GU×GK)=>p.1=q.1/\p.1.isTup=true/\p.1.depth<=bg/\Rel K A H p.1.w (.ref q.2.1)/\∃v,Rel K A H p.2 v/\RelV v q.2.2
def KRel.mono (e:Ext K A H A' H'){U:GD (T×W)}{xs:GD (T×GU×GK)}(h:KRel K A H U xs):KRel K A' H' U xs:=
 Paired.mapP h λ_ _ #[h1,h2,h3,h4,v,h5,h6]=>#[h1,h2,h3,h4.mono e,v,h5.mono e,h6]
variable{wd:HL}
abbrev ObjRel (wd:HL)(K:G4)(A:GD GU)(H:Hp)(a:GU):O->Prop
 | .lst ws=>∃vs,H a=gV (.lst vs)/\RelL K A H ws vs
 | .fro ws=>∃vs,FroL K H a vs/\RelL K A H ws vs
 | .rng lo hi=>H a=gV (.rng lo hi)
 | .dic U=>∃xs,H a=gV (dP wd a xs)/\KRel K A H U xs
 | .frd U=>∃o xs,H a=gV (.frz o (dP wd a xs))/\KRel K A H U xs
abbrev O.mut:O->Hj
 | .fro _=>false
 | .rng _ _=>false
 | .frd _=>false
 | _=>true
structure StoreOk (wd:HL)(K:G4)(A:GD GU)(H:Hp)(S:aa):Prop where
 len:A.length=S.length
 nd:∀(i j:GP) (a:GU) (o u:O),S[i]?=gV o->o.mut=true->S[j]?=gV u->u.mut=true->A[i]?=gV a->A[j]?=gV a->i=j
 obj:∀(i:GP) (o:O) (a:GU),S[i]?=gV o->A[i]?=gV a->ObjRel wd K A H a o
abbrev EnvRel (K:G4)(A:GD GU)(H:Hp)(Z:Fm)(Y:L2.St):Prop:=
 Z.length=Y.length/\∀(i:GP) (w:W),Z[i]?=gV (gV w)->∃v,Y[i]?=gV (gV v)/\Rel K A H w v
def EnvRel.mono {Z:Fm}{Y:L2.St}(e:Ext K A H A' H')(h:EnvRel K A H Z Y):EnvRel K A' H' Z Y:=
 #[h.1,λi w q=>let ⟨v,a,b⟩:=h.2 i w q; #[v,a,b.mono e]]
def EnvRel.set {Z:Fm}{Y:L2.St}{w:W}{v:V}(h:EnvRel K A H Z Y)(r:Rel K A H w v)(i:GP):EnvRel K A H (Z.set i (gV w)) (Y.set i (gV v)):=by
 show#[by simp[h.1],λj w' q=>?_]
 rw[Jb]at q ⊢
 by_cases e:i=j
 ·subst e;rw[Ho rfl]at q ⊢
  by_cases hl:i < Z.length
  ·rw[Ho hl]at q;rw[Ho (h.1 ▸ hl)];cases q;exact#[v,rfl,r]
  ·rw[HD hl]at q; cases q
 ·rw[HD e]at q ⊢;exact h.2 j w' q
abbrev Wr (H:Hp)(p:GU):Prop:=H p=td\/(∃xs,H p=gV (.lst xs))\/(∃φ,H p=gV (.ext φ))\/∃ks,H p=gV (.dK ks)
def Wr.lst {p:GU}{xs:GD V}(h:H p=gV (.lst xs)):Wr H p:=.inr (.inl #[xs,h])
def Wr.ext {p:GU}{φ:HX->Prop}(h:H p=gV (.ext φ)):Wr H p:=.inr (.inr (.inl #[φ,h]))
def Wr.ne_tup {p a:GU}{xs:GD V}(hp:Wr H p)(h:H a=gV (.tup xs)):a≠p:=by
 intro e; subst e
 rcases hp with q|⟨xs,q⟩|⟨φ,q⟩|⟨ks,q⟩ <;> (rw[h]at q; cases q)
def Wr.ne_frz {p a:GU}{o:IM}{u:HO}(hp:Wr H p)(h:H a=gV (.frz o u)):a≠p:=by
 intro e; subst e
 rcases hp with q|⟨xs,q⟩|⟨φ,q⟩|⟨ks,q⟩ <;> (rw[h]at q; cases q)
def Wr.ne_rng {p a:GU}{lo hi:G0}(hp:Wr H p)(h:H a=gV (.rng lo hi)):a≠p:=by
 intro e; subst e
 rcases hp with q|⟨xs,q⟩|⟨φ,q⟩|⟨ks,q⟩ <;> (rw[h]at q; cases q)
def qt {p:GU}{o:HO}(hp:Wr H p){a:GU}{vs:GD V}(h:SqT K H a vs):SqT K (bM H p o) a vs:=by
 rcases h with(h|⟨o',h⟩)|h
 ·exact .inl (.inl (by rw[aG (hp.ne_tup h)]; exact h))
 ·exact .inl (.inr #[o',by rw[aG (hp.ne_frz h)]; exact h])
 ·exact .inr h
def ue {p:GU}{o:HO}(hp:Wr H p){a:GU}{vs:GD V}(h:FroL K H a vs):FroL K (bM H p o) a vs:=by
 rcases h with⟨o',h⟩|h
 ·exact .inl #[o',by rw[aG (hp.ne_frz h)]; exact h]
 ·exact .inr h
def dg {p:GU}{o:HO}(hp:Wr H p):Ext K A H A (bM H p o):=#[λ_ _ h=>h,λ_ _ h=>qt hp h,λ_ _ _ h=>by rw[aG (hp.ne_frz h)]; exact h]
def dQ {p:GU}{o:HO}(hp:H p=td):Ext K A H (A++[p]) (bM H p o):=
 #[λi a h=>by rw[HC (G5.mp h).1]; exact h,λ_ _ h=>qt (.inl hp) h,λ_ _ _ h=>by rw[aG (Wr.ne_frz (.inl hp) h)]; exact h]
def ObjRel.keep {p a:GU}{o:HO}{b:O}(hp:Wr H p)(hne:b.mut=true->a≠p)(e:Ext K A H A' (bM H p o))(h:ObjRel wd K A H a b):ObjRel wd K A' (bM H p o) a b:=by
 cases b with
 | lst ws=>
  obtain⟨vs,q,r⟩:=h;exact#[vs,by rw[aG (hne rfl)]; exact q,r.mono e]
 | fro ws=>
  obtain⟨vs,q,r⟩:=h;exact#[vs,ue hp q,r.mono e]
 | rng lo hi=>
  have h:H a=gV (.rng lo hi):=h;change bM H p o a=gV (.rng lo hi);rw[aG (hp.ne_rng h)];exact h
 | dic U=>
  obtain⟨xs,q,r⟩:=h;exact#[xs,by rw[aG (hne rfl)]; exact q,r.mono e]
 | frd U=>
  obtain⟨ob,xs,q,r⟩:=h;exact#[ob,xs,by rw[aG (hp.ne_frz q)]; exact q,r.mono e]
def ObjRel.there {a:GU}{b:O}(h:ObjRel wd K A H a b)(hm:b.mut=true):H a≠td:=by
 cases b with
 | lst ws=>obtain⟨vs,q,r⟩:=h; rw[q]; intro z; cases z
 | fro ws=>cases hm
 | rng lo hi=>cases hm
 | dic U=>obtain⟨vs,q,r⟩:=h; rw[q]; intro z; cases z
 | frd ws=>cases hm
def ObjRel.wr {a:GU}{b:O}(h:ObjRel wd K A H a b)(hm:b.mut=true):Wr H a:=by
 cases b with
 | lst ws=>obtain⟨vs,q,r⟩:=h; exact .lst q
 | fro ws=>cases hm
 | rng lo hi=>cases hm
 | dic U=>obtain⟨vs,q,r⟩:=h; exact .ext q
 | frd ws=>cases hm
def StoreOk.lay {S:aa}{p:GU}{o:HO}(h:StoreOk wd K A H S)(hp:H p=td):StoreOk wd K A (bM H p o) S:=
 #[h.len,h.nd,λi b a e ea=>(h.obj i b a e ea).keep (.inl hp) (λhm z=>(h.obj i b a e ea).there hm (z ▸ hp)) (dg (.inl hp))]
def StoreOk.pushO {S:aa}{p:GU}{n:O}{u:HO}(h:StoreOk wd K A H S)(hp:H p=td)(r:ObjRel wd K (A++[p]) (bM H p u) p n):StoreOk wd K (A++[p]) (bM H p u) (S++[n]):=by
 have ex:Ext K A H (A++[p]) (bM H p u):=dQ hp;have old:∀ {i:GP} {o:O} {a:GU},(S++[n])[i]?=gV o->(A++[p])[i]?=gV a->i < S.length->S[i]?=gV o/\A[i]?=gV a:=λ{i o a} e ea hl=>by
  rw[HC hl]at e;rw[HC (h.len ▸ hl)]at ea;exact#[e,ea]
 have new:∀ {i:GP} {o:O} {a:GU},(S++[n])[i]?=gV o->(A++[p])[i]?=gV a->¬ i < S.length->i=S.length/\o=n/\a=p:=λ{i o a} e ea hl=>by
  have hi:i=S.length:=by
   have:=(G5.mp e).1;simp at this;omega
  subst hi;simp at e;rw[<- h.len]at ea;simp at ea;exact#[rfl,e.symm,ea.symm]
 show#[by simp[h.len],λi j a o u e1 m1 e2 m2 a1 a2=>?_,λi o a e ea=>?_]
 ·by_cases hi:i < S.length <;> by_cases hj:j < S.length
  ·obtain⟨x1,y1⟩:=old e1 a1 hi;obtain⟨x2,y2⟩:=old e2 a2 hj;exact h.nd i j a o u x1 m1 x2 m2 y1 y2
  ·obtain⟨x1,y1⟩:=old e1 a1 hi;obtain⟨_,_,z⟩:=new e2 a2 hj;subst z;exact absurd hp ((h.obj i o a x1 y1).there m1)
  ·obtain⟨x2,y2⟩:=old e2 a2 hj;obtain⟨_,_,z⟩:=new e1 a1 hi;subst z;exact absurd hp ((h.obj j u a x2 y2).there m2)
  ·rw[(new e1 a1 hi).1,(new e2 a2 hj).1]
 ·by_cases hi:i < S.length
  ·obtain⟨x1,y1⟩:=old e ea hi;exact(h.obj i o a x1 y1).keep (.inl hp) (λhm z=>(h.obj i o a x1 y1).there hm (z ▸ hp)) ex
  ·obtain⟨_,rfl,rfl⟩:=new e ea hi;exact r
def StoreOk.push {S:aa}{p:GU}{ws:GD W}{vs:GD V}(h:StoreOk wd K A H S)(hp:H p=td)(r:RelL K A H ws vs):StoreOk wd K (A++[p]) (bM H p (.lst vs)) (S++[.lst ws]):=
 h.pushO hp #[vs,aY,r.mono (dQ hp)]
def StoreOk.writeO {S:aa}{i:GP}{p:GU}{o0 n:O}{u:HO}(h:StoreOk wd K A H S)(e:S[i]?=gV o0)(m0:o0.mut=true)(ea:A[i]?=gV p)(r:ObjRel wd K A (bM H p u) p n) :
  StoreOk wd K A (bM H p u) (S.set i n)/\Ext K A H A (bM H p u):=by
 have hw:Wr H p:=(h.obj i _ p e ea).wr m0;have ex:Ext K A H A (bM H p u):=dg hw;have hl:i < S.length:=(G5.mp e).1;show#[#[by simp[h.len],λj k a o u e1 m1 e2 m2 a1 a2=>?_,λj o a e1 a1=>?_],ex]
 ·have get:∀ {j:GP} {o:O},(S.set i n)[j]?=gV o->o.mut=true->∃o',S[j]?=gV o'/\o'.mut=true:=λ{j o} q m=>by
   rw[Jb]at q
   by_cases z:i=j
   ·subst z; exact#[_,e,m0]
   ·rw[HD z]at q; exact#[o,q,m]
  obtain⟨o',x1,m1'⟩:=get e1 m1;obtain⟨u',x2,m2'⟩:=get e2 m2;exact h.nd j k a o' u' x1 m1' x2 m2' a1 a2
 ·rw[Jb]at e1
  by_cases z:i=j
  ·subst z;rw[Ho rfl,Ho hl]at e1;cases e1;rw[ea]at a1; cases a1
   exact r
  ·rw[HD z]at e1;exact(h.obj j o a e1 a1).keep hw (λhm q=>z (h.nd i j p _ o e m0 e1 hm ea (q ▸ a1))) ex
def StoreOk.write {S:aa}{i:GP}{p:GU}{ws:GD W}{us:GD V}{ws0:GD W}(h:StoreOk wd K A H S)(e:S[i]?=gV (.lst ws0))(ea:A[i]?=gV p)(r:RelL K A H ws us) :
  StoreOk wd K A (bM H p (.lst us)) (S.set i (.lst ws))/\Ext K A H A (bM H p (.lst us)):=
 h.writeO e rfl ea #[us,aY,r.mono (dg ((h.obj i _ p e ea).wr rfl))]
end
abbrev gz (S:aa)(i:GP):GN (GD W):=match S[i]? with
 | some (.lst xs)=>gV xs
 | some (.fro xs)=>gV xs
 | _=>td
abbrev nj (S:aa)(i:GP):GN (GD W):=match S[i]? with
 | some (.lst xs)=>gV xs
 | _=>td
abbrev kG (S:aa)(xs:GD W):GN (W×aa):=if xs.length<=sizeLine then gV (.ref S.length,S++[.lst xs])else td
abbrev ph (S:aa)(xs:GD W):GN (W×aa):=if xs.length<=sizeLine then gV (.tup xs,S)else td
abbrev xO (j:G0):Hj:=decide (0 < j)&&decide (j < 1073741824)
abbrev rR (i j:G0):Hj:=(decide (-(2 ^ 64) < i)&&decide (i < 2 ^ 64))||(decide (-(2 ^ 64) < j)&&decide (j < 2 ^ 64))
abbrev Dj (i j:G0):Hj:=decide (0<=j)&&decide (j<=1000000)&&decide (i.natAbs < 2 ^ 64)
inductive BOp where|add|sub|mul|fdiv|mod|pow
 deriving Kf
abbrev xj (c:G0->G0->Hj)(f:G0->G0->G0)(x y:W)(S:aa):GN (W×aa):=match x,y with
 | .int i,.int j=>if c i j then gV (.int (f i j),S)else td
 | _,_=>td
abbrev ug (x y:W)(S:aa):GN (W×aa):=match x with
 | .int i=>match y with
  | .int j=>gV (.int (i+j),S)
  | _=>td
 | .str x=>match y with
  | .str y=>if x.length+y.length<=sizeLine then gV (.str (x++y),S)else td
  | _=>td
 | .tup xs=>match y with
  | .tup ys=>ph S (xs++ys)
  | _=>td
 | .ref i=>match y with
  | .ref j=>match nj S i,nj S j with
   | some xs,gV ys=>kG S (xs++ys)
   | _,_=>td
  | _=>td
 | _=>td
abbrev xP (x y:W)(S:aa):GN (W×aa):=match x with
 | .str x=>match y with
  | .int k=>if k < 2 ^ 24/\-(2 ^ 24)<=k/\x.length*k.toNat<=sizeLine then gV (.str (PY x k),S)else td
  | _=>td
 | .ref i=>match y with
  | .int k=>match nj S i with
   | some xs=>if k < 2 ^ 24/\-(2 ^ 24)<=k/\xs.length*k.toNat<=sizeLine then kG S (HU k.toNat xs).flatten else td
   | none=>td
  | _=>td
 | x=>xj rR (· * ·) x y S
abbrev ij:BOp->W->W->aa->GN (W×aa)
 | .add,x,y,S=>ug x y S
 | .sub,x,y,S=>xj (λ_ _=>true) (· - ·) x y S
 | .mul,x,y,S=>xP x y S
 | .fdiv,x,y,S=>xj (λ_ j=>xO j) (· / ·) x y S
 | .mod,x,y,S=>xj (λ_ j=>decide (0 < j)) (· % ·) x y S
 | .pow,x,y,S=>xj Dj (λi j=>i ^ j.toNat) x y S
abbrev BOp.py:BOp->Nm
 | .add=>.Add|.sub=>.Sub|.mul=>.Mult|.fdiv=>.FloorDiv|.mod=>.Mod|.pow=>.Pow
section
variable (X:Cx)
inductive PostE (J:GD (GU×IM))(Y:L2.St)(A:GD GU)(H:Hp)(S':aa)(w:W)(u:GK)(s':GL):Prop
 | mk (v:V) (H':Hp) (A':GD GU) (i:Inv X J Y H' s') (r:RelV v u) (e:Ext X.K A H A' H') (so:StoreOk X.w X.K A' H' S') (rl:Rel X.K A' H' w v):PostE J Y A H S' w u s'
noncomputable abbrev FE:=Fm->aa->GN (W×aa)
abbrev LOp (f:GK->GK->O4 GK)(g:W->W->aa->GN (W×aa)):Prop:=
 ∀(J:GD (GU×IM)) (s:GL) (Y:L2.St) (H:Hp) (A:GD GU) (S:aa) (x y:W) (a b:V) (u v:GK) (w:W) (S':aa),Inv X J Y H s->StoreOk X.w X.K A H S->
  Rel X.K A H x a->RelV a u->Rel X.K A H y b->RelV b v->g x y S=gV (w,S')->wpAny (model X.prog X.w) X.A (f u v) (PostE X J Y A H S' w) X.xe s
end
section
variable{X:Cx}
def jB {S:aa}{i:GP}{xs:GD W}(h:nj S i=gV xs):S[i]?=gV (.lst xs):=by
 unfold nj at h;split at h
 ·cases h; assumption
 ·cases h
def ec {A:GD GU}{H:Hp}{S:aa}{i:GP}{xs:GD W}{a:GU}(so:StoreOk X.w X.K A H S)(h:nj S i=gV xs)(ea:A[i]?=gV a):∃vs,H a=gV (.lst vs)/\RelL X.K A H xs vs:=
 so.obj i _ a (jB h) ea
def cy {A:GD GU}{H:Hp}{S:aa}{i:GP}{xs:GD W}{a:GU}(so:StoreOk X.w X.K A H S)(h:gz S i=gV xs)(ea:A[i]?=gV a):∃vs,SqL X.K H a vs/\RelL X.K A H xs vs:=by
 unfold gz at h;split at h
 ·cases h;obtain⟨vs,q,r⟩:=so.obj i _ a (by assumption) ea
  exact#[vs,.of q,r]
 ·cases h;obtain⟨vs,q,r⟩:=so.obj i _ a (by assumption) ea
  exact#[vs,q.sq,r]
 ·cases h
def jn {S S':aa}{xs:GD W}{w:W}(h:kG S xs=gV (w,S')):xs.length<=sizeLine/\w=.ref S.length/\S'=S++[.lst xs]:=by
 unfold kG at h;split at h
 ·cases h; exact#[by assumption,rfl,rfl]
 ·cases h
def qu {S S':aa}{xs:GD W}{w:W}(h:ph S xs=gV (w,S')):xs.length<=sizeLine/\w=.tup xs/\S'=S:=by
 unfold ph at h;split at h
 ·cases h; exact#[by assumption,rfl,rfl]
 ·cases h
def xQ {A:GD GU}{H:Hp}{S:aa}{ws:GD W}{vs:GD V}{Q:VK}{p:GU}(so:StoreOk X.w X.K A H S)(r:RelL X.K A H ws vs)(hp:H p=td)
  (q:∀v H' A',Ext X.K A H A' H'->StoreOk X.w X.K A' H' (S++[.lst ws])->Rel X.K A' H' (.ref S.length) v->Q v H'):Q (.ref p) (bM H p (.lst vs)):=
 q _ _ (A++[p]) (dQ hp) (so.push hp r) (.ref (by rw[<- so.len]; simp))
def xR {A:GD GU}{H:Hp}{S:aa}{ws:GD W}{vs:GD V}{Q:VK}{p:GU}(so:StoreOk X.w X.K A H S)(r:RelL X.K A H ws vs)(hp:H p=td)
  (q:∀v H' A',Ext X.K A H A' H'->StoreOk X.w X.K A' H' S->Rel X.K A' H' (.tup ws) v->Q v H'):Q (.ref p) (bM H p (.tup vs)):=
 q _ _ A (dg (.inl hp)) (so.lay hp) (.tup (.of aY) (r.mono (dg (.inl hp))))
abbrev Dk (K:G4):R2:=λx y H Q=>∃a b xs ys,x=.ref a/\y=.ref b/\SqT K H a xs/\SqT K H b ys/\xs.length+ys.length<=sizeLine/\
 (xs=[]->Q (.ref b) H)/\(ys=[]->Q (.ref a) H)/\(∀p,H p=td->Q (.ref p) (bM H p (.tup (xs++ys))))
def xS:OpR X (binaryOp .Add) (Dk X.K):=by
 intro J s Y H x y v u Q I rx ry h;obtain⟨a,b,xs,ys,rfl,rfl,ha,hb,hz,q0,q1,q2⟩:=h;cases rx;cases ry;obtain⟨its,r1,p1,_⟩:=I.tuple ha;obtain⟨its2,r2,p2,_⟩:=I.tuple hb
 by_cases hx:xs=[]
 ·obtain⟨⟨cls,dd,data,sl⟩,ho,hc,n,hd⟩:=id p1;obtain⟨⟨cls2,dd2,data2,sl2⟩,ho2,hc2,n2,hd2⟩:=id p2;simp only at hc hd hc2 hd2;subst hc hd hc2 hd2;exact Np #[_,ho,rfl] #[_,ho2,rfl] LK MT KJ KD (Kt _ _)
   (tuple_addW0 a b its.toArray its2.toArray n n2 dd dd2 sl sl2 (by simp[r1.nil_iff.mpr hx])) #[ho,ho2,#[.ref b,H,I,rfl,q0 hx]]
 ·show HT.xD p1 p2 (λz=>hx (r1.nil_iff.mp z)) (λz=>#[.ref a,H,I,rfl,q1 (r2.nil_iff.mp z)]) (λz=>?_) (by rw[<- r1.length,<- r2.length]; exact hz)
  show#[.ref s.heap.objs.size,_,I.laid (t':=s.toks) (o:=.tup (xs++ys)) (λb ob q=>GR _ q) (G3 _) ?_,rfl,q2 _ (I.hok.fresh (G3 _))]
  exact#[#[by rw[GJ]; exact hz,NoD.new _ _ _],_,r1.append r2,MJ _ _]
def RelL.nil_iff {K:G4}{A:GD GU}{H:Hp}{ws:GD W}{vs:GD V}(r:RelL K A H ws vs):vs=[]↔ws=[]:=by
 cases r <;> simp
def pi:OpR X (binaryOp .Mult) (λx y H Q=>∃z k,x=.str z/\y=.int k/\MulOk z k/\Q (.str (PY z k)) H):=by
 intro J s Y H x y v u Q I rx ry h;obtain⟨z,k,rfl,rfl,ok,q⟩:=h;obtain⟨t,rfl⟩:=rx;obtain⟨t',rfl⟩:=ry;exact SB.mul ok λt2 k2=>#[.str _,H,I.tok _,#[_,rfl],q]
def uh {x:Hc}{k:G0}(h1:k < 16777216)(h2 : -16777216<=k)(h3:x.length*k.toNat<=sizeLine):MulOk x k:=by
 have hs:sizeLine=16777216:=Ik;rw[hs]at h3;show#[?_,λa b=>?_,λ_ _=>?_]
 ·rw[Bool.or_eq_false_iff];exact#[Hz ∅,Hz ∅]
 ·have hk:0 < k:=∅
  have e:(x.length:G0)*k=((x.length*k.toNat:GP):G0):=by
   rw[Int.natCast_mul,JU ∅]
  intro hgt;have h4:(2 ^ 63 - 1:G0) < (x.length:G0)*k:=(Int.ediv_lt_iff_lt_mul hk).mp hgt;rw[e]at h4;generalize x.length*k.toNat=z at h3 h4;omega
 ·unfold OB;rw[hs];exact Hz ∅
inductive EndV (wd:HL)(K:G4)(A:GD GU)(H:Hp)(S':aa)(w:W)(v:V)(H':Hp):Prop
 | mk (A':GD GU) (e:Ext K A H A' H') (so:StoreOk wd K A' H' S') (r:Rel K A' H' w v):EndV wd K A H S' w v H'
def EndV.here {A:GD GU}{H:Hp}{S:aa}{w:W}{v:V}(so:StoreOk X.w X.K A H S)(r:Rel X.K A H w v):EndV X.w X.K A H S w v H:=#[A,.refl,so,r]
def EndV.lst {A:GD GU}{H:Hp}{S:aa}{ws:GD W}{vs:GD V}{p:GU}(so:StoreOk X.w X.K A H S)(r:RelL X.K A H ws vs)(hp:H p=td):EndV X.w X.K A H (S++[.lst ws]) (.ref S.length) (.ref p) (bM H p (.lst vs)):=
 xQ (Q:=EndV X.w X.K A H (S++[.lst ws]) (.ref S.length)) so r hp λv H' A' a b c=>#[A',a,b,c]
def EndV.tup {A:GD GU}{H:Hp}{S:aa}{ws:GD W}{vs:GD V}{p:GU}(so:StoreOk X.w X.K A H S)(r:RelL X.K A H ws vs)(hp:H p=td):EndV X.w X.K A H S (.tup ws) (.ref p) (bM H p (.tup vs)):=
 xR (Q:=EndV X.w X.K A H S (.tup ws)) so r hp λv H' A' a b c=>#[A',a,b,c]
def EP.post {J:GD (GU×IM)}{Y:L2.St}{A:GD GU}{H:Hp}{S':aa}{w:W}{u:GK}{s':GL}(h:EP X J Y (EndV X.w X.K A H S' w) u s'):PostE X J Y A H S' w u s':=by
 obtain⟨v,H',I',r,A',x,y,z⟩:=h;exact#[v,H',A',I',r,x,y,z]
def OpR.go {f:GK->GK->O4 GK}{r:R2}(h:OpR X f r){J:GD (GU×IM)}{Y:L2.St}{A:GD GU}{H:Hp}{S':aa}{w:W}{s:GL}{a b:V}{u v:GK}(I:Inv X J Y H s)(ru:RelV a u)(rv:RelV b v)
  (q:r a b H (EndV X.w X.K A H S' w)):wpAny (model X.prog X.w) X.A (f u v) (PostE X J Y A H S' w) X.xe s:=bm (h J s Y H a b u v _ I ru rv q) λ_ _=>EP.post
def xT:LOp X (binaryOp .Add) (ij .add):=by
 intro J s Y H A S x y a b u v w S' I so rx ru ry rv e;cases rx with
 | int=>cases ry with
  | int=>cases e; exact OpR.go AU I ru rv #[_,_,rfl,rfl,.here so .int]
  | _=>cases e
 | str=>cases ry with
  | str=>
   dsimp only[ij,ug]at e;split at e
   ·cases e; exact OpR.go pb I ru rv #[_,_,rfl,rfl,by assumption,.here so .str]
   ·cases e
  | _=>cases e
 | tup h1 r1=>cases ry with
  | tup h2 r2=>
   obtain⟨hl,rfl,rfl⟩:=qu (show ph S _=_ from e)
   rw[GJ,r1.length,r2.length]at hl;show OpR.go xS I ru rv #[_,_,_,_,rfl,rfl,h1,h2,hl,λz=>?_,λz=>?_,λp hp=>.tup so (r1.append r2) hp]
   ·have z':=r1.nil_iff.mp z;subst z';exact .here so (.tup h2 r2)
   ·have z':=r2.nil_iff.mp z;subst z';rw[Iy];exact .here so (.tup h1 r1)
  | _=>cases e
 | ref h1=>cases ry with
  | ref h2=>
   dsimp only[ij,ug]at e;split at e
   ·obtain⟨hl,rfl,rfl⟩:=jn e;obtain⟨vs,q1,r1⟩:=ec so (by assumption) h1
    obtain⟨us,q2,r2⟩:=ec so (by assumption) h2
    rw[GJ,r1.length,r2.length]at hl;exact OpR.go Bj I ru rv #[_,_,_,_,rfl,rfl,q1,q2,hl,λp hp=>.lst so (r1.append r2) hp]
   ·cases e
  | _=>cases e
 | _=>cases e
def nB {f:GK->GK->O4 GK}{c:G0->G0->Hj}{g:G0->G0->G0}{r:R2}(h:OpR X f r)(hr:∀i j H Q,c i j=true->Q (.int (g i j)) H->r (.int i) (.int j) H Q):LOp X f (xj c g):=by
 intro J s Y H A S x y a b u v w S' I so rx ru ry rv e;cases rx with
 | int=>cases ry with
  | int=>
   unfold xj at e;dsimp only at e;split at e
   ·cases e; exact OpR.go h I ru rv (hr _ _ _ _ (by assumption) (.here so .int))
   ·cases e
  | _=>cases e
 | _=>cases e
def xU:LOp X (binaryOp .Sub) (ij .sub):=nB AV λ_ _ _ _ _ q=>#[_,_,rfl,rfl,q]
def xV {i j:G0}(h:rR i j=true):CMul i j:=by
 unfold rR at h;rw[IK,GQ,GQ,Hy,Hy,Hy,Hy]at h;exact h
def xW:LOp X (binaryOp .Mult) (ij .mul):=by
 have hI:LOp X (binaryOp .Mult) (xj rR (· * ·)):=nB AW λ_ _ _ _ h q=>#[_,_,rfl,rfl,xV h,q]
 intro J s Y H A S x y a b u v w S' I so rx ru ry rv e;cases x with
 | str z=>
  cases rx with
  | str=>cases ry with
   | int=>
    dsimp only[ij,xP]at e;split at e
    ·rename_i hc;cases e; exact OpR.go pi I ru rv #[_,_,rfl,rfl,uh ∅ ∅ hc.2.2,.here so .str]
    ·cases e
   | _=>cases e
 | ref z=>
  cases rx with
  | ref h1=>cases ry with
   | int=>
    dsimp only[ij,xP]at e;split at e
    ·split at e
     ·rename_i hc;obtain⟨hl,rfl,rfl⟩:=jn e;obtain⟨vs,q1,r1⟩:=ec so (by assumption) h1
      rw[r1.length]at hc;exact OpR.go Bk I ru rv #[_,_,_,rfl,rfl,q1,∅,∅,hc.2.2,λp hp=>.lst so (r1.rep _) hp]
     ·cases e
    ·cases e
   | _=>cases e
 | _=>exact hI _ _ _ _ _ _ _ _ _ _ _ _ _ _ I so rx ru ry rv e
def uj:LOp X (binaryOp .FloorDiv) (ij .fdiv):=nB xx λ_ _ _ _ h q=>#[_,_,rfl,rfl,by
 unfold xO at h;rw[GQ,Hy,Hy]at h;exact h,q]
def xX:LOp X (binaryOp .Mod) (ij .mod):=nB AX λ_ _ _ _ h q=>#[_,_,rfl,rfl,Ij h,q]
def xY:LOp X (binaryOp .Pow) (ij .pow):=nB AY λ_ _ _ _ h q=>#[_,_,rfl,rfl,by
 unfold Dj at h;rw[GQ,GQ,Hy,Hy,Hy]at h;exact#[h.1.1,h.1.2,h.2],q]
def qv (o:BOp):LOp X (binaryOp o.py) (ij o):=by
 cases o
 ·exact xT
 ·exact xU
 ·exact xW
 ·exact uj
 ·exact xX
 ·exact xY
end
abbrev jg (f:W->W->GN Hj):GD W->GD W->GN Hj
 | [],[]=>gV true
 | [],_::_=>gV false
 | _::_,[]=>gV false
 | x::xs,y::ys=>match f x y,jg f xs ys with
  | some a,gV b=>gV (a&&b)
  | _,_=>td
abbrev b2 (b:Hj):G0:=if b then 1 else 0
abbrev ir (S:aa):GP->W->W->GN Hj
 | _,.non,y=>match y with
  | .non=>gV true
  | _=>td
 | _,.bl a,y=>match y with
  | .bl b=>gV (a==b)
  | _=>td
 | _,.int a,y=>match y with
  | .int b=>gV (a==b)
  | _=>td
 | _,.str a,y=>match y with
  | .str b=>gV (a==b)
  | _=>td
 | 0,_,_=>td
 | d+1,.tup xs,y=>match y with
  | .tup ys=>jg (ir S d) xs ys
  | _=>td
 | d+1,.ref i,y=>match y with
  | .ref j=>match nj S i,nj S j with
   | some xs,gV ys=>if xs.length=ys.length then jg (ir S d) xs ys else gV false
   | _,_=>td
  | _=>td
section
variable{X:Cx}{J:GD (GU×IM)}{Y:L2.St}{H:Hp}{s:GL}{A:GD GU}{S:aa}
abbrev RU (K:G4)(A:GD GU)(H:Hp)(w:W)(u:GK):Prop:=∃v,Rel K A H w v/\RelV v u
def qw {ws:GD W}{vs:GD V}{us:GD GK}(r:RelL X.K A H ws vs)(q:Vals vs us):∀(j:GP) (h1:j < ws.length) (h2:j < us.length),RU X.K A H ws[j] us[j]:=by
 induction ws generalizing vs us with
 | nil=>intro j h1; simp at h1
 | cons w ws ih=>
  cases r with
  | cons r1 rr=>
   cases q with
   | cons q1 qq=>
    intro j h1 h2;cases j with
    | zero=>exact#[_,r1,q1]
    | succ j=>exact ih rr qq j (by simpa using h1) (by simpa using h2)
def uk {ws:GD W}{u:GK}(I:Inv X J Y H s)(h:RU X.K A H (.tup ws) u):∃a its,u=.ref a/\Nj s.heap a its/\its.size=ws.length/\ws.length<=sizeLine/\∀(j:GP) (h1:j < ws.length) (h2:j < its.size),RU X.K A H ws[j] its[j]:=by
 obtain⟨v,r,q⟩:=h;cases r with
 | tup sq rl=>
  obtain⟨its,rv,ht,hz⟩:=I.tuple sq;show#[_,its.toArray,q,ht,by rw[G9,<- rv.length,rl.length],by rw[rl.length]; exact hz,λj h1 h2=>?_]
  have:=qw rl rv j h1 (by simpa using h2)
  simpa using this
def um {i:GP}{ws:GD W}{u:GK}(I:Inv X J Y H s)(so:StoreOk X.w X.K A H S)(e:nj S i=gV ws)(h:RU X.K A H (.ref i) u):∃a its,u=.ref a/\A[i]?=gV a/\s.heap.IsList a its/\its.size=ws.length/\ws.length<=sizeLine/\∀(j:GP) (h1:j < ws.length) (h2:j < its.size),RU X.K A H ws[j] its[j]:=by
 obtain⟨v,r,q⟩:=h;cases r with
 | ref ea=>
  obtain⟨vs,hq,rl⟩:=ec so e ea;obtain⟨its,rv,ht,hz⟩:=I.list (.of hq);show#[_,its.toArray,q,ea,ht.isList,by rw[G9,<- rv.length,rl.length],by rw[rl.length]; exact hz,λj h1 h2=>?_]
  have:=qw rl rv j h1 (by simpa using h2)
  simpa using this
def jC {f:W->W->GN Hj}:∀ {xs ys:GD W} {k:Hj},jg f xs ys=gV k->∃e:GP->Hj,(∀(j:GP) (h1:j < xs.length) (h2:j < ys.length),f xs[j] ys[j]=gV (e j))/\
  k=((G8 (min xs.length ys.length)).all e&&xs.length==ys.length)
 | [],[],k,h=>#[λ_=>true,λj h1=>by simp at h1,by cases h; rfl]
 | [],_::_,k,h=>#[λ_=>true,λj h1=>by simp at h1,by cases h; simp]
 | _::_,[],k,h=>#[λ_=>true,λj h1 h2=>by simp at h2,by cases h; simp]
 | x::xs,y::ys,k,h=>by
  dsimp only[jg]at h;split at h
  ·rename_i a b ha hb;cases h;obtain⟨e,h1,h2⟩:=jC hb;show#[λj=>match j with|0=>a|j+1=>e j,λj hj1 hj2=>?_,?_]
   ·cases j with
    | zero=>exact ha
    | succ j=>exact h1 j (by simpa using hj1) (by simpa using hj2)
   ·subst h2;simp only[HK,Nat.add_min_add_right,LY,HF,KN,Ms];congr 2;simp
  ·cases h
def xZ (I:Inv X J Y H s)(so:StoreOk X.w X.K A H S):∀(d:GP) {x y:W} {v:V} {k:Hj},Rel X.K A H x v->Rel X.K A H y v->ir S d x y=gV k->k=true:=by
 intro d
 induction d with
 | zero=>
  intro x y v k rx ry e;cases rx with
  | non=>cases ry; cases e; rfl
  | bl=>cases ry; cases e; exact Ip _
  | int=>cases ry; cases e; exact Ip _
  | str=>cases ry; cases e; exact Ip _
  | tup _ _=>cases e
  | ref _=>cases e
 | succ d ih=>
  have lists:∀ {xs ys:GD W} {vs:GD V} {k:Hj},RelL X.K A H xs vs->RelL X.K A H ys vs->jg (ir S d) xs ys=gV k->k=true:=by
   intro xs
   induction xs with
   | nil=>
    intro ys vs k r1 r2 e;cases r1; cases r2; cases e; rfl
   | cons x xs ihx=>
    intro ys vs k r1 r2 e;cases r1 with
    | cons p1 q1=>
     cases r2 with
     | cons p2 q2=>
      dsimp only[jg]at e;split at e
      ·rename_i a b ha hb;cases e;rw[ih p1 p2 ha,ihx q1 q2 hb];rfl
      ·cases e
  intro x y v k rx ry e;cases rx with
  | non=>cases ry; cases e; rfl
  | bl=>cases ry; cases e; exact Ip _
  | int=>cases ry; cases e; exact Ip _
  | str=>cases ry; cases e; exact Ip _
  | tup h1 r1=>
   cases ry with
   | tup h2 r2=>
    rw[I.tuple_inj h1 h2]at r1;exact lists r1 r2 e
   | ref ea=>cases e
  | ref ea=>
   cases ry with
   | tup h2 r2=>cases e
   | ref eb=>
    dsimp only[ir]at e;split at e
    ·rename_i xs ys hx hy;have:=so.nd _ _ _ _ _ (jB hx) rfl (jB hy) rfl ea eb;subst this;rw[hx]at hy; cases hy
     rw[Ho rfl]at e;obtain⟨vs,q,r⟩:=ec so hx ea;exact lists r r e
    ·cases e
def be (A:HE):A.in1.units=A.units+1:=rfl
noncomputable abbrev CC (B:HE)(s:GL)(u v:GK)(k:Hj):Prop:=SeqAt.RcAt B s u v k/\SeqAt.RcNeAt B s u v (!k)/\KU B s u v k
open SeqAt in
def zX (I:Inv X J Y H s)(so:StoreOk X.w X.K A H S):∀(d:GP) (B:HE) {x y:W} {u v:GK} {k:Hj},B.units+d < cLine->RU X.K A H x u->RU X.K A H y v->ir S d x y=gV k->CC B s u v k:=by
 have non:∀ {B:HE} {y:W} {u v:GK} {k:Hj} {d:GP},RU X.K A H .non u->RU X.K A H y v->ir S d .non y=gV k->CC B s u v k:=by
  intro B y u v k d ⟨_,rx,ra⟩ ⟨_,ry,rb⟩ e;cases rx;cases(show u=HZ from ra)
  cases y with
  | non=>
   have e:gV (true)=gV k:=by cases d <;> exact e
   cases e;cases ry;cases(show v=HZ from rb)
   exact#[.none_none,.none_none,.same _]
  | _=>cases d <;> cases e
 have bl:∀ {B:HE} {b:Hj} {y:W} {u v:GK} {k:Hj} {d:GP},RU X.K A H (.bl b) u->RU X.K A H y v->ir S d (.bl b) y=gV k->CC B s u v k:=by
  intro B b y u v k d ⟨_,rx,ra⟩ ⟨_,ry,rb⟩ e;cases rx;cases(show u=Jo _ from ra)
  cases y with
  | bl c=>
   have e:gV (b==c)=gV k:=by cases d <;> exact e
   cases e;cases ry;cases(show v=Jo _ from rb)
   exact#[.bool_bool _ _,.bool_bool _ _,.bool_bool _ _]
  | _=>cases d <;> cases e
 have int:∀ {B:HE} {b:G0} {y:W} {u v:GK} {k:Hj} {d:GP},RU X.K A H (.int b) u->RU X.K A H y v->ir S d (.int b) y=gV k->CC B s u v k:=by
  intro B b y u v k d ⟨_,rx,ra⟩ ⟨_,ry,rb⟩ e;cases rx;obtain⟨t0,rfl⟩ : ∃t,u=LI _ t:=ra;cases y with
  | int c=>
   have e:gV (b==c)=gV k:=by cases d <;> exact e
   cases e;cases ry;obtain⟨t,rfl⟩ : ∃t,v=LI _ t:=rb;exact#[.int_int _ _ _ _,.int_int _ _ _ _,.int_int _ _ _ _]
  | _=>cases d <;> cases e
 have str:∀ {B:HE} {b:Hc} {y:W} {u v:GK} {k:Hj} {d:GP},RU X.K A H (.str b) u->RU X.K A H y v->ir S d (.str b) y=gV k->CC B s u v k:=by
  intro B b y u v k d ⟨_,rx,ra⟩ ⟨_,ry,rb⟩ e;cases rx;obtain⟨t0,rfl⟩ : ∃t,u=LJ _ t:=ra;cases y with
  | str c=>
   have e:gV (b==c)=gV k:=by cases d <;> exact e
   cases e;cases ry;obtain⟨t,rfl⟩ : ∃t,v=LJ _ t:=rb;exact#[.str_str _ _ _ _,.str_str _ _ _ _,.str_str _ _ _ _]
  | _=>cases d <;> cases e
 intro d
 induction d with
 | zero=>
  intro B x y u v k hu rx ry e;cases x with
  | non=>exact non rx ry e
  | bl b=>exact bl rx ry e
  | int b=>exact int rx ry e
  | str b=>exact str rx ry e
  | _=>cases e
 | succ d ih=>
  intro B x y u v k hu rx ry e;have hu0:B.units < cLine:=∅
  have hu1:B.in1.units+d < cLine:=by rw[be]; omega
  have rx0:=rx;have ry0:=ry;have fin:∀ {a b:GU},u=.ref a->v=.ref b->RcAt B s u v k->RcNeAt B s u v (!k)->CC B s u v k:=by
   intro a b ea eb h1 h2;subst ea eb;show#[h1,h2,?_]
   by_cases hab:a=b
   ·subst hab;obtain⟨v1,q1,z1⟩:=rx0;obtain⟨v2,q2,z2⟩:=ry0;have e12:v1=v2:=z1.inj z2;subst e12;have:=xZ I so (d+1) q1 q2 e;subst this;exact EqAt.same _
   ·exact EqAt.of_refs hab h1
  cases x with
  | non=>exact non rx ry e
  | bl b=>exact bl rx ry e
  | int b=>exact int rx ry e
  | str b=>exact str rx ry e
  | tup xs=>
   cases y with
   | tup ys=>
    obtain⟨a,its,rfl,ht,hs,_,hi⟩:=uk I rx;obtain⟨b,its2,rfl,ht2,hs2,_,hi2⟩:=uk I ry;obtain⟨f,h1,h2⟩:=jC (show jg (ir S d) xs ys=gV k from e)
    have he:∀j (h1:j < its.size) (h2:j < its2.size),EqAt B.in1 s its[j] its2[j] (f j):=λj j1 j2=>
     (ih B.in1 hu1 (hi j (hs ▸ j1) j1) (hi2 j (hs2 ▸ j2) j2) (h1 j (hs ▸ j1) (hs2 ▸ j2))).2.2
    rw[<- hs,<- hs2]at h2;subst h2;exact fin rfl rfl (RcAt.tuples ht ht2 hu0 he) (RcNeAt.tuples ht ht2 hu0 he)
   | _=>cases e
  | ref i=>
   cases y with
   | ref j=>
    dsimp only[ir]at e;split at e
    ·rename_i ws ws2 hw hw2;obtain⟨a,its,rfl,_,hl,hs,_,hi⟩:=um I so hw rx;obtain⟨b,its2,rfl,_,hl2,hs2,_,hi2⟩:=um I so hw2 ry;split at e
     ·rename_i hlen;obtain⟨f,h1,h2⟩:=jC e;have he:∀j (h1:j < its.size) (h2:j < its2.size),EqAt B.in1 s its[j] its2[j] (f j):=λj j1 j2=>
       (ih B.in1 hu1 (hi j (hs ▸ j1) j1) (hi2 j (hs2 ▸ j2) j2) (h1 j (hs ▸ j1) (hs2 ▸ j2))).2.2
      have hk:k=(G8 its.size).all f:=by rw[h2,hs,hlen]; simp
      subst hk;exact fin rfl rfl (RcAt.lists hl hl2 (by rw[hs,hs2,hlen]) hu0 he) (RcNeAt.lists hl hl2 (by rw[hs,hs2,hlen]) hu0 he)
     ·rename_i hlen;cases e;have hb:(its.size != its2.size)=true:=by rw[hs,hs2]; simpa using hlen
      exact fin rfl rfl (RcAt.lists_lengths hl hl2 hb hu0) (RcNeAt.lists_lengths hl hl2 hb hu0)
    ·cases e
   | _=>cases e
end
abbrev LtAt (B:HE)(s:GL)(u v:GK)(k:Hj):Prop:=
 ∀(prog:Hx) (w:HL) (E:GK->GL->Prop) (Q:GK->GL->Prop),Q (.bool k) s->wpAny (model prog w) B (richCompare .Lt u v) Q E s
inductive LexR (B:HE)(s:GL):GD GK->GD GK->Hj->Prop
 | nn:LexR B s [] [] false
 | nc {v:GK} {vs:GD GK}:LexR B s [] (v::vs) true
 | cn {v:GK} {vs:GD GK}:LexR B s (v::vs) [] false
 | eq {u v:GK} {us vs:GD GK} {k:Hj}:KU B s u v true->LexR B s us vs k->LexR B s (u::us) (v::vs) k
 | ne {u v:GK} {us vs:GD GK} {k:Hj}:KU B s u v false->LtAt B s u v k->LexR B s (u::us) (v::vs) k
section
open PySem.SeqAt
open PySem.AutoSeq1 (wpAny_loadPart')
open PySem.MeetsSeq PySem.MeetsSeq2 PySem.MeetsSeq3
def l5 (l b:GU)(items items2:HR GK)(n n2:GP)(dd dd2:GN GU)(sl sl2:HR (GN GK))(k:Hj) :
  Meets (LZ.«tuple.__lt__» #[[.ref l,.ref b],[]])
   (λB R s=>s.heap.get? l=gV { cls:=.type "tuple",dict:=dd,data:=.seq items n,slots:=sl }/\s.heap.get? b=gV { cls:=.type "tuple",dict:=dd2,data:=.seq items2 n2,slots:=sl2 }/\
    LexR B.in1 s items.toList items2.toList k/\R (.ok (.ret (.bool k))) s):=
 .of_wp λprog w A R s h=>by
  obtain⟨hp,g,d,tk,os⟩:=s; obtain⟨hl,hb,hx,h⟩:=h
  have f2:=OL;have z1:items.toList.length=items.size:=by simp
  have z2:items2.toList.length=items2.size:=by simp
  wp_walk using Kx hl,Kx hb,LL _ (λcx b s'=>b.1=td/\s'=#[hp,g,d,tk,os]/\∃(vs ws:GD GK),cx=vs.zip ws/\
   LexR A.in1 #[hp,g,d,tk,os] vs ws k/\vs.length+items2.size=ws.length+items.size) _
  case turn=>
   rintro⟨y,x⟩ cx b s' ⟨hb',rfl,vs,ws,hz,hlx,hlen⟩;cases hlx with
   | nn=>rw[Nw]at hz; cases hz
   | nc=>rw[Nw]at hz; cases hz
   | cn=>rw[List.zip_nil_right]at hz; cases hz
   | eq he hr=>
    rw[J2]at hz;injection hz with hyx hrest
    injection hyx with hy hx
    subst hy hx;simp only[HK]at hlen;show GH (he prog w _ _ ?_)
    wp_walk
    exact#[rfl,rfl,_,_,hrest,hr,∅]
   | ne he hr=>
    rw[J2]at hz;injection hz with hyx hrest
    injection hyx with hy hx
    subst hy hx;show GH (he prog w _ _ ?_);have hri:=hr prog w
    wp_walk using hri
    exact#[_,rfl,by simpa using h]
  case fin=>
   rintro⟨b1,b2⟩ s' ⟨hb',rfl,vs,ws,hz,hlx,hlen⟩;simp only at hb';subst hb';have hv:k=decide (items.size < items2.size):=by
    cases hlx with
    | nn=>simp only[IT]at hlen; exact(Hz ∅).symm
    | nc=>simp only[IT,HK]at hlen; exact(Iu ∅).symm
    | cn=>simp only[IT,HK]at hlen; exact(Hz ∅).symm
    | eq _ _=>rw[J2]at hz; cases hz
    | ne _ _=>rw[J2]at hz; cases hz
   subst hv
   wp_walk
   exact#[_,rfl,by simpa [NH]using h]
  case h=>
   exact#[rfl,rfl,items.toList,items2.toList,rfl,hx,∅]
end
def LtAt.tuples {B:HE}{s:GL}{l b:GU}{items items2:HR GK}{k:Hj}(hl:Nj s.heap l items)(hb:Nj s.heap b items2)(hu:B.units < cLine)(hx:LexR B.in1 s items.toList items2.toList k) :
  LtAt B s (.ref l) (.ref b) k:=λprog w E Q h=>by
 obtain⟨⟨cls,dd,data,sl⟩,ho,hc,n,hd⟩:=id hl;obtain⟨⟨cls2,dd2,data2,sl2⟩,ho2,hc2,n2,hd2⟩:=id hb;simp only at hc hd hc2 hd2;subst hc hd hc2 hd2;exact richCompare_meets_room (op:=.Lt) #[_,ho,rfl] #[_,ho2,rfl] PySem.F.slot_tuple_lt PySem.F.entry_tuple_lt (PySem.F.args_tuple_lt_2 _ _) (l5 l b items items2 n n2 dd dd2 sl sl2 k)
  #[ho,ho2,hx,show Jo k≠Value.notImplemented/\Q (.bool k) s from#[(λx=>nomatch x),h]] hu
inductive COp where|eq|ne|lt|le|gt|ge|isin|notin|is|isnot
 deriving Kf
abbrev COp.py:COp->N1
 | .eq=>.Eq|.ne=>.NotEq|.lt=>.Lt|.le=>.LtE|.gt=>.Gt|.ge=>.GtE|.isin=>.In|.notin=>.NotIn|.is=>.Is|.isnot=>.IsNot
abbrev bU:W->Hj
 | .non=>true
 | .bl _=>true
 | .int _=>true
 | .str _=>true
 | _=>false
abbrev nC:W->W->Hj
 | .non,.non=>true
 | .bl a,.bl b=>a==b
 | .bl a,.int b=>b2 a==b
 | .int a,.bl b=>a==b2 b
 | .int a,.int b=>a==b
 | .str a,.str b=>a==b
 | _,_=>false
abbrev fA (S:aa):W->GN (GD W)
 | .tup xs=>gV xs
 | .ref i=>gz S i
 | _=>td
noncomputable abbrev fB:GP:=20
abbrev Bl (x y:W)(S:aa):GN Hj:=match fA S y with
 | some ys=>if bU x&&ys.all bU then gV (ys.any λz=>nC z x)else td
 | none=>td
abbrev rS:W->Hj
 | .non=>true
 | _=>false
abbrev uq (f:G0->G0->Hj):W->W->GN Hj
 | .int i,.int j=>gV (f i j)
 | _,_=>td
abbrev Fw:W->W->GN Hj
 | .bl a,.bl b=>gV (a==b)
 | _,_=>td
abbrev rT:COp->W->W->aa->GN Hj
 | .eq,x,y,S=>ir S fB x y
 | .ne,x,y,S=>(ir S fB x y).map (!·)
 | .lt,x,y,_=>uq (λi j=>decide (i < j)) x y
 | .le,x,y,_=>uq (λi j=>decide (i<=j)) x y
 | .gt,x,y,_=>uq (λi j=>decide (j < i)) x y
 | .ge,x,y,_=>uq (λi j=>decide (j<=i)) x y
 | .isin,x,y,S=>Bl x y S
 | .notin,x,y,S=>(Bl x y S).map (!·)
 | .is,x,y,_=>if rS y then gV (rS x)else Fw x y
 | .isnot,x,y,_=>if rS y then gV (!rS x)else td
abbrev dB (o:COp)(x y:W)(S:aa):GN (W×aa):=(rT o x y S).map λk=>(.bl k,S)
section
variable{X:Cx}
def l7 {J:GD (GU×IM)}{Y:L2.St}{H:Hp}{s:GL}{A:GD GU}{S:aa}{k:Hj}(I:Inv X J Y H s)(so:StoreOk X.w X.K A H S):PostE X J Y A H S (.bl k) (.bool k) s:=
 #[.bl k,H,A,I,rfl,.refl,so,.bl]
def ya {o:COp}{x y w:W}{S S':aa}(h:dB o x y S=gV (w,S')):∃k,rT o x y S=gV k/\w=.bl k/\S'=S:=by
 unfold dB at h;rw[GM]at h;obtain⟨k,h1,h2⟩:=h;cases h2;exact#[k,h1,rfl,rfl]
def jD {A:GD GU}{H:Hp}{w:W}{v:V}(r:Rel X.K A H w v)(f:bU w=true):gf v=true:=by
 cases r <;> first|rfl|cases f
def iy {A:GD GU}{H:Hp}:∀ {ws:GD W} {vs:GD V},RelL X.K A H ws vs->ws.all bU=true->vs.all gf=true
 | _,_,.nil,_=>rfl
 | _,_,.cons r t,f=>by
  rw[HF,GQ]at f ⊢;exact#[jD r f.1,iy t f.2]
def qx {A:GD GU}{H:Hp}{x y:W}{u v:V}(r:Rel X.K A H x u)(q:Rel X.K A H y v)(fx:bU x=true)(fy:bU y=true):xJ u v=nC x y:=by
 cases r <;> cases q <;> first|rfl|cases fx|cases fy
def qy {A:GD GU}{H:Hp}{y:W}{v:V}(q:Rel X.K A H y v)(fy:bU y=true):∀ {ws:GD W} {vs:GD V},RelL X.K A H ws vs->ws.all bU=true->EI v vs=ws.any λz=>nC z y
 | _,_,.nil,_=>rfl
 | _,_,.cons r t,f=>by
  rw[HF,GQ]at f;have:=qy q fy t f.2;unfold EI at this ⊢;rw[Jw,Jw,qx r q f.1 fy,this]
def qz {J:GD (GU×IM)}{Y:L2.St}{H:Hp}{s:GL}{A:GD GU}{S:aa}{y:W}{b:V}{ys:GD W}(so:StoreOk X.w X.K A H S)(r:Rel X.K A H y b)(e:fA S y=gV ys):∃p vs,b=.ref p/\(SqL X.K H p vs\/SqT X.K H p vs)/\RelL X.K A H ys vs:=by
 cases r with
 | tup h1 r1=>cases e; exact#[_,_,rfl,.inr h1,r1]
 | ref ea=>
  obtain⟨vs,h1,r1⟩:=cy so e ea;exact#[_,vs,rfl,.inl h1,r1]
 | _=>cases e
def ur {neg:Hj}{o:N1}(ho:OpR X (compareOp o) (Fp X.K neg)){J:GD (GU×IM)}{Y:L2.St}{H:Hp}{s:GL}{A:GD GU}{S:aa}{x y:W}{a b:V}{u v:GK}{ys:GD W}(I:Inv X J Y H s)(so:StoreOk X.w X.K A H S)
  (rx:Rel X.K A H x a) (ru:RelV a u) (ry:Rel X.K A H y b) (rv:RelV b v) (e:fA S y=gV ys) (f:(bU x&&ys.all bU)=true) :
  wpAny (model X.prog X.w) X.A (compareOp o u v) (PostE X J Y A H S (.bl (if neg then !ys.any λz=>nC z x else ys.any λz=>nC z x))) X.xe s:=by
 obtain⟨p,vs,rfl,hq,rl⟩:=qz (J:=J) (Y:=Y) (s:=s) so ry e;rw[GQ]at f;show OpR.go ho I ru rv #[p,vs,rfl,hq,jD rx f.1,iy rl f.2,?_];rw[qy rx f.1 rl f.2];exact .here so .bl
def gP (hu:X.A.units+fB < cLine)(o:COp):LOp X (compareOp o.py) (dB o):=by
 intro J s Y H A S x y a b u v w S' I so rx ru ry rv e;obtain⟨k,ek,e1,e2⟩:=ya e;subst e1;subst e2;clear e
 rename aa=>S
 have twoI:∀ {f:G0->G0->Hj},uq f x y=gV k->∃i j,x=.int i/\y=.int j/\k=f i j:=by
  intro f h;cases x with
  | int i=>cases y with
   | int j=>cases h; exact#[i,j,rfl,rfl,rfl]
   | _=>cases h
  | _=>cases h
 have hu1:X.A.units+1 < cLine:=by have:fB=20:=rfl; omega
 have ofSq:∀ {c:Hj},Bl x y S=gV c->(∃ys,fA S y=gV ys/\(bU x&&ys.all bU)=true/\c=ys.any λz=>nC z x):=by
  intro c h;unfold Bl at h;split at h
  ·split at h
   ·cases h; exact#[_,by assumption,by assumption,rfl]
   ·cases h
  ·cases h
 have ofN:∀ {c:Hj},(if rS y then gV c else td)=gV k->y=.non/\k=c:=by
  intro c h;cases y with
  | non=>cases h; exact#[rfl,rfl]
  | _=>cases h
 cases o with
 | eq=>exact(zX I so fB X.A hu #[a,rx,ru] #[b,ry,rv] ek).1 _ _ _ _ (l7 I so)
 | ne=>
  obtain⟨k',h1,rfl⟩:=GM.mp ek;exact(zX I so fB X.A hu #[a,rx,ru] #[b,ry,rv] h1).2.1 _ _ _ _ (l7 I so)
 | lt=>
  obtain⟨i,j,rfl,rfl,rfl⟩:=twoI ek;cases rx; cases ry
  exact OpR.go C6 I ru rv #[_,_,rfl,rfl,.here so .bl]
 | le=>
  obtain⟨i,j,rfl,rfl,rfl⟩:=twoI ek;cases rx; cases ry
  exact OpR.go C7 I ru rv #[_,_,rfl,rfl,.here so .bl]
 | gt=>
  obtain⟨i,j,rfl,rfl,rfl⟩:=twoI ek;cases rx; cases ry
  exact OpR.go C8 I ru rv #[_,_,rfl,rfl,.here so .bl]
 | ge=>
  obtain⟨i,j,rfl,rfl,rfl⟩:=twoI ek;cases rx; cases ry
  exact OpR.go C9 I ru rv #[_,_,rfl,rfl,.here so .bl]
 | isin=>
  obtain⟨ys,h1,h2,rfl⟩:=ofSq ek;exact ur (neg:=false) rM I so rx ru ry rv h1 h2
 | notin=>
  obtain⟨c,h,rfl⟩:=GM.mp ek;obtain⟨ys,h1,h2,rfl⟩:=ofSq h;exact ur (neg:=true) lY I so rx ru ry rv h1 h2
 | is=>
  cases y with
  | non=>
   have ek:gV (rS x)=gV k:=ek;cases ek;cases ry;show OpR.go A6 I ru rv #[rfl,?_];cases rx <;> exact .here so .bl
  | bl b'=>
   cases x with
   | bl a'=>
    have ek:gV (a'==b')=gV k:=ek;cases ek;cases rx;cases ry;obtain rfl:u=Jo a':=ru;obtain rfl:v=Jo b':=rv;show wpAny_is_plain rfl ?_;have e:(Jo a'==Jo b')=(a'==b'):=by cases a' <;> cases b' <;> rfl
    rw[e];exact l7 I so
   | _=>cases ek
  | _=>cases x <;> cases ek
 | isnot=>
  obtain⟨rfl,rfl⟩:=ofN ek;cases ry;show OpR.go xy I ru rv #[rfl,?_];cases rx <;> exact .here so .bl
end
end Mi
namespace HT
open PySem PyProof.Rows
section
variable{prog:Hx}{w:HL}{A:HE}{E:GK->GL->Prop}{s:GL}
def fY {t sl:GU}{items:HR GK}{vl vu:GK}{lo hi:GN G0}{Q:GK->GL->Prop}(ht:Nj s.heap t items)(hs:s.heap.IsSliceOf sl vl vu .none)(pl:Le vl lo)(pu:Le vu hi)
  (hw:ci items.size 0 lo=0/\ci items.size items.size hi=items.size) (h:Q (.ref t) s):wpAny (model prog w) A (getItem (.ref t) (.ref sl)) Q E s:=by
 obtain⟨os,hos,hcs,hds⟩:=id hs;have hTs:s.TypeIs (.ref sl) "slice":=#[os,hos,hcs];unfold getItem
 try with_reducible show IJ ?_
 first|refine GH (GX ?_)|skip
 show GH (Nq ht.typeIs #v[] ?_)
 show GH (Il (name:=IF "__getitem__") ht.typeIs Jg
  (IA Jg ht.typeIs MN ?_ (M6 _ _)))
 change wpAny _ _ (Kh (.ref t) >>= _) _ _ s;show GH (OF ht ?_);show GH (La hTs ?_);rw[Ho #v[]]
 show GH (eu hs pl pu ?_);have hyes:((((ci items.size 0 lo:GP):G0)==0&&(1:G0)==1&&(ci items.size items.size hi - ci items.size 0 lo)==items.size)=true):=by
  rw[hw.1,hw.2];simp
 change wpAny _ _ (if (((ci items.size 0 lo:GP):G0)==0&&(1:G0)==1&&(ci items.size items.size hi - ci items.size 0 lo)==items.size)=true then _ else _) _ _ s
 rw[Ho hyes];unfold Ot;show GH (GH (La ht.typeIs (GX ?_)));rw[Ho #v[]]
 exact GH (LU (GH (GX (GX #[_,rfl,GX h]))))
end
end HT
namespace Mi
open PySem PySem.Spec PyProof.Rows L2
abbrev rV (x y:W)(S:aa):GN (W×aa):=match x,y with
 | .tup xs,.int i=>(nv xs i).map λw=>(w,S)
 | .ref r,.int i=>match gz S r with
  | some xs=>(nv xs i).map λw=>(w,S)
  | none=>td
 | .str x,.int i=>if x.length<=sizeLine then(nv x.cps.toList i).map λc=>(.str #[[c].toArray],S)else td
 | _,_=>td
abbrev jh (xs:GD W)(lo hi:GN G0):GD W:=(xs.drop (HT.ci xs.length 0 lo)).take (HT.ci xs.length xs.length hi - HT.ci xs.length 0 lo)
abbrev fR (x:W)(lo hi:GN G0)(S:aa):GN (W×aa):=match x with
 | .tup xs=>gV (.tup (jh xs lo hi),S)
 | .ref r=>match gz S r with
  | some xs=>gV (.ref S.length,S++[.lst (jh xs lo hi)])
  | none=>td
 | _=>td
abbrev rW (o i v:W)(S:aa):GN aa:=match o,i with
 | .ref r,.int k=>match nj S r with
  | some xs=>match qp xs.length k with
   | some j=>gV (S.set r (.lst (xs.set j v)))
   | none=>td
  | none=>td
 | _,_=>td
section
variable (X:Cx)
abbrev LIx (g:W->W->aa->GN (W×aa)):Prop:=
 ∀(value slice:Hl) (J:GD (GU×IM)) (s:GL) (Y:L2.St) (H:Hp) (A:GD GU) (S:aa) (x y:W) (a b:V) (u v:GK) (w:W) (S':aa),Inv X J Y H s->StoreOk X.w X.K A H S->
  Rel X.K A H x a->RelV a u->Rel X.K A H y b->RelV b v->g x y S=gV (w,S')->subscripted slice false u v=operate [u,v] (getItem u v)->wpAny (model X.prog X.w) X.A (subscriptTail value slice u v) (PostE X J Y A H S' w) X.xe s
abbrev LSl (g:W->GN G0->GN G0->aa->GN (W×aa)):Prop:=
 ∀(J:GD (GU×IM)) (s:GL) (Y:L2.St) (H:Hp) (A:GD GU) (S:aa) (x:W) (a:V) (v vl vu:GK) (lo hi:GN G0) (sl:GU) (w:W) (S':aa),Inv X J Y H s->StoreOk X.w X.K A H S->
  Rel X.K A H x a->RelV a v->s.heap.IsSliceOf sl vl vu .none->Le vl lo->Le vu hi->g x lo hi S=gV (w,S')->
  ∃T id,typeLookup (.type T) "__getitem__" = pure (gV (.builtin id))/\s.TypeIs v T/\wpAny (model X.prog X.w) X.A (getItem v (.ref sl)) (PostE X J Y A H S' w) X.xe s
abbrev LSet (g:W->W->W->aa->GN aa):Prop:=
 ∀(J:GD (GU×IM)) (s:GL) (Y:L2.St) (H:Hp) (A:GD GU) (S:aa) (o i x:W) (ao ai ax:V) (uo ui ux:GK) (S':aa),Inv X J Y H s->StoreOk X.w X.K A H S->
  Rel X.K A H o ao->RelV ao uo->Rel X.K A H i ai->RelV ai ui->Rel X.K A H x ax->RelV ax ux->g o i x S=gV S'->
  wpAny (model X.prog X.w) X.A (setItem uo ui ux) (λ_ s'=>∃H' A',Inv X J Y H' s'/\Ext X.K A H A' H'/\StoreOk X.w X.K A' H' S') X.xe s
abbrev LCall (f:GK)(g:GD W->aa->GN (W×aa)):Prop:=
 ∀(J:GD (GU×IM)) (s:GL) (Y:L2.St) (H:Hp) (A:GD GU) (S:aa) (xs:GD W) (vs:GD V) (us:GD GK) (w:W) (S':aa),Inv X J Y H s->StoreOk X.w X.K A H S->
  RelL X.K A H xs vs->Vals vs us->g xs S=gV (w,S')->wpAny (model X.prog X.w) X.A (call f us) (PostE X J Y A H S' w) X.xe s
abbrev kY (id:Iw)(g:W->GD W->aa->GN (W×aa)):Prop:=
 ∀(J:GD (GU×IM)) (s:GL) (Y:L2.St) (H:Hp) (A:GD GU) (S:aa) (x:W) (a:V) (u:GK) (xs:GD W) (vs:GD V) (us:GD GK) (w:W) (S':aa),Inv X J Y H s->StoreOk X.w X.K A H S->
  Rel X.K A H x a->RelV a u->RelL X.K A H xs vs->Vals vs us->g x xs S=gV (w,S')->wpAny (model X.prog X.w) X.A (call (.builtin id) (u::us)) (PostE X J Y A H S' w) X.xe s
end
section
variable{X:Cx}{J:GD (GU×IM)}{Y:L2.St}{H:Hp}{s:GL}{A:GD GU}{S:aa}
def IxR.go {r:R2}(h:IxR X r){S':aa}{w:W}{a b:V}{u v:GK}{value slice:Hl}(I:Inv X J Y H s)(ru:RelV a u)(rv:RelV b v)(q:r a b H (EndV X.w X.K A H S' w))(hs:subscripted slice false u v=operate [u,v] (getItem u v)) :
  wpAny (model X.prog X.w) X.A (subscriptTail value slice u v) (PostE X J Y A H S' w) X.xe s:=bm (h value slice J s Y H a b u v _ I ru rv q hs) λ_ _=>EP.post
def CallR.go {f:GK}{r:GD V->Hp->VK->Prop}(h:CallR X f r){S':aa}{w:W}{vs:GD V}{us:GD GK}(I:Inv X J Y H s)(rv:Vals vs us)(q:r vs H (EndV X.w X.K A H S' w)) :
  wpAny (model X.prog X.w) X.A (call f us) (PostE X J Y A H S' w) X.xe s:=bm (h J s Y H vs us _ I rv q) λ_ _=>EP.post
def MtR.go {id:Iw}{r:V->GD V->Hp->VK->Prop}(h:MtR X id r){S':aa}{w:W}{a:V}{u:GK}{vs:GD V}{us:GD GK}(I:Inv X J Y H s)(ru:RelV a u)(rv:Vals vs us)(q:r a vs H (EndV X.w X.K A H S' w)) :
  wpAny (model X.prog X.w) X.A (call (.builtin id) (u::us)) (PostE X J Y A H S' w) X.xe s:=bm (h J s Y H a vs u us _ I ru rv q) λ_ _=>EP.post
def qA {xs:GD W}{vs:GD V}{i:G0}{w:W}(r:RelL X.K A H xs vs)(e:nv xs i=gV w):∃v,nv vs i=gV v/\Rel X.K A H w v:=by
 unfold nv at e ⊢;rw[r.length]at e;cases q:qp vs.length i with
 | none=>rw[q]at e; cases e
 | some j=>
  rw[q]at e;obtain⟨v,h1,h2⟩:=r.get (show xs[j]?=gV w from e)
  exact#[v,h1,h2]
def Gu (hu:X.A.units+10 < cLine):LIx X rV:=by
 intro value slice J s Y H A S x y a b u v w S' I so rx ru ry rv e hs;cases rx with
 | tup h1 r1=>cases ry with
  | int=>
   (dsimp only[rV]at e; simp only[GM]at e)
   obtain⟨w',e1,e2⟩:=e;cases e2;obtain⟨z,h2,r2⟩:=qA r1 e1;exact IxR.go Be I ru rv #[_,_,_,_,rfl,rfl,h1,h2,.here so r2] hs
  | _=>cases e
 | ref ea=>cases ry with
  | int=>
   dsimp only[rV]at e;split at e
   ·rename_i ws hw;rw[GM]at e;obtain⟨w',e1,e2⟩:=e;cases e2;obtain⟨vs,h1,r1⟩:=cy so hw ea;obtain⟨z,h2,r2⟩:=qA r1 e1;exact IxR.go xH I ru rv #[_,_,_,_,rfl,rfl,h1,h2,.here so r2] hs
   ·cases e
  | _=>cases e
 | str=>cases ry with
  | int=>
   dsimp only[rV]at e;split at e
   ·rw[GM]at e;obtain⟨c,e1,e2⟩:=e;cases e2;exact IxR.go Bf I ru rv #[_,_,_,rfl,rfl,by assumption,e1,.here so .str] hs
   ·cases e
  | _=>cases e
 | _=>cases ry <;> cases e
def l9 {xs:GD W}{vs:GD V}{lo hi:GN G0}(r:RelL X.K A H xs vs):RelL X.K A H (jh xs lo hi) (jz vs lo hi):=by
 unfold jh jz;rw[r.length];exact(r.drop _).take _
def yb:Dg X (λx lo hi H Q=>∃a xs,x=.ref a/\SqT X.K H a xs/\(jz xs lo hi=xs->Q (.ref a) H)/\∀p,H p=td->Q (.ref p) (bM H p (.tup (jz xs lo hi)))):=by
 intro J s Y H x v vl vu lo hi sl Q I rx hs pl pu h;obtain⟨a,xs,rfl,hx,q0,q⟩:=h
 by_cases hw:(HT.ci xs.length 0 lo=0/\HT.ci xs.length xs.length hi=xs.length)
 ·cases rx;obtain⟨its,r,ht,hz⟩:=I.tuple hx;have hlen:its.toArray.size=xs.length:=by rw[G9]; exact r.length.symm
  show#["tuple",_,PyProof.Rows.slot_tuple_getitem.lookup,ht.typeIs,?_];show HT.fY ht hs pl pu (by rw[hlen]; exact hw) #[.ref a,H,I,rfl,q0 ?_]
  unfold jz;rw[hw.1,hw.2];simp
 ·exact Bd J s Y H (.ref a) v vl vu lo hi sl Q I rx hs pl pu #[a,xs,rfl,hx,hw,q]
def Gv:LSl X fR:=by
 intro J s Y H A S x a v vl vu lo hi sl w S' I so rx rv hs pl pu e;cases rx with
 | tup h1 r1=>
  cases e;obtain⟨T,id,z1,z2,z3⟩:=yb J s Y H _ v vl vu lo hi sl (EndV X.w X.K A H S (.tup (jh _ lo hi))) I rv hs pl pu #[_,_,rfl,h1,λq=>.here so (.tup h1 (by have:=l9 (lo:=lo) (hi:=hi) r1; rw[q]at this; exact this)),λp hp=>.tup so (l9 r1) hp]
  exact#[T,id,z1,z2,bm z3 λ_ _=>EP.post]
 | ref ea=>
  dsimp only[fR]at e;split at e
  ·rename_i ws hw;cases e;obtain⟨vs,h1,r1⟩:=cy so hw ea;obtain⟨T,id,z1,z2,z3⟩:=xI J s Y H _ v vl vu lo hi sl (EndV X.w X.K A H (S++[.lst (jh ws lo hi)]) (.ref S.length)) I rv hs pl pu #[_,_,rfl,h1,λp hp=>.lst so (l9 r1) hp]
   exact#[T,id,z1,z2,bm z3 λ_ _=>EP.post]
  ·cases e
 | _=>cases e
def lset (hu:X.A.units+10 < cLine):LSet X rW:=by
 intro J s Y H A S o i x ao ai ax uo ui ux S' I so ro ruo ri rui rx rux e;cases ro with
 | ref ea=>cases ri with
  | int=>
   dsimp only[rW]at e;split at e
   ·rename_i ws hw;split at e
    ·rename_i j hj;cases e;obtain⟨vs,h1,r1⟩:=ec so hw ea;rw[r1.length]at hj;obtain⟨so',ex⟩:=so.write (jB hw) ea (r1.set rx j);exact bm (tX J s Y H _ _ _ uo ui ux (λH'=>H'=bM H _ (.lst (vs.set j ax))) I ruo rui rux #[_,_,_,_,rfl,rfl,h1,hj,rfl]) λ_ s' #[H',I',e']=>#[_,A,e' ▸ I',ex,so']
    ·cases e
   ·cases e
  | _=>cases e
 | _=>cases ri <;> cases e
abbrev pj (xs:GD W)(S:aa):GN (W×aa):=match xs with
 | [.tup ys]=>gV (.int ys.length,S)
 | [.str y]=>if y.length<=sizeLine then gV (.int y.length,S)else td
 | [.ref i]=>(gz S i).map λys=>(.int ys.length,S)
 | _=>td
def rX:LCall X (.builtin "len") pj:=by
 intro J s Y H A S xs vs us w S' I so rl rv e;cases rl with
 | nil=>cases e
 | cons r t=>
  cases t with
  | cons _ _=>cases r <;> cases e
  | nil=>
   cases r with
   | tup h1 r1=>cases e; rw[r1.length]; exact CallR.go jw I rv #[_,_,rfl,.inr #[_,h1,rfl],.here so .int]
   | str=>
    dsimp only[pj]at e;split at e
    ·cases e; exact CallR.go jw I rv #[_,_,rfl,#[by assumption,rfl],.here so .int]
    ·cases e
   | ref ea=>
    (dsimp only[pj]at e; simp only[GM]at e)
    obtain⟨ws,hw,e2⟩:=e;cases e2;obtain⟨vs',h1,r1⟩:=cy so hw ea;rw[r1.length];exact CallR.go jw I rv #[_,_,rfl,.inl #[_,h1,rfl],.here so .int]
   | _=>cases e
abbrev gw (xs:GD W)(S:aa):GN (W×aa):=match xs with
 | [x]=>match fA S x with
  | some ys=>gV (.ref S.length,S++[.lst ys])
  | none=>td
 | _=>td
def gA:LCall X (.type "list") gw:=by
 intro J s Y H A S xs vs us w S' I so rl rv e;cases rl with
 | nil=>cases e
 | cons r t=>
  cases t with
  | cons _ _=>cases e
  | nil=>
   dsimp only[gw]at e;split at e
   ·rename_i ys hy;cases e;obtain⟨p,vs',rfl,hq,r1⟩:=qz (J:=J) (Y:=Y) (s:=s) so r hy;exact CallR.go lZ I rv #[p,vs',rfl,hq,λl hl=>.lst so r1 hl]
   ·cases e
abbrev jE (xs:GD W)(S:aa):GN (W×aa):=match xs with
 | [.tup ys]=>gV (.tup ys,S)
 | [.ref i]=>match gz S i with
  | some ys=>gV (.tup ys,S)
  | none=>td
 | _=>td
def i3:LCall X (.type "tuple") jE:=by
 intro J s Y H A S xs vs us w S' I so rl rv e;cases rl with
 | nil=>cases e
 | cons r t=>
  cases t with
  | cons _ _=>cases r <;> cases e
  | nil=>
   cases r with
   | tup h1 r1=>cases e; exact CallR.go gk I rv #[_,_,rfl,.inr #[h1,.here so (.tup h1 r1)]]
   | ref ea=>
    dsimp only[jE]at e;split at e
    ·rename_i ys hy;cases e;obtain⟨vs',h1,r1⟩:=cy so hy ea;exact CallR.go gk I rv #[_,_,rfl,.inl #[h1,λl hl=>.tup so r1 hl]]
    ·cases e
   | _=>cases e
abbrev Dl (xs:GD W)(S:aa):GN (W×aa):=match xs with
 | [.int i]=>gV (.int i,S)
 | [.bl b]=>gV (.int (if b then 1 else 0),S)
 | _=>td
def rY:LCall X (.type "int") Dl:=by
 intro J s Y H A S xs vs us w S' I so rl rv e;cases rl with
 | nil=>cases e
 | cons r t=>
  cases t with
  | cons _ _=>cases r <;> cases e
  | nil=>
   cases r with
   | int=>cases e; exact CallR.go kN I rv (.inl #[_,rfl,.here so .int])
   | bl=>cases e; exact CallR.go kN I rv (.inr #[_,rfl,.here so .int])
   | _=>cases e
abbrev gQ (x:W)(xs:GD W)(S:aa):GN (W×aa):=match x,xs with
 | .ref i,[y]=>match nj S i with
  | some ys=>if ys.length < sizeLine then gV (.non,S.set i (.lst (ys++[y])))else td
  | none=>td
 | _,_=>td
def iz {i:GP}{p:GU}{ws ws0:GD W}{us:GD V}(so:StoreOk X.w X.K A H S)(e:nj S i=gV ws0)(ea:A[i]?=gV p)(r:RelL X.K A H ws us){w:W}{v:V}(rw':Rel X.K A H w v) :
  EndV X.w X.K A H (S.set i (.lst ws)) w v (bM H p (.lst us)):=by
 obtain⟨so',ex⟩:=so.write (jB e) ea r;exact#[A,ex,so',rw'.mono ex]
def ma:kY X "list.append" gQ:=by
 intro J s Y H A S x a u xs vs us w S' I so rx ru rl rv e;cases rx with
 | ref ea=>
  cases rl with
  | nil=>cases e
  | cons r t=>
   cases t with
   | cons _ _=>cases e
   | nil=>
    dsimp only[gQ]at e;split at e
    ·rename_i ys hy;split at e
     ·rename_i hl;cases e;obtain⟨vs',h1,r1⟩:=ec so hy ea;rw[r1.length]at hl;exact MtR.go rN I ru rv #[_,_,_,rfl,rfl,h1,hl,iz so hy ea (r1.append #v[r]) .non]
     ·cases e
    ·cases e
 | _=>cases e
abbrev gR (x:W)(xs:GD W)(S:aa):GN (W×aa):=match x,xs with
 | .ref i,[.ref j]=>match nj S i,nj S j with
  | some ys,gV zs=>if ys.length+zs.length<=sizeLine then gV (.non,S.set i (.lst (ys++zs)))else td
  | _,_=>td
 | _,_=>td
def md:kY X "list.extend" gR:=by
 intro J s Y H A S x a u xs vs us w S' I so rx ru rl rv e;cases rx with
 | ref ea=>
  cases rl with
  | nil=>cases e
  | cons r t=>
   cases t with
   | cons _ _=>cases r <;> cases e
   | nil=>
    cases r with
    | ref eb=>
     dsimp only[gR]at e;split at e
     ·rename_i ys zs hy hz;split at e
      ·rename_i hl;cases e;obtain⟨vs',h1,r1⟩:=ec so hy ea;obtain⟨vs2,h2,r2⟩:=ec so hz eb;rw[r1.length,r2.length]at hl;exact MtR.go rO I ru rv #[_,_,_,_,rfl,rfl,h1,h2,hl,iz so hy ea (r1.append r2) .non]
      ·cases e
     ·cases e
    | _=>cases e
 | _=>cases e
abbrev yc (x:W)(xs:GD W)(S:aa):GN (W×aa):=match x,xs with
 | .ref i,[.int k]=>match nj S i with
  | some ys=>if -(2 ^ 63)<=k/\k < 2 ^ 63 then match seqIndex? k ys.length with
   | some j=>match ys[j]? with
    | some y=>gV (y,S.set i (.lst (ys.eraseIdx j)))
    | none=>td
   | none=>td
   else td
  | none=>td
 | _,_=>td
def rZ:kY X "list.pop" yc:=by
 intro J s Y H A S x a u xs vs us w S' I so rx ru rl rv e;cases rx with
 | ref ea=>
  cases rl with
  | nil=>cases e
  | cons r t=>
   cases t with
   | cons _ _=>cases r <;> cases e
   | nil=>
    cases r with
    | int=>
     dsimp only[yc]at e;split at e
     ·rename_i ys hy;split at e
      ·rename_i hk;split at e
       ·rename_i j hj;split at e
        ·rename_i y hyj;cases e;obtain⟨vs',h1,r1⟩:=ec so hy ea;obtain⟨v',h2,r2⟩:=r1.get hyj;rw[r1.length]at hj;exact MtR.go tZ I ru rv #[_,_,_,_,_,rfl,rfl,h1,hk.1,hk.2,hj,h2,iz so hy ea (r1.eraseIdx j) r2]
        ·cases e
       ·cases e
      ·cases e
     ·cases e
    | _=>cases e
 | _=>cases e
def iA {Mqa:O3}{A:HE}{E:GK->GL->Prop}{s:GL}{β:Type}{m:GP}(f:GP->β->O4 (ForInStep β))(I:GP->β->GL->Prop)(Q:β->GL->Prop)
  (turn:∀i b s,i < m->I i b s->wpAny Mqa A (f i b) (λr s'=>match r with|.yield b'=>I (i+1) b' s'|.done b'=>Q b' s') E s)
  (fin:∀b s,I m b s->Q b s) (b:β) (h:I 0 b s):wpAny Mqa A (forIn [0:m] b f) Q E s:=by
 rw[Std.Legacy.Range.forIn_eq_forIn_range'];simp only[Std.Legacy.Range.size,Nx,M9,Nat.div_one];show LL _ (λcx b s'=>∃i,i<=m/\cx=Pb i (m - i)/\I i b s') _ ?_ ?_ _ _ #[0,IB _,by simp,h]
 ·rintro x cx b s' ⟨i,hi,hr,hI⟩;have hlt:i < m:=by
   rcases Ny i m with h|h
   ·exact h
   ·rw[Nat.sub_eq_zero_of_le h]at hr; simp at hr
  obtain⟨rfl,hrest⟩ : x=i/\cx=Pb (i+1) (m - (i+1)):=by
   have e:m - i=(m - (i+1))+1:=∅
   rw[e,NR]at hr;injection hr with h1 h2
   exact#[h1,h2]
  show IW (turn x b s' hlt hI) (λr s2 hr2=>?_) λ_ _ e=>e
  cases r with
  | yield b'=>exact#[x+1,hlt,hrest,hr2]
  | done b'=>exact hr2
 ·rintro b s' ⟨i,hi,hr,hI⟩;have:i=m:=by
   rcases Ny i m with h|h
   ·have e:m - i=(m - (i+1))+1:=∅
    rw[e,NR]at hr; cases hr
   ·omega
  exact fin b s' (this ▸ hI)
open SeqAt in
def kH (l:GU)(items:HR GK)(n:GP)(dd:GN GU)(sl:HR (GN GK))(x:GK)(e:GK->Hj)(j:GP)(hj:j < items.size)
  (hit:e items[j]=true) (hno:∀m (hm:m < items.size),m < j->e items[m]=false) :
  Meets (LZ.«tuple.index» #[[.ref l,x],[]])
   (λA R s=>s.heap.get? l=gV { cls:=.type "tuple",dict:=dd,data:=.seq items n,slots:=sl }/\(∀y,y∈items->EqAt A.in1 s y x (e y))/\R (.ok (.ret (.int j s.toks))) { s with toks:=s.toks+1 }):=
 .of_wp λprog w A R s h=>by
  obtain⟨hp,g,d,tk,os⟩:=s; obtain⟨hl,he,h⟩:=h
  wp_walk using Kx hl,iA _ (λi b s'=>b.1=td/\s'=#[hp,g,d,tk,os]/\i<=j) _
  case turn=>
   rintro i b s' hi ⟨hb,rfl,hij⟩;have hi2:i < items.size:=∅
   rw[Km hi2];show GH (he _ (Array.getElem_mem hi2) prog w _ _ ?_)
   by_cases ej:i=j
   ·subst ej;rw[hit]
    wp_walk
    exact#[_,rfl,h]
   ·rw[hno i hi2 ∅]
    wp_walk
    exact#[rfl,rfl,∅]
  case fin=>
   rintro b s' ⟨hb,rfl,hij⟩;rw[Ju]at hij;omega
  case h=>exact#[rfl,rfl,IB _]
def mf {A:GD GU}{H:Hp}:∀ {ws:GD W} {vs:GD V} {us:GD GK},RelL X.K A H ws vs->Vals vs us->ws.all bU=true->∀(j:GP) (h:j < us.length) (h':j < ws.length),ny .non us[j]=nC ws[j] .non
 | _,_,_,.nil,.nil,_,j,h,_=>absurd h (Ob _)
 | _,_,_,.cons r t,.cons q p,f,j,h,h'=>by
  rw[HF,GQ]at f;cases j with
  | zero=>exact(pg q (jD r f.1)).trans (qx r .non f.1 rfl)
  | succ j=>exact mf t p f.2 j (L0 h) (L0 h')
abbrev gS (x:W)(xs:GD W)(S:aa):GN (W×aa):=match x,xs with
 | .tup ys,[.non]=>if ys.all bU then(ys.findIdx? λz=>nC z .non).map λj=>(.int (j:GP),S)else td
 | _,_=>td
def nD:kY X "tuple.index" gS:=by
 intro J s Y H A S x a u xs vs us w S' I so rx ru rl rv e;cases rx with
 | tup hq r1=>
  cases rl with
  | nil=>cases e
  | cons r t=>
   cases t with
   | cons _ _=>cases r <;> cases e
   | nil=>
    cases r with
    | non=>
     dsimp only[gS]at e;split at e
     ·rename_i hf;rw[GM]at e;obtain⟨j,hj,e⟩:=e;cases e;cases ru;obtain⟨u',rfl,q'⟩:=rv.one;cases(show u'=HZ from q')
      obtain⟨its,r2,⟨⟨cls,dd,data,sl⟩,eo,hc,n,hd⟩,hz⟩:=I.tuple hq;dsimp only at hc hd;subst hc hd;have hl:its.length=_:=r2.length.symm.trans r1.length.symm;obtain⟨hj1,hj2,hj3⟩:=JF.mp hj;show KW LC #[_,eo,rfl] PySem.F.entry_tuple_index (PySem.F.args_tuple_index_2 _ _) (kH _ its.toArray n dd sl .none (ny .non) j (by rw[G9,hl]; exact hj1) ?_ λm hm h=>?_) #[eo,λy hy=>ey (x:=.non) rfl rfl r2 (iy r1 hf) y (by simpa using hy),#[.int _,H,A,I.tok _,#[_,rfl],.refl,so,.int]]
      ·exact(mf r1 r2 hf j (by rw[hl]; exact hj1) hj1).trans hj2
      ·have hm':m < its.length:=by simpa using hm
       exact(mf r1 r2 hf m hm' (by rw[<- hl]; exact hm')).trans (by simpa using hj3 m h)
     ·cases e
    | _=>cases e
 | _=>cases e
abbrev cX (S:aa):W->GN Hj
 | .non=>gV false
 | .bl b=>gV b
 | .int i=>gV (i != 0)
 | .str y=>if y.length<=sizeLine then gV ((y.length:G0) != 0)else td
 | .tup xs=>gV (!xs.isEmpty)
 | .ref i=>(gz S i).map λxs=>!xs.isEmpty
def i4 {ws:GD W}{vs:GD V}(r:RelL X.K A H ws vs):(!ws.isEmpty) = !vs.isEmpty:=by cases r <;> rfl
def Fx {x:W}{a:V}{u:GK}{k:Hj}{Q:Hj->GL->Prop}(I:Inv X J Y H s)(so:StoreOk X.w X.K A H S)(rx:Rel X.K A H x a)(ru:RelV a u)(e:cX S x=gV k)(hq:∀s',Inv X J Y H s'->Q k s') :
  wpAny (model X.prog X.w) X.A (truthy u) Q X.xe s:=by
 show bm (A7 J s Y H a u (λb H'=>b=k/\H'=H) I ru #[k,?_,rfl,rfl]) λb s' #[H',I',e1,e2]=>?_
 ·cases rx with
  | non=>cases e; rfl
  | bl=>cases e; rfl
  | int=>cases e; rfl
  | str=>
   simp only[cX]at e;split at e
   ·cases e; exact#[by assumption,rfl]
   ·cases e
  | tup h1 r1=>cases e; exact .inr (.inl #[_,h1,i4 r1])
  | ref ea=>
   simp only[cX,GM]at e;obtain⟨ws,hw,e2⟩:=e;subst e2;obtain⟨vs,h1,r1⟩:=cy so hw ea;exact .inl #[_,h1,i4 r1]
 ·subst e1 e2;exact hq s' I'
end
section
variable{α:Type}{prog:Hx}{w:HL}{A:HE}{E:GK->GL->Prop}{s:GL}
def nE:∀ {l:GD α} {i:GP} (h:i < l.length),(l[i]::l.eraseIdx i).Perm l
 | x::l,0,_=>.refl _
 | x::l,i+1,h=>(PN _ _ _).trans ((nE (l:=l) (i:=i) (by simpa using h)).cons x)
end
abbrev ut (S:aa)(i:GP):GN (G0×G0):=match S[i]? with
 | some (.rng lo hi)=>gV (lo,hi)
 | _=>td
abbrev mh (xs:GD W)(S:aa):GN (W×aa):=match xs with
 | [.int j]=>if -(2 ^ 62)<=j/\j < 2 ^ 62 then gV (.ref S.length,S++[.rng 0 j])else td
 | _=>td
abbrev yd (lo:G0)(n:GP):GD W:=(G8 n).map λ(k:GP)=>.int (lo+(k:G0))
abbrev i5 (xs:GD W)(S:aa):GN (W×aa):=match xs with
 | [.ref i]=>match ut S i with
  | some (lo,hi)=>if -(2 ^ 62)<=lo/\lo < 2 ^ 62/\-(2 ^ 62)<=hi/\hi < 2 ^ 62/\(hi - lo).toNat<=sizeLine then gV (.ref S.length,S++[.lst (yd lo (hi - lo).toNat)])else td
  | none=>gw [.ref i] S
 | xs=>gw xs S
section
variable{X:Cx}{J:GD (GU×IM)}{Y:L2.St}{H:Hp}{s:GL}{A:GD GU}{S:aa}
def Inv.drawn (I:Inv X J Y H s)(d:PM):Inv X J Y H { s with drawn:=d }:=#[I.ok,I.os,I.bare,I.base,I.loc,I.cell,I.free,I.freeC,I.pin,I.hok,I.len]
def nF {h':HX}{tk:GP}{dr:PM}{D:GU}{n:O}{u:HO}(I:Inv X J Y H s)(so:StoreOk X.w X.K A H S)(hk:∀b o,s.heap.get? b=gV o->h'.get? b=gV o)(hD:s.heap.objs.size<=D)(new:ObjOk X.prog X.w (bM H D u) h' D u)
  (r:H D=td->ObjRel X.w X.K (A++[D]) (bM H D u) D n):PostE X J Y A H (S++[n]) (.ref S.length) (.ref D) { s with heap:=h',toks:=tk,drawn:=dr }:=by
 have hn:H D=td:=I.hok.fresh hD;show#[.ref D,_,A++[D],Mi.Inv.drawn (I.laid (a:=D) (o:=u) (t':=tk) hk hD new) dr,rfl,dQ hn,so.pushO hn (r hn),.ref ?_];rw[<- so.len]; simp
def mj:∀ {vs:GD V} {us:GD GK},vs.length=us.length->(∀(i:GP) v u,vs[i]?=gV v->us[i]?=gV u->L2.RelV v u)->Vals vs us
 | [],[],_,_=>.nil
 | v::vs,u::us,hl,h=>.cons (h 0 v u rfl rfl) (mj (by simpa using hl) λi v u a b=>h (i+1) v u (by simpa using a) (by simpa using b))
 | [],_::_,hl,_=>by cases hl
 | _::_,[],hl,_=>by cases hl
def mn {K:G4}{lo:G0}:∀(l:GD GP),RelL K A H (l.map λ(k:GP)=>W.int (lo+(k:G0))) (l.map λ(k:GP)=>V.int (lo+(k:G0)))
 | []=>.nil
 | _::l=>.cons .int (mn l)
def qB {xs:GD W}{vs:GD V}{us:GD GK}{i:GP}(rl:RelL X.K A H [.ref i] vs)(rv:Vals vs us):∃a,A[i]?=gV a/\us=[.ref a]:=by
 cases rl with
 | cons r t=>
  cases t;cases r with
  | @ref _ a ea=>
   cases rv with
   | cons ru rv=>
    cases rv;obtain rfl:_=HQ a:=ru;exact#[a,ea,rfl]
def nG:LCall X (.type "range") mh:=by
 intro J s Y H A S xs vs us w S' I so rl rv e;unfold mh at e;split at e
 ·rename_i j;split at e
  ·rename_i hb;cases e;cases rl with
   | cons r t=>
    cases t;cases r;cases rv with
    | cons ru rv=>
     cases rv;obtain⟨tk,rfl⟩:=ru;exact OW (nF (dr:=s.drawn) (u:=.rng 0 j) I so (λb o e=>GR _ e) (G3 _) #[_,_,_,He _ rfl] λ_=>aY)
  ·cases e
 ·cases e
def nH (hh:X.A.handled=td):LCall X (.type "list") i5:=by
 intro J s Y H A S xs vs us w S' I so rl rv e;unfold i5 at e;split at e
 ·rename_i i;split at e
  ·rename_i lo hi hr;split at e
   ·rename_i hb;cases e;obtain⟨a,ea,rfl⟩:=qB (xs:=[]) rl rv;obtain⟨b1,b2,b3,b4,b5⟩:=hb;have hH:H a=gV (.rng lo hi):=by
     unfold ut at hr;split at hr
     ·rename_i hx; cases hr; exact so.obj i _ a hx ea
     ·cases hr
    obtain⟨t,u,v,ho⟩:=I.hok a _ hH;have hn:IX lo hi 1=((hi - lo).toNat:GP):=by rw[MS]; split <;> omega
    show call_list_range hh ho (OU b1 b2 b3 b4) hn b5 λh' tk acc c hk hD hacc=>?_
    have hv:Vals ((G8 (hi - lo).toNat).map λ(k:GP)=>V.int (lo+(k:G0))) acc.toList:=by
     show mj (by rw[GF,Hq,HG,hacc.1]) λi v u e1 e2=>?_
     rw[GV,GM]at e1;obtain⟨k,e1,rfl⟩:=e1;obtain⟨hk,rfl⟩:=G5.mp e1;obtain⟨t,rfl⟩:=hacc.2 i u (by rw[<- IN]; exact e2)
     exact#[t,by simp]
    show nF (dr:=s.drawn) (u:=.lst ((G8 (hi - lo).toNat).map λ(k:GP)=>V.int (lo+(k:G0)))) I so hk (G3 _) #[by simpa using b5,acc.toList,c,hv,by simpa using hD] λhn=>#[_,aY,?_]
    exact mn _
   ·cases e
  ·exact gA J s Y H A S _ vs us w S' I so rl rv e
 ·exact gA J s Y H A S _ vs us w S' I so rl rv e
end
mutual
inductive IsT (h:HX):T->GK->Prop
 | int {i:G0} {t:PX}:IsT h (.int i) (.int i t)
 | str {x:Hc} {t:PX}:IsT h (.str x) (.str x t)
 | tup {ks:GD T} {a:GU} {o:IM} {items:HR GK} {n:GP}:h.get? a=gV o->o.cls=.type "tuple"->o.data=.seq items n->IsTs h ks items.toList->IsT h (.tup ks) (.ref a)
inductive IsTs (h:HX):GD T->GD GK->Prop
 | nil:IsTs h [] []
 | cons {k:T} {v:GK} {ks:GD T} {vs:GD GK}:IsT h k v->IsTs h ks vs->IsTs h (k::ks) (v::vs)
end
mutual
theorem IsT.inj {h:HX}:∀ {x y:T} {v:GK},IsT h x v->IsT h y v->x=y
 | _,_,_,.int,h2=>by cases h2; rfl
 | _,_,_,.str,h2=>by cases h2; rfl
 | _,_,_,.tup a1 _ d1 t1,h2=>by
  cases h2 with
  | tup a2 _ d2 t2=>
   rw[a1]at a2; cases a2
   rw[d1]at d2; cases d2
   rw[IsTs.inj t1 t2]
theorem IsTs.inj {h:HX}:∀ {x y:GD T} {v:GD GK},IsTs h x v->IsTs h y v->x=y
 | _,_,_,.nil,h2=>by cases h2; rfl
 | _,_,_,.cons a b,h2=>by
  cases h2 with
  | cons c d=>rw[IsT.inj a c,IsTs.inj b d]
end
mutual
theorem IsT.keeps {h h':HX}{d:GU}{o:IM}{es:HR Jn}{ep:GP}(ho:h.get? d=gV o)(hd:o.data=.dict es ep)(hs:JJ d h h'):∀ {x:T} {v:GK},IsT h x v->IsT h' x v
 | _,_,.int=>.int
 | _,_,.str=>.str
 | _,_,.tup (a:=a) a1 c1 d1 t1=>by
  have hne:a≠d:=by
   rintro rfl;rw[a1]at ho; cases ho
   rw[d1]at hd; cases hd
  exact .tup ((hs.2 a hne).trans a1) c1 d1 (IsTs.keeps ho hd hs t1)
theorem IsTs.keeps {h h':HX}{d:GU}{o:IM}{es:HR Jn}{ep:GP}(ho:h.get? d=gV o)(hd:o.data=.dict es ep)(hs:JJ d h h'):∀ {x:GD T} {v:GD GK},IsTs h x v->IsTs h' x v
 | _,_,.nil=>.nil
 | _,_,.cons a b=>.cons (IsT.keeps ho hd hs a) (IsTs.keeps ho hd hs b)
end
def IsTs.length {h:HX}:∀ {x:GD T} {v:GD GK},IsTs h x v->x.length=v.length
 | _,_,.nil=>rfl
 | _,_,.cons _ b=>by simp[IsTs.length b]
def IsTs.get {h:HX}:∀ {x:GD T} {v:GD GK},IsTs h x v->∀(j:GP) (h1:j < x.length) (h2:j < v.length),IsT h x[j] v[j]
 | _,_,.cons a _,0,_,_=>a
 | _,_,.cons _ b,j+1,h1,h2=>IsTs.get b j (by simpa using h1) (by simpa using h2)
def dR:∀ {ks:GD T} (j:GP) (h:j < ks.length),(ks[j]).depth<=T.depths ks
 | k::ks,0,_=>by simp only[T.depths,List.getElem_cons_zero]; omega
 | k::ks,j+1,h=>by
  have:=dR (ks:=ks) j (by simpa using h)
  simp only[T.depths,List.getElem_cons_succ]; omega
section
variable{prog:Hx}{w:HL}{E:GK->GL->Prop}
mutual
theorem nI:∀(k:T) (v:GK) (A:HE) (s:GL) (Q:G0->GL->Prop),IsT s.heap k v->A.units+k.depth < cLine->Q (nA w k) { s with toks:=s.toks+k.draws }->wpAny (model prog w) A (pyHash v) Q E s
 | .int i,_,A,s,Q,x,_,h=>by cases x; exact NJ h
 | .str y,_,A,s,Q,x,_,h=>by cases x; exact NK h
 | .tup ks,_,A,s,Q,x,hu,h=>by
  cases x with
  | @tup _ a o items n hg hc hd hw=>
   simp only[T.depth]at hu;show PySem.W.pyHash_slot (T:="tuple") #[_,hg,hc] F.slot_tuple_hash F.entry_tuple_hash (F.args_tuple_hash_1 _) (beq_builtin_none _) (.inr ∅) ?_
   change wpAny _ _ (Kh (.ref a) >>= _) _ _ s;show GH (wpAny_tupleItemsOf hg hd ?_);show GH ?_;rw[<- Na];show jF ks items.toList A.in1 s #[] _ hw (by rw[be]; omega) λb hb=>?_
   change wpAny _ _ (retInt (Ln b.toList)) _ _ _;rw[hb];show GH (N3 (GX #[_,_,rfl,?_]))
   simpa [T.draws,OM,nA]using h
theorem jF:∀(ks:GD T) (vs:GD GK) (A:HE) (s:GL) (b:HR G0) (Q:HR G0->GL->Prop),IsTs s.heap ks vs->A.units+T.depths ks < cLine->
  (∀b',b'.toList=b.toList++jA w ks->Q b' { s with toks:=s.toks+T.drawss ks })->
  wpAny (model prog w) A (forIn vs b λx r=>do let h <- pyHash x; pure Nb; pure (IU (r.push h))) Q E s
 | [],_,A,s,b,Q,x,_,h=>by cases x; exact GX (h b (by simp[jA]))
 | k::ks,_,A,s,b,Q,x,hu,h=>by
  cases x with
  | cons x1 x2=>
   simp only[T.depths]at hu;rw[Ma];show GH (GH (nI k _ A s _ x1 ∅ ?_))
   show GH (GX (GX ?_));show jF ks _ A _ _ Q x2 ∅ λb' hb=>?_
   have:=h b' (by simp[hb,jA])
   simpa [T.drawss,OM]using this
end
open SeqAt in
def r0:∀(d:GP) (x y:T) (u v:GK) (B:HE) (s:GL),x.depth<=d->IsT s.heap x u->IsT s.heap y v->B.units+d < cLine->B.units+y.depth < cLine->EqAt B s u v (decide (x=y))
 | d,.int i,y,_,_,B,s,_,h1,h2,hu,hv=>by
  cases h1;cases h2 with
  | int=>
   rename_i j t2;have:decide (T.int i=T.int j)=(i==j):=by by_cases e:i=j <;> simp[e]
   rw[this]; exact .int_int _ _ _ _
  | str=>rw[Hz (by simp)]; exact .int_str _ _ _ _
  | tup a c dd t=>rw[Hz (by simp)]; exact .int_tuple _ _ #[_,a,c,_,dd] (by simp only[T.depth]at hv; omega)
 | d,.str z,y,_,_,B,s,_,h1,h2,hu,hv=>by
  cases h1;cases h2 with
  | int=>rw[Hz (by simp)]; exact .str_int _ _ _ _
  | str=>
   rename_i z2 t2;have:decide (T.str z=T.str z2)=(z==z2):=by by_cases e:z=z2 <;> simp[e]
   rw[this]; exact .str_str _ _ _ _
  | tup a c dd t=>rw[Hz (by simp)]; exact .str_tuple _ _ #[_,a,c,_,dd] (by simp only[T.depth]at hv; omega)
 | 0,.tup ks,y,_,_,B,s,hd,h1,h2,hu,hv=>by simp[T.depth]at hd
 | d+1,.tup ks,y,_,_,B,s,hd,h1,h2,hu,hv=>by
  have h1':=h1;cases h1 with
  | @tup _ a o items n a1 c1 d1 t1=>
   have hT:s.heap.IsTuple a items:=#[_,a1,c1,_,d1];simp only[T.depth]at hd;cases h2 with
   | int=>rw[Hz (by simp)]; exact .tuple_int _ _ hT ∅
   | str=>rw[Hz (by simp)]; exact .tuple_str _ _ hT ∅
   | @tup ks2 b o2 items2 n2 a2 c2 d2 t2=>
    have hT2:s.heap.IsTuple b items2:=#[_,a2,c2,_,d2]
    by_cases hab:a=b
    ·subst hab;have:T.tup ks=T.tup ks2:=h1'.inj (.tup a2 c2 d2 t2);rw[Iu this];exact EqAt.same _
    ·show EqAt.of_refs hab ?_;simp only[T.depth]at hv;have l1:items.size=ks.length:=by rw[<- HG,t1.length]
     have l2:items2.size=ks2.length:=by rw[<- HG,t2.length]
     let e:GP->Hj:=λj=>if h:j < ks.length/\j < ks2.length then decide (ks[j]'h.1=ks2[j]'h.2)else true
     have he:∀j (h1:j < items.size) (h2:j < items2.size),EqAt B.in1 s items[j] items2[j] (e j):=λj j1 j2=>by
      have g1:=t1.get j (l1 ▸ j1) (by simpa using j1)
      have g2:=t2.get j (l2 ▸ j2) (by simpa using j2)
      have q1:=dR (ks:=ks) j (l1 ▸ j1);have q2:=dR (ks:=ks2) j (l2 ▸ j2);have:=r0 d _ _ _ _ B.in1 s ∅ g1 g2 (by rw[be]; omega) (by rw[be]; omega)
      change EqAt B.in1 s items[j] items2[j] (if h:j < ks.length/\j < ks2.length then decide (ks[j]'h.1=ks2[j]'h.2)else true)
      rw[Pz #[l1 ▸ j1,l2 ▸ j2]]
      simpa using this
     have:=RcAt.tuples hT hT2 ∅ he
     have hk:((G8 (min items.size items2.size)).all e&&items.size==items2.size)=decide (T.tup ks=T.tup ks2):=by
      rw[l1,l2]
      by_cases hl:ks.length=ks2.length
      ·by_cases hq:ks=ks2
       ·subst hq;simp only[Ju,Ip,LD,decide_true,Hk,Hd];intro j hj;show(if h:j < ks.length/\j < ks.length then decide (ks[j]'h.1=ks[j]'h.2)else true)=true
        rw[Pz #[hj,hj]]; simp
       ·rw[Hz (by simpa using hq)]
        have:∃j,∃h:j < ks.length,ks[j]≠ks2[j]'(hl ▸ h):=by
         apply Lo;intro hn;exact hq (KY hl λj h1 h2=>Lo λz=>hn #[j,h1,z])
        obtain⟨j,hj,hne⟩:=this;rw[Kc];apply Or.inl;rw[Nz];show#[j,by rw[Hd,<- hl,Ju]; exact hj,?_]
        show ¬ (if h:j < ks.length/\j < ks2.length then decide (ks[j]'h.1=ks2[j]'h.2)else true)=true
        rw[Pz #[hj,hl ▸ hj]]
        simpa using hne
      ·rw[Hz (by simp; intro z; exact hl (by rw[z])),Kc]
       right
       simpa using hl
     rw[hk]at this;exact this
def kZ {n:GP}{v:GK}(h:∀a,v≠.ref a):eqIsQuiet n v=pure true:=by
 cases v with
 | ref a=>exact absurd rfl (h a)
 | _=>first|rfl|simp[eqIsQuiet]|(unfold eqIsQuiet; rfl)
def qC:∀(d:GP) (k:T) (v:GK) (A:HE) (s:GL) (Q:Hj->GL->Prop),k.depth<=d->IsT s.heap k v->Q true s->wpAny (model prog w) A (eqIsQuiet d v) Q E s
 | d,.int i,_,A,s,Q,_,x,h=>by cases x; rw[kZ (λa=>by simp)]; exact GX h
 | d,.str i,_,A,s,Q,_,x,h=>by cases x; rw[kZ (λa=>by simp)]; exact GX h
 | 0,.tup ks,_,A,s,Q,hd,x,h=>by simp[T.depth]at hd
 | d+1,.tup ks,_,A,s,Q,hd,x,h=>by
  cases x with
  | @tup _ a o items n ho hc hdt hi=>
   simp only[T.depth]at hd;have hT:s.TypeIs (.ref a) "tuple":=#[_,ho,hc];unfold eqIsQuiet;show GH (wpAny_specialOf hT F.slot_tuple_eq.lookup ?_);change wpAny _ _ (isInstance (.ref a) (.type "tuple") >>= _) _ _ s;show GH (LM hT isSubtype_tuple_tuple ?_);simp only[MV,Ix,JL];show GH (Ki ho hdt ?_);show GH ?_;change wpAny _ _ (forIn items _ _) _ _ s;rw[<- Na];show LL _ (λcx r s'=>r.1=td/\s'=s/\∃kk,IsTs s.heap kk cx/\T.depths kk<=d) _ ?_ ?_ _ _ #[rfl,rfl,ks,hi,∅]
   ·rintro v cx r s' ⟨hr,rfl,kk,hall,hdk⟩;cases hall with
    | cons q1 q2=>
     simp only[T.depths]at hdk;show GH (qC d _ v _ _ _ ∅ q1 ?_)
     simp only[MV,Ix,JL];exact GX #[rfl,rfl,_,q2,∅]
   ·rintro⟨r1,r2⟩ s' ⟨hr,rfl,_⟩;simp only at hr;subst hr;exact GX h
end
abbrev cJ (prog:Hx)(w:HL):HeapKind prog w T where
 is:=λh k a=>IsT h k (.ref a)/\k.depth<=bg
 hash:=nA w
 draws:=T.draws
 room:=λA=>A.units+bg < cLine
 inj:=λhx hy=>hx.1.inj hy.1
 keeps:=λx ho hd hs=>#[x.1.keeps ho hd hs,x.2]
 pyHash:=λhu hk h=>nI _ _ _ _ _ hk.1 (by have:=hk.2; omega) h
 eqBool:=λhu hx hy h=>r0 bg _ _ _ _ _ _ hx.2 hx.1 hy.1 hu (by have:=hy.2; omega) _ _ _ _ h
 quiet:=λhk h=>qC 8 _ _ _ _ _ (by have:=hk.2; unfold bg at this; omega) hk.1 h
abbrev kD (S:aa)(i:GP):GN (GD (T×W)):=match S[i]? with
 | some (.dic U)=>gV U
 | some (.frd U)=>gV U
 | _=>td
abbrev nJ (S:aa)(i:GP):GN (GD (T×W)):=match S[i]? with
 | some (.dic U)=>gV U
 | _=>td
abbrev bT (U:GD (T×W))(k:T):GN W:=(U.find? λp=>decide (p.1=k)).map (·.2)
abbrev fZ (U:GD (T×W))(k:T)(v:W):GD (T×W):=
 if (U.any λp=>decide (p.1=k))=true then U.map (λp=>if p.1=k then(p.1,v)else p)else U++[(k,v)]
abbrev ji (w:W):GN T:=match W.t w with
 | some k=>if k.isTup=true/\k.depth<=bg then gV k else td
 | none=>td
def dJ {w:W}{k:T}(h:ji w=gV k):k.w=w/\k.isTup=true/\k.depth<=bg:=by
 unfold ji at h;split at h
 ·rename_i k' hk;split at h
  ·rename_i hc;cases h;exact#[W.t_w hk,hc.1,hc.2]
  ·cases h
 ·cases h
def d0 (U:GD (T×W))(k:T)(v:W):(fZ U k v).length<=U.length+1:=by
 unfold fZ;split
 ·rw[GF]; omega
 ·rw[GJ,HK,IT]; omega
section
variable{X:Cx}{J:GD (GU×IM)}{Y:L2.St}{H:Hp}{s:GL}{A:GD GU}{S:aa}
mutual
theorem mv (I:Inv X J Y H s):∀(k:T) {v:V} {u:GK},Rel X.K A H k.w v->RelV v u->IsT s.heap k u
 | .int i,_,_,r,q=>by
  cases r;obtain⟨t,rfl⟩ : ∃t,_=LI _ t:=q;exact .int
 | .str x,_,_,r,q=>by
  cases r;obtain⟨t,rfl⟩ : ∃t,_=LJ _ t:=q;exact .str
 | .tup ks,_,_,r,q=>by
  simp only[T.w]at r;cases r with
  | tup sq rl=>
   obtain⟨its,rv,⟨o,h1,h2,n,h3⟩,hz⟩:=I.tuple sq;obtain rfl:_=HQ _:=q;exact .tup h1 h2 h3 (fS I ks rl (by simpa using rv))
theorem fS (I:Inv X J Y H s):∀(ks:GD T) {vs:GD V} {us:GD GK},RelL X.K A H (T.ws ks) vs->Vals vs us->IsTs s.heap ks us
 | [],_,_,r,q=>by
  simp only[T.ws]at r;cases r; cases q; exact .nil
 | k::ks,_,_,r,q=>by
  simp only[T.ws]at r;cases r with
  | cons r1 r2=>
   cases q with
   | cons q1 q2=>exact .cons (mv I k r1 q1) (fS I ks r2 q2)
end
def iB (I:Inv X J Y H s){k:T}{b:GU}(r:Rel X.K A H k.w (.ref b))(hd:k.depth<=bg):(cJ X.prog X.w).is s.heap k b:=#[mv I k r rfl,hd]
def gT {w:W}{k:T}{v:V}{u:GK}(hk:ji w=gV k)(r:Rel X.K A H w v)(q:RelV v u):∃b,v=.ref b/\u=.ref b/\Rel X.K A H k.w (.ref b):=by
 obtain⟨h1,h2,h3⟩:=dJ hk;subst h1;cases k with
 | tup ks=>
  simp only[T.w]at r;cases r with
  | tup a b=>exact#[_,rfl,q,by simp only[T.w]; exact .tup a b]
 | _=>cases h2
def KRel.is {U:GD (T×W)}{xs:GD (T×GU×GK)}(I:Inv X J Y H s)(r:KRel X.K A H U xs):∀x∈xs,(cJ X.prog X.w).is s.heap x.1 x.2.1:=by
 unfold KRel at r
 induction r with
 | nil=>intro x hx; exact nomatch hx
 | @cons p q ps qs h t ih=>
  intro x hx;rcases Hn.mp hx with e|hx
  ·subst e;obtain⟨h1,h2,h3,h4,_⟩:=h;rw[h1]at h3 h4;exact iB I h4 h3
  ·exact ih x hx
def KRel.length {U:GD (T×W)}{xs:GD (T×GU×GK)}(r:KRel X.K A H U xs):U.length=xs.length:=LA r
def KRel.val {U:GD (T×W)}{xs:GD (T×GU×GK)}(r:KRel X.K A H U xs)(k:T) :
  (∀w,bT U k=gV w->∃p v,atKey xs k=gV p/\Rel X.K A H w v/\RelV v p.2)/\(bT U k=td->atKey xs k=td):=by
 unfold KRel at r
 induction r with
 | nil=>exact#[λw h=>(nomatch h),λ_=>rfl]
 | @cons p q ps qs h t ih=>
  obtain⟨h1,_,_,_,v,h5,h6⟩:=h
  by_cases e:p.1=k
  ·have e':q.1=k:=h1.symm.trans e;have a1:bT (p::ps) k=gV p.2:=by simp[bT,J7,e]
   have a2:atKey (q::qs) k=gV q.2:=by simp[atKey,J7,e']
   rw[a1,a2];exact#[λw hw=>(by cases hw; exact#[_,v,rfl,h5,h6]),λh=>nomatch h]
  ·have e':¬ q.1=k:=λz=>e (h1.trans z)
   have a1:bT (p::ps) k=bT ps k:=by simp[bT,J7,e]
   have a2:atKey (q::qs) k=atKey qs k:=by simp[atKey,J7,e']
   rw[a1,a2];exact ih
def KRel.repl {U:GD (T×W)}{xs:GD (T×GU×GK)}(r:KRel X.K A H U xs)(k:T){w:W}{v:V}{u:GK}(rw':Rel X.K A H w v)(rv:RelV v u) :
  KRel X.K A H (U.map λp=>if p.1=k then(p.1,w)else p) (xs.map (putAt k u)):=by
 unfold KRel at r ⊢
 induction r with
 | nil=>exact .nil
 | @cons p q ps qs h t ih=>
  rw[Ir,Ir];show .cons ?_ ih;obtain⟨h1,h2,h3,h4,h5⟩:=h;unfold putAt
  by_cases e:p.1=k
  ·rw[Ho e,Ho (h1.symm.trans e)]; exact#[h1,h2,h3,h4,v,rw',rv]
  ·rw[HD e,HD (λz=>e (h1.trans z))]; exact#[h1,h2,h3,h4,h5]
def nK (k:T):∀U:GD (T×W),(U.any λp=>decide (p.1=k))=(bT U k).isSome
 | []=>rfl
 | p::r=>by
  rw[Jw]
  by_cases e:p.1=k
  ·have a1:bT (p::r) k=gV p.2:=by simp[bT,J7,e]
   rw[a1,Iu e]; rfl
  ·have a1:bT (p::r) k=bT r k:=by simp[bT,J7,e]
   rw[a1,Hz e,MW]; exact nK k r
def KRel.put {U:GD (T×W)}{xs:GD (T×GU×GK)}(r:KRel X.K A H U xs){k:T}{b:GU}{w:W}{v:V}{u:GK}(h1:k.isTup=true)(h2:k.depth<=bg)(h3:Rel X.K A H k.w (.ref b))(rw':Rel X.K A H w v)(rv:RelV v u) :
  KRel X.K A H (fZ U k w) (storedH xs k b u):=by
 have e:(U.any λp=>decide (p.1=k))=(atKey xs k).isSome:=by
  rw[nK];cases q:bT U k with
  | none=>rw[(r.val k).2 q]; rfl
  | some x=>obtain⟨p,_,h,_⟩:=(r.val k).1 x q; rw[h]; rfl
 unfold fZ storedH;rw[e]
 by_cases q:(atKey xs k).isSome=true
 ·rw[Ho q,Ho q]; exact r.repl k rw' rv
 ·rw[HD q,HD q]; exact Paired.snoc r #[rfl,h1,h2,h3,v,rw',rv]
def DicAt.of {h:HX}{a:GU}{xs:GD (T×GU×GK)}(hz:xs.length<=sizeLine)(hs:(a==sysModules)=false)(d:h.DictOfH (cJ X.prog X.w) a xs):DicAt X.w a xs h:=
 let ⟨o,es,ep,h1,h2,h3,h4,_,h6⟩:=d; #[hz,hs,h6,o,es,ep,h1,h2,h3,h4]
def DicAt.stay {wd:HL}{h h':HX}{a:GU}{xs:GD (T×GU×GK)}(d:DicAt wd a xs h)(k:∀o,h.get? a=gV o->h'.get? a=gV o):DicAt wd a xs h':=
 let ⟨h0,hs,hn,o,es,ep,h1,h2⟩:=d; #[h0,hs,hn,o,es,ep,k _ h1,h2]
def DicAt.ok {P:Hx}{h:HX}{wd:HL}{a:GU}{xs:GD (T×GU×GK)}(d:DicAt wd a xs h):ObjOk P wd H h a (dP wd a xs):=
 #[d,let ⟨_,_,_,o,_,_,h1,_⟩:=d; #[o,h1],λ_ _ p k=>p.stay k]
def cu {a:GU}{xs:GD (T×GU×GK)}(I:Inv X J Y H s)(e:Rd H a (dP X.w a xs)):DicAt X.w a xs s.heap:=(show ObjOk X.prog X.w H s.heap a (dP X.w a xs)from e.ok I.hok).1
def DicAt.dict {U:GD (T×W)}{a:GU}{xs:GD (T×GU×GK)}(d:DicAt X.w a xs s.heap)(I:Inv X J Y H s)(r:KRel X.K A H U xs):s.heap.DictOfH (cJ X.prog X.w) a xs:=
 let ⟨_,_,hn,o,es,ep,h1,h2,h3,h4⟩:=d; #[o,es,ep,h1,h2,h3,h4,r.is I,hn]
def fD {i:GP}{U:GD (T×W)}{a:GU}(so:StoreOk X.w X.K A H S)(e:kD S i=gV U)(ea:A[i]?=gV a):∃xs,Rd H a (dP X.w a xs)/\KRel X.K A H U xs:=by
 unfold kD at e;split at e
 ·rename_i k h;cases e;obtain⟨xs,q,r⟩:=so.obj i _ a h ea;exact#[xs,.inl q,r]
 ·rename_i k h;cases e;obtain⟨o,xs,q,r⟩:=so.obj i _ a h ea;exact#[xs,.inr #[o,q],r]
 ·cases e
def gU {i:GP}{U:GD (T×W)}(e:nJ S i=gV U):S[i]?=gV (.dic U):=by
 unfold nJ at e;split at e
 ·rename_i h; cases e; exact h
 ·cases e
def qD {i:GP}{U:GD (T×W)}{a:GU}(so:StoreOk X.w X.K A H S)(e:nJ S i=gV U)(ea:A[i]?=gV a):∃xs,H a=gV (dP X.w a xs)/\KRel X.K A H U xs:=
 so.obj i _ a (gU e) ea
def nL {B:HE}(hu:B.units+10 < cLine):(cJ X.prog X.w).room B.in1:=by
 change B.in1.units+bg < cLine;rw[be]; unfold bg; omega
abbrev gW (x y:W)(S:aa):GN (W×aa):=match x,y with
 | .ref r,.tup ks=>match kD S r,ji (.tup ks)with
  | some U,gV k=>(bT U k).map λw=>(w,S)
  | _,_=>td
 | x,y=>rV x y S
def Fy (hu:X.A.units+10 < cLine):LIx X gW:=by
 intro value slice J s Y H A S x y a b u v w S' I so rx ru ry rv e hs
 by_cases hxy:∃r ks,x=.ref r/\y=.tup ks
 ·obtain⟨r,ks,rfl,rfl⟩:=hxy;simp only[gW]at e;split at e
  ·rename_i U k hk1 hk2;rw[GM]at e;obtain⟨w',e1,e2⟩:=e;cases e2;cases rx with
   | ref ea=>
    obtain⟨xs,rd,kr⟩:=fD so hk1 ea;have d:=cu I rd;have dd:=d.dict I kr;obtain⟨bk,rfl,rfl,rk⟩:=gT hk2 ry rv;obtain⟨p,vv,h1,h2,h3⟩:=(kr.val k).1 _ e1;obtain rfl:u=HQ _:=ru;show KL (x:=p.2) dd.typeIs slot_dict_getitem.lookup
     (wpAny_getItem_heap (Q:=λr s'=>r=p.2/\PostE X J Y A H S w r s') (nL hu) (iB I rk (dJ hk2).2.2) dd h1 #[rfl,vv,H,A,I.tok _,h3,.refl,so,h2]) hs
  ·cases e
 ·have:gW x y S=rV x y S:=by
   cases x <;> cases y <;> first|rfl|exact absurd #[_,_,rfl,rfl] hxy
  rw[this]at e;exact Gu hu value slice J s Y H A S x y a b u v w S' I so rx ru ry rv e hs
abbrev jj (o i v:W)(S:aa):GN aa:=match o,i with
 | .ref r,.tup ks=>match nJ S r,ji (.tup ks)with
  | some U,gV k=>if U.length < sizeLine then gV (S.set r (.dic (fZ U k v)))else td
  | _,_=>td
 | o,i=>rW o i v S
def Dm (hu:X.A.units+10 < cLine):LSet X jj:=by
 intro J s Y H A S o i x ao ai ax uo ui ux S' I so ro ruo ri rui rx rux e
 by_cases hxy:∃r ks,o=.ref r/\i=.tup ks
 ·obtain⟨r,ks,rfl,rfl⟩:=hxy;dsimp only[jj]at e;split at e
  ·rename_i U k hk1 hk2;split at e
   ·rename_i hl;cases e;cases ro with
    | ref ea=>
     obtain⟨xs,hH,kr⟩:=qD so hk1 ea;have d:=cu I (.inl hH);have dd:=d.dict I kr;obtain⟨bk,rfl,rfl,rk⟩:=gT hk2 ri rui;obtain⟨q1,q2,q3⟩:=dJ hk2;obtain rfl:uo=HQ _:=ruo;have hz:xs.length<=sizeLine:=by rw[<- kr.length]; omega
     show wpAny_setItem_heap (hsz:=hz) (nL hu) (iB I rk q3) dd λh' dd' hs=>?_
     have kr':=kr.put q2 q3 rk rx rux;have hz':(storedH xs k bk ux).length<=sizeLine:=by
      rw[<- kr'.length];have:=d0 U k x;omega
     have dn:DicAt X.w _ (storedH xs k bk ux) h':=.of hz' d.2.1 dd';obtain⟨so',ex⟩:=so.writeO (gU hk1) rfl ea (u:=dP X.w _ (storedH xs k bk ux)) (n:=.dic (fZ U k x)) #[_,aY,kr'.mono (dg (.ext hH))];exact#[_,A,l4 I (by rw[hH]; exact KZ) hs (let ⟨q,_,_,hq,_⟩:=dd'; #[q,hq]) dn.ok,ex,so']
   ·cases e
  ·cases e
 ·have:jj o i x S=rW o i x S:=by
   cases o <;> cases i <;> first|rfl|exact absurd #[_,_,rfl,rfl] hxy
  rw[this]at e;exact lset hu J s Y H A S o i x ao ai ax uo ui ux S' I so ro ruo ri rui rx rux e
abbrev uu (x:W)(xs:GD W)(S:aa):GN (W×aa):=match x,xs with
 | .ref r,[y,z]=>match kD S r,ji y with
  | some U,gV k=>gV ((bT U k).getD z,S)
  | _,_=>td
 | _,_=>td
def pk (hu:X.A.units+10 < cLine):kY X "dict.get" uu:=by
 intro J s Y H A S x a u xs vs us w S' I so rx ru rl rv e;cases rx with
 | ref ea=>
  cases rl with
  | nil=>cases e
  | cons r1 t1=>
   cases t1 with
   | nil=>cases e
   | cons r2 t2=>
    cases t2 with
    | cons _ _=>cases e
    | nil=>
     dsimp only[uu]at e;split at e
     ·rename_i U k hk1 hk2;cases e;obtain⟨xs,rd,kr⟩:=fD so hk1 ea;have d:=cu I rd;have dd:=d.dict I kr;cases rv with
      | cons v1 rv2=>
       cases rv2 with
       | cons v2 rv3=>
        cases rv3;obtain⟨bk,rfl,rfl,rk⟩:=gT hk2 r1 v1;obtain rfl:u=HQ _:=ru;show call_meetsIn Ml dd.typeIs PySem.F.entry_dict_get (PySem.F.args_dict_get_3 _ _ _) (meetsH_dict_get_default (cJ X.prog X.w) _ bk d.2.1 _) #[nL hu,k,xs,iB I rk (dJ hk2).2.2,dd,?_];cases q:bT U k with
        | none=>
         rw[(kr.val k).2 q];exact#[_,H,A,I.tok _,v2,.refl,so,r2]
        | some w'=>
         obtain⟨p,vv,h1,h2,h3⟩:=(kr.val k).1 _ q;rw[h1];exact#[vv,H,A,I.tok _,h3,.refl,so,h2]
     ·cases e
 | _=>cases e
abbrev EJ (x:W)(i:GP)(S:aa):GN Hj:=match W.t x,gz S i with
 | some k,gV ys=>match W.ts ys with
  | some ks=>if k.depth<=bg/\T.depths ks<=bg then gV (decide (k∈ks))else td
  | none=>td
 | _,_=>td
abbrev Bm (x:W)(ys:GD W):GN Hj:=match W.t x,W.ts ys with
 | some k,gV ks=>if k.depth<=bg/\T.depths ks<=bg then gV (decide (k∈ks))else td
 | _,_=>td
def mw {h:HX}:∀ {ks:GD T} {vs:GD GK},IsTs h ks vs->∀v∈vs,∃k∈ks,IsT h k v
 | _,_,.cons a b,v,hv=>by
  rcases Hn.mp hv with rfl|hv
  ·exact#[_,.head _,a]
  ·obtain⟨k,hk,q⟩:=mw b v hv;exact#[k,.tail _ hk,q]
abbrev xk (h:HX)(k:T)(v:GK):Hj:=@decide (IsT h k v) (KF _)
def po {h:HX}{k k':T}{v:GK}(x:IsT h k' v):xk h k v=decide (k'=k):=by
 unfold xk
 by_cases e:k'=k
 ·subst e; simp[x]
 ·have:¬ IsT h k v:=λy=>e (x.inj y)
  simp[e,this]
def my {h:HX}{k:T}:∀ {ks:GD T} {vs:GD GK},IsTs h ks vs->vs.any (xk h k)=decide (k∈ks)
 | _,_,.nil=>by simp
 | _,_,.cons (k:=k') a b=>by
  rw[Jw,po a,my b]
  by_cases e:k'=k
  ·simp[e]
  ·have:¬ k=k':=λz=>e z.symm
   simp[e,this]
def jG:∀ {ks:GD T} {k:T},k∈ks->k.depth<=T.depths ks
 | x::ks,k,h=>by
  simp only[T.depths];rcases Hn.mp h with rfl|h
  ·omega
  ·have:=jG h; omega
def uw {x:W}{i:GP}{a b:V}{u v:GK}{c:Hj}(hu:X.A.units+10 < cLine)(I:Inv X J Y H s)(so:StoreOk X.w X.K A H S)(rx:Rel X.K A H x a)(ru:RelV a u)(ry:Rel X.K A H (.ref i) b)(rv:RelV b v)(e:EJ x i S=gV c) :
  ∃l its k ks,v=.ref l/\s.heap.IsList l its/\(∀y,y∈its->KU X.A.in1 s y u (xk s.heap k y))/\its.any (xk s.heap k)=c/\c=decide (k∈(ks:GD T)):=by
 unfold EJ at e;split at e
 ·rename_i k ys h1 h2;split at e
  ·rename_i ks h3;split at e
   ·rename_i h4;cases e;cases ry with
    | ref ea=>
     obtain⟨vs,g1,g2⟩:=cy so h2 ea;obtain⟨its,rv',p,_⟩:=I.list g1;obtain rfl:v=HQ _:=rv;have hT:IsTs s.heap ks its:=fS I ks ((W.ts_w h3).symm ▸ g2) rv';have hk:IsT s.heap k u:=mv I k ((W.t_w h1).symm ▸ rx) ru;show#[_,its.toArray,k,ks,rfl,p.isList,λy hy=>?_,by rw[NS]; exact my hT,rfl]
     obtain⟨k',hk',q⟩:=mw hT y (by simpa using hy)
     rw[po q];have:=jG hk';have kl:bg=6:=rfl;exact r0 bg k' k _ _ _ _ ∅ q hk (by rw[be]; omega) (by rw[be]; omega)
   ·cases e
  ·cases e
 ·cases e
def ye {x:W}{ys:GD W}{a b:V}{u v:GK}{c:Hj}(hu:X.A.units+10 < cLine)(I:Inv X J Y H s)(rx:Rel X.K A H x a)(ru:RelV a u)(ry:Rel X.K A H (.tup ys) b)(rv:RelV b v)(e:Bm x ys=gV c) :
  ∃l its k,v=.ref l/\s.heap.IsTuple l its/\(∀y,y∈its->KU X.A.in1 s y u (xk s.heap k y))/\its.any (xk s.heap k)=c:=by
 unfold Bm at e;split at e
 ·rename_i k ks h1 h3;split at e
  ·rename_i h4;cases e;cases ry with
   | @tup _ l vs g1 g2=>
    obtain⟨its,rv',p,_⟩:=I.tuple g1;obtain rfl:v=HQ _:=rv;have hT:IsTs s.heap ks its:=fS I ks ((W.ts_w h3).symm ▸ g2) rv';have hk:IsT s.heap k u:=mv I k ((W.t_w h1).symm ▸ rx) ru;show#[_,its.toArray,k,rfl,p,λy hy=>?_,by rw[NS]; exact my hT]
    obtain⟨k',hk',q⟩:=mw hT y (by simpa using hy)
    rw[po q];have:=jG hk';have kl:bg=6:=rfl;exact r0 bg k' k _ _ _ _ ∅ q hk (by rw[be]; omega) (by rw[be]; omega)
  ·cases e
 ·cases e
abbrev aJ (o:COp)(x y:W)(S:aa):GN (W×aa):=match o,y with
 | .isin,.ref i=>match kD S i with
  | some U=>(ji x).map λk=>(.bl (bT U k).isSome,S)
  | none=>match x with
   | .tup xs=>(EJ (.tup xs) i S).map λb=>(.bl (b),S)
   | x=>dB .isin x (.ref i) S
 | .notin,.ref i=>match kD S i with
  | some U=>(ji x).map λk=>(.bl (!(bT U k).isSome),S)
  | none=>match x with
   | .tup xs=>(EJ (.tup xs) i S).map λb=>(.bl (!b),S)
   | x=>dB .notin x (.ref i) S
 | .isin,.tup ys=>match x with
  | .tup xs=>(Bm (.tup xs) ys).map λb=>(.bl b,S)
  | x=>dB .isin x (.tup ys) S
 | o,y=>dB o x y S
def nM (hu:X.A.units+fB < cLine)(o:COp):LOp X (compareOp o.py) (aJ o):=by
 intro J s Y H A S x y a b u v w S' I so rx ru ry rv e;have get:∀ {i:GP} {U:GD (T×W)} {k:T},y=.ref i->kD S i=gV U->ji x=gV k->∃d c xs,v=.ref d/\u=.ref c/\(d==sysModules)=false/\(cJ X.prog X.w).is s.heap k c/\s.heap.DictOfH (cJ X.prog X.w) d xs/\(bT U k).isSome=(atKey xs k).isSome:=by
  intro i U k hy hk1 hk2;subst hy;cases ry with
  | ref ea=>
   obtain⟨xs,rd,kr⟩:=fD so hk1 ea;have d:=cu I rd;obtain⟨bk,rfl,rfl,rk⟩:=gT hk2 rx ru;obtain rfl:v=HQ _:=rv;show#[_,bk,xs,rfl,rfl,d.2.1,iB I rk (dJ hk2).2.2,d.dict I kr,?_];cases q:bT U k with
   | none=>rw[(kr.val k).2 q]; rfl
   | some w'=>obtain⟨p,_,h1,_⟩:=(kr.val k).1 _ q; rw[h1]; rfl
 have old:dB o x y S=gV (w,S')->wpAny (model X.prog X.w) X.A (compareOp o.py u v) (PostE X J Y A H S' w) X.xe s:=λh=>gP hu o J s Y H A S x y a b u v w S' I so rx ru ry rv h
 have hu':X.A.units+10 < cLine:=by have:fB=20:=rfl; omega
 unfold aJ at e;split at e
 ·split at e
  ·rename_i U hk1;rw[GM]at e;obtain⟨k,hk2,e2⟩:=e;cases e2;obtain⟨d,c,xs,rfl,rfl,q1,q2,q3,q4⟩:=get rfl hk1 hk2;rw[q4];exact wpAny_in_heap (nL hu') q2 q1 q3 #[.bl _,H,A,I.tok _,rfl,.refl,so,.bl]
  ·split at e
   ·rw[GM]at e;obtain⟨c,hc,e⟩:=e;cases e;obtain⟨l,its,k,ks,rfl,p1,p2,p3,_⟩:=uw hu' I so rx ru ry rv hc;show N9 (xk s.heap k) p1 p2 ?_;rw[p3];exact#[.bl _,H,A,I,rfl,.refl,so,.bl]
   ·exact old e
 ·split at e
  ·rename_i U hk1;rw[GM]at e;obtain⟨k,hk2,e2⟩:=e;cases e2;obtain⟨d,c,xs,rfl,rfl,q1,q2,q3,q4⟩:=get rfl hk1 hk2;rw[q4];exact wpAny_notIn_heap (nL hu') q2 q1 q3 #[.bl _,H,A,I.tok _,rfl,.refl,so,.bl]
  ·split at e
   ·rw[GM]at e;obtain⟨c,hc,e⟩:=e;cases e;obtain⟨l,its,k,ks,rfl,p1,p2,p3,_⟩:=uw hu' I so rx ru ry rv hc;show M7 (xk s.heap k) p1 p2 ?_;rw[p3];exact#[.bl _,H,A,I,rfl,.refl,so,.bl]
   ·exact old e
 ·split at e
  ·rw[GM]at e;obtain⟨c,hc,e⟩:=e;cases e;obtain⟨l,its,k,rfl,p1,p2,p3⟩:=ye hu' I rx ru ry rv hc;show NP (xk s.heap k) p1 p2 ?_;rw[p3];exact#[.bl _,H,A,I,rfl,.refl,so,.bl]
  ·exact old e
 ·exact old e
end
abbrev RawD (d:GU)(es:HR Jn)(ep:GP)(h:HX):Prop:=∃o,h.get? d=gV o/\o.ExactDict/\o.data=.dict es ep
def RawD.at {d:GU}{es:HR Jn}{ep:GP}{h h':HX}(x:RawD d es ep h)(e:∀o,h.get? d=gV o->h'.get? d=gV o):RawD d es ep h':=let ⟨o,ho,r⟩:=x; #[o,e _ ho,r]
def RawD.lt {d:GU}{es:HR Jn}{ep:GP}{h:HX}(x:RawD d es ep h):d < h.objs.size:=let ⟨_,ho,_⟩:=x; Hf ho
def RawD.type {d:GU}{es:HR Jn}{ep:GP}{s:GL}(x:RawD d es ep s.heap):s.TypeIs (.ref d) "dict":=let ⟨o,ho,hc,_⟩:=x; #[o,ho,hc.1]
section
variable{prog:Hx}{w:HL}{A:HE}{E:GK->GL->Prop}{s:GL}{it d:GU}{i ep:GP}{es:HR Jn}
def nN {Q:GK->GL->Prop}(hd:(d==sysModules)=false)(hm:RawD d es ep s.heap)
  (hQ:Q (.ref s.heap.objs.size) { s with heap:=s.heap.push { cls:=.type "dict_keyiterator",data:=.fields [.ref d,.int 0 0,.int es.size 0,.int ep 0].toArray } }):wpAny (model prog w) A (pyIter (.ref d)) Q E s:=by
 have hT:=hm.type;obtain⟨o,ho,hc,hdat⟩:=id hm;show wpAny_pyIter_slot hT F.slot_dict_iter (IA F.slot_dict_iter hT F.entry_dict_iter ?_ (F.args_dict_iter_1 _));unfold LZ.«dict.__iter__» OC;show GH (GH (wpAny_notOrdered_dict hT ?_));change wpAny _ _ (pure (HQ d)) _ _ s;show GX ?_;change wpAny _ _ (Mm d >>= _) _ _ s;unfold Mm;rw[HD (by rw[hd]; exact Hb)]
 show GH (GX (GH (KO ho hdat (GH (Mb ho hdat ?_)))));show GH (HS (GX #[_,rfl,"dict_keyiterator",_,#[_,He _ rfl,rfl],F.slot_dict_keyiterator_next.lookup,?_]))
 simpa [rawInt]using hQ
def nO {Q:GN GK->GL->Prop}(hit:s.heap.IsKeyIter it d i es.size ep)(hm:RawD d es ep s.heap)(hi:i < es.size)
  (hQ:∀h',h'.IsKeyIter it d (i+1) es.size ep->JJ it s.heap h'->Q (gV es[i].key) { s with heap:=h' }):wpAny (model prog w) A (pyNext (.ref it)) Q E s:=by
 obtain⟨o,ho,hc,hd⟩:=id hit;obtain⟨od,hod,hcd,hdd⟩:=id hm;unfold pyNext;show GH (LF (Il (name:=IF "__next__") hit.typeIs F.slot_dict_keyiterator_next
  (IA F.slot_dict_keyiterator_next hit.typeIs F.entry_dict_keyiterator_next ?_ (F.args_dict_keyiterator_next_1 _))))
 show GH (GX (GH (GH ?_)))
 first|refine GH (Jm hit.typeIs (GX ?_))|refine GH (JQ hit.typeIs (GX ?_))
 show GH (Ou ho hd ?_);have hown:K6 "dict_keyiterator" = false:=by decide
 simp only[hown,Ix,JL];change wpAny _ _ (if (HQ d==HZ)=true then _ else _) _ _ s
 rw[HD (show ¬ ((HQ d==HZ)=true)from Hb)]
 show GH (GX (GH (KO hod hdd ?_)));rw[HD (by simp)]
 show GH (GX (GH (Mb hod hdd ?_)));rw[HD (by simp)]
 show GX ?_;simp only[show ¬ ((i:G0) < 0)from by omega,JL,Ha,Km hi]
 show GH ?_
 first|refine GH (Jm hit.typeIs (GX ?_))|refine GH (JQ hit.typeIs (GX ?_))
 show GH (Mn hit.typeIs ?_);change wpAny _ _ (setField (.ref it) 1 (rawInt ((i:G0)+1)) >>= _) _ _ s;show GH (Lg ho hd (by simp) ?_)
 have hit':(s.heap.update it (ON (·.setIfInBounds 1 (rawInt ((i:G0)+1))))).IsKeyIter it d (i+1) es.size ep:=
  #[_,JD _ ho (Mo (KA hd _)),(NA ..).trans hc,by rw[KA hd]; simp[rawInt]]
 show GH (IJ ?_);show GH (Mn (s:={ s with heap:=s.heap.update it (ON (·.setIfInBounds 1 (rawInt ((i:G0)+1)))) }) hit'.typeIs ?_)
 change wpAny _ _ (pure es[i].key) _ _ _;exact GX (GX #[_,rfl,GX (hQ _ hit' (Ko ..))])
def qE {Q:GN GK->GL->Prop}(hh:A.handled=td)(hit:s.heap.IsKeyIter it d i es.size ep)(hm:RawD d es ep s.heap)(hge:es.size<=i)
  (hQ:∀h',Mt it s.heap h'->Q td { s with heap:=h' }):wpAny (model prog w) A (pyNext (.ref it)) Q E s:=by
 obtain⟨o,ho,hc,hd⟩:=id hit;obtain⟨od,hod,hcd,hdd⟩:=id hm;unfold pyNext;show GH (LF (Il (name:=IF "__next__") hit.typeIs F.slot_dict_keyiterator_next
  (IA F.slot_dict_keyiterator_next hit.typeIs F.entry_dict_keyiterator_next ?_ (F.args_dict_keyiterator_next_1 _))))
 show GH (GX (GH (GH ?_)))
 first|refine GH (Jm hit.typeIs (GX ?_))|refine GH (JQ hit.typeIs (GX ?_))
 show GH (Ou ho hd ?_);have hown:K6 "dict_keyiterator" = false:=by decide
 simp only[hown,Ix,JL];change wpAny _ _ (if (HQ d==HZ)=true then _ else _) _ _ s
 rw[HD (show ¬ ((HQ d==HZ)=true)from Hb)]
 show GH (GX (GH (KO hod hdd ?_)));rw[HD (by simp)]
 show GH (GX (GH (Mb hod hdd ?_)));rw[HD (by simp)]
 show GX ?_;simp only[show ¬ ((i:G0) < 0)from by omega,JL,Ha,Array.getElem?_eq_none hge]
 show GH ?_
 first|refine GH (Jm hit.typeIs (GX ?_))|refine GH (JQ hit.typeIs (GX ?_))
 change wpAny _ _ (setField (.ref it) 0 .none >>= _) _ _ s;show GH (Lg ho hd (by simp) ?_)
 change wpAny _ _ (newExc (.type "StopIteration") [] >>= _) _ _ _;show GH ?_;simp only[newExc,newTuple];show GH (HS ?_ (by size_fits))
 show GH (m:=firstArgMember _ _) (Mu (a:=HZ) (by first|rfl|(simp only[firstArgMember]; rfl)) ?_)
 show HS ?_ (by size_fits)
 simp only[raiseNew];show GH (OO ?_);rw[show A.in1.handled=td from hh]
 show GH (GX (Pc ?_));show GH (LM (T:="StopIteration") (b:=true) #[_,He _ rfl,rfl] Ov ?_);exact GX (hQ _ (((Ko ..).extBut.push _).push _))
def r6 (hh:A.handled=td)(I d:GU)(hne:d≠I)(es:HR Jn)(ep:GP) :
  PP prog w A I [I,d] [I] es.size (λi v=>∃e,es[i]?=gV e/\e.key=v) (λi h=>h.IsKeyIter I d i es.size ep/\RawD d es ep h) where
 sub:=λb hb=>by simp at hb; simp[hb]
 frame:=λ_ _ _ st hk=>#[st.1.at λo e=>hk I (by simp) o e,st.2.at λo e=>hk d (by simp) o e]
 item:=λi s Q E hi st hQ=>
  nO st.1 st.2 hi λh' hit' hs'=>hQ _ h' s.toks #[es[i],by simp[hi],rfl] #[hit',st.2.at λo e=>(hs'.2 d hne).trans e] λb o hb e=>hs'.extBut b o (λh=>hb (by simp[h])) e
 done:=λs Q E st hQ=>qE hh st.1 st.2 (G3 _) λh' he'=>hQ h' s.toks λb o hb e=>he' b o (λh=>hb (by simp[h])) e
 self:=λ_ _ _ _ st hQ=>Mv st.1 hQ
def qF (lo:(d==sysModules)=false):Mw prog w "dict" d d es.size (λi v=>∃e,es[i]?=gV e/\e.key=v) (RawD d es ep) where
 type:=λ_ hm=>hm.type
 there:=λ_ hm=>#[hm.lt,hm.lt]
 keep:=λ_ _ hm hk=>hm.at λo e=>hk d (.inl rfl) o e
 notList:=by decide
 notTuple:=by decide
 hint:=λ_ _ _ _ hm hq=>PySem.W.kdl_hint_dict hm.type hq
 iter:=λ_ _ hh hm=>#[_,_,(λ_ _ hq=>nN lo hm hq),r6 hh _ d (Hu hm.lt) es ep,#[#[_,He _ rfl,rfl,rfl],hm.at λo e=>GR _ e]]
def uy {T:Iw}{r d S:GU}{n:GP}{P:GP->GK->Prop}{OK:HX->Prop}{R:NM->GL->Prop}(K:Mw prog w T r d n P OK)(hh:A.handled=td)(hok:OK s.heap)(hn:n<=sizeLine)(hSr:S≠r)(hSd:S≠d)
  (hS:s.heap.get? S=gV { cls:=.type "list",data:=.seq #[] 0 })
  (hR:∀h' tk acc' c',(∀b o,b≠S->s.heap.get? b=gV o->h'.get? b=gV o)->h'.get? S=gV { cls:=.type "list",dict:=td,data:=.seq acc' c',slots:=#[] }->L1 P acc' n->R (.ok (.ret (.ref S))) { s with heap:=h',toks:=tk }) :
  codeAny (model prog w) A (.builtin "list.__iadd__" #[[.ref S,.ref r],[]]) R s:=by
 show IV F.entry_list_iadd ?_;rw[II F.plain_list_iadd _];change wpAny _ A.in1 (Jv (.ref S) (.ref r) (.ref S)) _ _ _;exact PySem.W.kdl_extend K hh hok S hSr hSd _ 0 hS hR hn
def nP {T:Iw}{r d:GU}{n:GP}{P:GP->GK->Prop}{OK:HX->Prop}{Q:GD GK->GL->Prop}(K:Mw prog w T r d n P OK)(hh:A.handled=td)(hok:OK s.heap)(hn:n<=sizeLine)
  (hQ:∀h' tk acc,(∀b o,s.heap.get? b=gV o->h'.get? b=gV o)->s.heap.objs.size<=h'.objs.size->L1 P acc n->Q acc.toList { s with heap:=h',toks:=tk }):wpAny (model prog w) A (collect (.ref r)) Q E s:=by
 unfold collect;show GH (Mx (IV F.entry_proto_collect ?_));rw[II F.plain_proto_collect _];change wpAny _ A.in1 (newList [] >>= λl=>again (.builtin "list.__iadd__" #[[l,.ref r],[]])) _ _ s
 show GH (HS ?_);have hlt:=K.there _ hok;show GX #[J8 F.plain_list_iadd _,uy (s:={ s with heap:=s.heap.push { cls:=.type "list",data:=.seq ([]:GD GK).toArray } }) K hh (K.keep _ _ hok λb _ o e=>GR _ e) hn (JK hlt.1) (JK hlt.2) (He _ rfl) λh' tk acc' c' hk hS' hacc=>?_]
 change wpAny (model prog w) A (do
   let o <- load s.heap.objs.size
   match o.data with
   | .seq xs _=>pure xs.toList
   | _=>unsupported "internal:collect") Q E { s with heap:=h',toks:=tk }
 show GH (M4 hS' ?_);exact GX (hQ h' tk acc' (λb o e=>hk b o (Hu (Hf e)) (GR _ e)) (KH (Hf hS')) hacc)
end
mutual
def yf:T->T->GN Hj
 | .int a,.int b=>gV (decide (a < b))
 | .str a,.str b=>gV (decide (a.cps.toList < b.cps.toList))
 | .tup xs,.tup ys=>nQ xs ys
 | _,_=>td
def nQ:GD T->GD T->GN Hj
 | [],[]=>gV false
 | [],_::_=>gV true
 | _::_,[]=>gV false
 | x::xs,y::ys=>if x=y then nQ xs ys else yf x y
end
mutual
theorem IsT.kept {h h':HX}(hk:∀b o,o.cls=.type "tuple"->h.get? b=gV o->h'.get? b=gV o):∀ {x:T} {v:GK},IsT h x v->IsT h' x v
 | _,_,.int=>.int
 | _,_,.str=>.str
 | _,_,.tup a1 c1 d1 t1=>.tup (hk _ _ c1 a1) c1 d1 (IsTs.kept hk t1)
theorem IsTs.kept {h h':HX}(hk:∀b o,o.cls=.type "tuple"->h.get? b=gV o->h'.get? b=gV o):∀ {x:GD T} {v:GD GK},IsTs h x v->IsTs h' x v
 | _,_,.nil=>.nil
 | _,_,.cons a b=>.cons (IsT.kept hk a) (IsTs.kept hk b)
end
def Dn {B:HE}{s:GL}{d:GP}(hu:B.units+d < cLine)(hl:∀(x y:T) (u v:GK) (k:Hj),x.depth<=d->y.depth<=d->IsT s.heap x u->IsT s.heap y v->yf x y=gV k->LtAt B s u v k) :
  ∀(xs ys:GD T) (us vs:GD GK) (k:Hj),T.depths xs<=d->T.depths ys<=d->IsTs s.heap xs us->IsTs s.heap ys vs->nQ xs ys=gV k->LexR B s us vs k
 | [],[],_,_,k,_,_,h1,h2,e=>by cases h1; cases h2; cases e; exact .nn
 | [],y::ys,_,_,k,_,_,h1,h2,e=>by cases h1; cases h2; cases e; exact .nc
 | x::xs,[],_,_,k,_,_,h1,h2,e=>by cases h1; cases h2; cases e; exact .cn
 | x::xs,y::ys,_,_,k,d1,d2,h1,h2,e=>by
  simp only[T.depths]at d1 d2;cases h1 with
  | cons p1 q1=>
   cases h2 with
   | cons p2 q2=>
    have he:=r0 d x y _ _ B s ∅ p1 p2 hu ∅
    dsimp only[nQ]at e
    by_cases hxy:x=y
    ·rw[Ho hxy]at e;rw[Iu hxy]at he;exact .eq he (Dn hu hl xs ys _ _ k ∅ ∅ q1 q2 e)
    ·rw[HD hxy]at e;rw[Hz hxy]at he;exact .ne he (hl x y _ _ k ∅ ∅ p1 p2 e)
def Do:∀(d:GP) (x y:T) (u v:GK) (B:HE) (s:GL) (k:Hj),x.depth<=d->y.depth<=d->IsT s.heap x u->IsT s.heap y v->B.units+d < cLine->yf x y=gV k->LtAt B s u v k:=by
 intro d
 induction d with
 | zero=>
  intro x y u v B s k d1 d2 h1 h2 hu e;cases h1 with
  | int=>cases h2 with
   | int=>cases e; exact λprog w E Q h=>(MO h:wpAny (model prog w) B (compareOp .Lt _ _) Q E s)
   | _=>cases e
  | str=>cases h2 with
   | str=>cases e; exact λprog w E Q h=>(lt_str h:wpAny (model prog w) B (compareOp .Lt _ _) Q E s)
   | _=>cases e
  | tup _ _ _ _=>simp[T.depth]at d1
 | succ d ih=>
  intro x y u v B s k d1 d2 h1 h2 hu e;cases h1 with
  | int=>cases h2 with
   | int=>cases e; exact λprog w E Q h=>(MO h:wpAny (model prog w) B (compareOp .Lt _ _) Q E s)
   | _=>cases e
  | str=>cases h2 with
   | str=>cases e; exact λprog w E Q h=>(lt_str h:wpAny (model prog w) B (compareOp .Lt _ _) Q E s)
   | _=>cases e
  | tup a1 c1 e1 t1=>cases h2 with
   | tup a2 c2 e2 t2=>
    simp only[T.depth]at d1 d2;have hu1:B.in1.units+d < cLine:=by rw[be]; omega
    exact LtAt.tuples #[_,a1,c1,_,e1] #[_,a2,c2,_,e2] ∅ (Dn hu1 (λx y u v k q1 q2 q3 q4 q5=>ih x y u v B.in1 s k q1 q2 q3 q4 hu1 q5) _ _ _ _ k ∅ ∅ t1 t2 e)
   | _=>cases e
section
variable{prog:Hx}{w:HL}{A:HE}{R:NM->GL->Prop}{I S:GU}{fp wr:GD GU}{n:GP}{P:GP->GK->Prop}{St:GP->HX->Prop}{Ok:HX->Prop}{bt:GP->GP->Hj}
abbrev uz (prog:Hx)(w:HL)(A:HE)(P:GP->GK->Prop)(Ok:HX->Prop)(bt:GP->GP->Hj):Prop:=
 ∀i j vi vj (s:GL) (Q:GK->GL->Prop) (E:GK->GL->Prop),Ok s.heap->P i vi->P j vj->Q (.bool (bt i j)) s->wpAny (model prog w) A (richCompare .Lt vi vj) Q E s
def uA (W:PP prog w A.in1 I fp wr n P St)(hcmp:uz prog w A.in1 P Ok bt)(hSf:S∉fp)(hok:∀h h',Ok h->(∀b o,b∉wr->b≠S->h.get? b=gV o->h'.get? b=gV o)->Ok h') :
  ∀(k j:GP) (s:GL) (vb:GK) (c:GP),n - (j+1)=k->j < n->St (j+1) s.heap->P (argBest bt j) vb->Ok s.heap->s.heap.get? S=gV { cls:=.type "list",dict:=td,data:=.seq [vb,vb].toArray c,slots:=#[] }->
  (∀v h' tk,P (argBest bt (n - 1)) v->(∀b o,b∉wr->b≠S->s.heap.get? b=gV o->h'.get? b=gV o)->R (.ok (.ret v)) { s with heap:=h',toks:=tk })->
  codeAny (model prog w) A (.builtin "min.loop" #[[.ref I,.none,.ref S],[]]) R s:=by
 have hSw:S∉wr:=λh=>hSf (W.sub _ h)
 have hname:(toString "min" ++ toString ".loop" : Iw) = "min.loop":=by decide
 intro k
 induction k with
 | zero=>
  intro j s vb c hk hj hst hPb hO hS hR;have hin:j+1=n:=∅
  show IV F.entry_min_loop ?_;rw[II F.plain_min_loop _];change wpAny _ A.in1 (seqItems? (.ref S) >>= _) _ _ s;show GH (Ki hS rfl ?_);change wpAny _ A.in1 (tryCatch (pyNext (.ref I)) _ >>= _) _ _ s;show GH (Lh (W.done s _ _ (hin ▸ hst) λh' tk hk'=>?_))
  have hS':=hk' S _ hSw hS;change wpAny _ A.in1 (updateSeq S (λ_=>#[]) >>= _) _ _ _
  show GH (Mc hS' rfl (GH (K3 (GX ?_))));have e:j=n - 1:=∅
  exact hR vb _ tk (e ▸ hPb) λb o hbw hbS e=>(Ic _ _ (Ne.symm hbS)).trans (hk' b o hbw e)
 | succ k ih=>
  intro j s vb c hk hj hst hPb hO hS hR;have hlt:j+1 < n:=∅
  show IV F.entry_min_loop ?_;rw[II F.plain_min_loop _];change wpAny _ A.in1 (seqItems? (.ref S) >>= _) _ _ s;show GH (Ki hS rfl ?_);change wpAny _ A.in1 (tryCatch (pyNext (.ref I)) _ >>= _) _ _ s;show GH (Lh (W.item (j+1) s _ _ hlt hst λv h' tk hP hst' hk'=>?_))
  have hS':=hk' S _ hSw hS;have hO':Ok h':=hok _ _ hO λb o hb _ e=>hk' b o hb e
  change wpAny _ A.in1 (tryCatch (holding [v,v] (richCompare .Lt v vb >>= _)) _ >>= _) _ _ _;show GH (Lh (IJ (GH (hcmp (j+1) (argBest bt j) v vb _ _ _ hO' hP hPb ?_))));show GH (IJ (ID ?_));show GH (K3 (GX ?_));cases hb:bt (j+1) (argBest bt j)with
  | true=>
   simp only[J1];show GH (Mc hS' rfl (GH (K3 ?_)));rw[hname];show GX #[J8 F.plain_min_loop _,ih (j+1) _ v _ ∅ hlt (W.frame _ _ _ hst' λb hbf o e=>?_) (by simp only[argBest,hb,J1]; exact hP) (hok _ _ hO' λb o _ hbS e=>(Ic _ _ (Ne.symm hbS)).trans e) (JD _ hS' rfl)
    λv' h'' tk'' hP' hk''=>?_]
   ·exact(Ic _ _ (λh:S=b=>hSf (by rw[h]; exact hbf))).trans e
   ·exact hR v' h'' tk'' hP' λb o hbw hbS e=>hk'' b o hbw hbS ((Ic _ _ (Ne.symm hbS)).trans (hk' b o hbw e))
  | false=>
   simp only[Ix,JL];show GH (K3 ?_);rw[hname];show GX #[J8 F.plain_min_loop _,ih (j+1) _ vb c ∅ hlt hst' (by simp only[argBest,hb,Ix,JL]; exact hPb) hO' hS' λv' h'' tk'' hP' hk''=>?_]
   exact hR v' h'' tk'' hP' λb o hbw hbS e=>hk'' b o hbw hbS (hk' b o hbw e)
def r8 (W:PP prog w A.in1 I fp wr n P St)(hcmp:uz prog w A.in1 P Ok bt)(hSf:S∉fp)(hok:∀h h',Ok h->(∀b o,b∉wr->b≠S->h.get? b=gV o->h'.get? b=gV o)->Ok h')(hn:0 < n){s:GL}{c:GP}(hst:St 0 s.heap)(hO:Ok s.heap)
  (hS:s.heap.get? S=gV { cls:=.type "list",dict:=td,data:=.seq #[] c,slots:=#[] })
  (hR:∀v h' tk,P (argBest bt (n - 1)) v->(∀b o,b∉wr->b≠S->s.heap.get? b=gV o->h'.get? b=gV o)->R (.ok (.ret v)) { s with heap:=h',toks:=tk }) :
  codeAny (model prog w) A (.builtin "min.loop" #[[.ref I,.none,.ref S],[]]) R s:=by
 have hSw:S∉wr:=λh=>hSf (W.sub _ h)
 have hname:(toString "min" ++ toString ".loop" : Iw) = "min.loop":=by decide
 show IV F.entry_min_loop ?_;rw[II F.plain_min_loop _];change wpAny _ A.in1 (seqItems? (.ref S) >>= _) _ _ s;show GH (Ki hS rfl ?_);change wpAny _ A.in1 (tryCatch (pyNext (.ref I)) _ >>= _) _ _ s;show GH (Lh (W.item 0 s _ _ hn hst λv h' tk hP hst' hk'=>?_))
 have hS':=hk' S _ hSw hS;change wpAny _ A.in1 (updateSeq S (λ_=>[v,v].toArray) >>= _) _ _ _
 show GH (Mc hS' rfl ?_);rw[hname];have hO':Ok h':=hok _ _ hO λb o hb _ e=>hk' b o hb e
 show GX #[J8 F.plain_min_loop _,uA W hcmp hSf hok _ 0 _ v _ rfl hn (W.frame _ _ _ hst' λb hbf o e=>?_) hP (hok _ _ hO' λb o _ hbS e=>(Ic _ _ (Ne.symm hbS)).trans e) (JD _ hS' rfl) λv' h'' tk'' hP' hk''=>?_]
 ·exact(Ic _ _ (λh:S=b=>hSf (by rw[h]; exact hbf))).trans e
 ·exact hR v' h'' tk'' hP' λb o hbw hbS e=>hk'' b o hbw hbS ((Ic _ _ (Ne.symm hbS)).trans (hk' b o hbw e))
end
section
variable{prog:Hx}{w:HL}{A:HE}{E:GK->GL->Prop}{s:GL}
def uB {l:GU}{items:HR GK}{bt:GP->GP->Hj}{Q:GK->GL->Prop}(hh:A.handled=td)(hl:s.heap.IsList l items)(hn:0 < items.size)
  (hcmp:uz prog w A.in1 (λi v=>items[i]?=gV v) (λh=>∀b o,s.heap.get? b=gV o->h.get? b=gV o) bt)
  (hQ:∀v h' tk,items[argBest bt (items.size - 1)]?=gV v->(∀b o,s.heap.get? b=gV o->h'.get? b=gV o)->Q v { s with heap:=h',toks:=tk }) :
  wpAny (model prog w) A (call (.builtin "min") [.ref l]) Q E s:=by
 have hname:(toString "min" ++ toString ".loop" : Iw) = "min.loop":=by decide
 show call_function_tree F.kind_min F.plain_min F.entry_min (F.args_min1 _) ?_;change wpAny _ A.in1 (Lb "min" ["key","default"] 0 #[[],[]] >>= _) _ _ s;show GH (Mu (show Lb "min" ["key","default"] 0 #[[],[]]=pure [td,td]from rfl) ?_)
 show GH (GX ?_);show GH (Ly hl ?_);show GH (HS ?_);rw[hname];have hlt:l < s.heap.objs.size:=let ⟨_,ho,_⟩:=hl; Hf ho
 have hne:l≠s.heap.objs.size:=Hu hlt;have W:=Pq (prog:=prog) (w:=w) (A:=A.in1) hh s.heap.objs.size l hne items;have hsz:∀o:IM,(s.heap.push o).objs.size=s.heap.objs.size+1:=λo=>by simp[Heap.push]
 show GX #[J8 F.plain_min_loop _,r8 (A:=A) (Ok:=λh=>∀b o,s.heap.get? b=gV o->h.get? b=gV o) W hcmp (λhm=>?_) (λh h' ho hk b o e=>?_) hn #[?_,?_] (λb o e=>GR _ (GR _ e)) (He _ rfl) λv h' tk hv hk=>?_]
 ·rcases Hn.mp hm with e|hm
  ·exact absurd (show(s.heap.push _).objs.size=s.heap.objs.size from e) (by rw[hsz]; exact Nat.succ_ne_self _)
  ·have e:(s.heap.push _).objs.size=l:=G6.mp hm;rw[hsz]at e;exact absurd hlt (by rw[<- e]; exact Ow.mpr (J0 _))
 ·have hb:=Hf e;show hk b o (λz=>?_) (λz=>?_) (ho b o e)
  ·rw[G6.mp z]at hb; exact HY _ hb
  ·have z':b=(s.heap.push _).objs.size:=z;rw[hsz]at z';rw[z']at hb;exact absurd hb (Ow.mpr (J0 _))
 ·exact#[_,GR _ (He _ rfl),rfl,rfl]
 ·obtain⟨o,ho,hc⟩:=hl;exact#[o,GR _ (GR _ ho),hc]
 ·show hQ v h' tk hv λb o e=>hk b o (λz=>?_) (λz=>?_) (GR _ (GR _ e))
  ·have hb:=Hf e;rw[G6.mp z]at hb; exact HY _ hb
  ·have hb:=Hf e;have z':b=(s.heap.push _).objs.size:=z;rw[hsz]at z';rw[z']at hb;exact absurd hb (Ow.mpr (J0 _))
end
open PySem.W (KasT kas_sort kas_ask kas_cmp kas_item kas_asc kas_desc kas_tail3 kas_descPart kas_count kas_place kas_bin kas_rev)
abbrev mz {α:Type}(lt:GP->GP->Hj):KasT α->α
 | .ret a=>a
 | .ask i j k=>mz lt (k (lt i j))
abbrev OkK {α:Type}(n:GP)(P:α->Prop):KasT α->Prop
 | .ret a=>P a
 | .ask i j k=>i < n/\j < n/\∀b,OkK n P (k b)
def nR {α:Type}{n:GP}{P:α->Prop}{lt:GP->GP->Hj}:∀(t:KasT α),OkK n P t->P (mz lt t)
 | .ret _,h=>h
 | .ask i j k,h=>nR (k (lt i j)) (h.2.2 _)
def mB {α:Type}{n:GP}{P:α->Prop}{lt:GP->GP->Hj}{t:KasT α}(h:OkK n P t):P (mz lt t):=nR t h
def OkK.bind {α β:Type}{n:GP}{P:α->Prop}{P':β->Prop}{f:α->KasT β}:∀ {t:KasT α},OkK n P t->(∀a,P a->OkK n P' (f a))->OkK n P' (t.bind f)
 | .ret a,h,hf=>hf a h
 | .ask _ _ _,h,hf=>#[h.1,h.2.1,λb=>OkK.bind (h.2.2 b) hf]
def lc {α:Type}{n:GP}{P:α->Prop}{lt:GP->GP->Hj}{cmp:GP->GP->(Hj->GL->Prop)->GL->Prop}{Q:α->GL->Prop}{s:GL}(hc:∀i j,i < n->j < n->∀C:Hj->GL->Prop,C (lt i j) s->cmp i j C s) :
  ∀ {t:KasT α},OkK n P t->Q (mz lt t) s->t.kasWp cmp Q s
 | .ret _,_,h=>h
 | .ask i j k,h,hq=>hc i j h.1 h.2.1 _ (lc hc (h.2.2 _) hq)
abbrev Pm (n:GP)(p:HR GP):Prop:=p.toList.Perm (G8 n)
def Pm.size {n:GP}{p:HR GP}(h:Pm n p):p.size=n:=by rw[<- HG,h.length_eq,Hq]
def Pm.lt {n:GP}{p:HR GP}(h:Pm n p)(hn:0 < n)(i:GP):p.getD i 0 < n:=by
 by_cases hi:i < p.size
 ·have e:p.getD i 0=p[i]:=by simp[Pr,hi]
  rw[e];have:p[i]∈p.toList:=by simp
  exact Hd.mp (h.mem_iff.mp this)
 ·have e:p.getD i 0=0:=by simp[Pr,hi]
  rw[e]; exact hn
def Pm.rev {n:GP}{p:HR GP}(h:Pm n p)(i j:GP):Pm n (kas_rev p i j):=(Li.mp (mirror_perm p i j _)).trans h
def Pm.bub {n:GP}{p:HR GP}(h:Pm n p)(i j:GP):Pm n (bubble p i j):=(Li.mp (bubble_perm p i j)).trans h
section
variable{n:GP}(hn:0 < n)
include hn
def pq {p:HR GP}(h:Pm n p):∀(f m:GP),OkK n (λ_=>Oh) (kas_asc p f m)
 | 0,_=>trivial
 | f+1,m=>#[h.lt hn _,h.lt hn _,λb=>by
  change OkK n _ (if b=true then _ else _)
  split
  ·trivial
  ·exact pq h f (m+1)]
def jo:∀(f:GP) (p:HR GP) (m q:GP),Pm n p->OkK n (λr=>Pm n r.1) (kas_desc f p m q)
 | 0,p,m,q,h=>h
 | f+1,p,m,q,h=>#[h.lt hn _,h.lt hn _,λb=>by
  change OkK n _ (if b=true then _ else _)
  split
  ·split
   ·exact jo f _ _ _ (h.rev _ _)
   ·exact jo f _ _ _ h
  ·show#[h.lt hn _,h.lt hn _,λc=>?_]
   change OkK n _ (if c=true then _ else _)
   split
   ·exact h
   ·exact jo f _ _ _ h]
def qG {p:HR GP}(h:Pm n p)(m k:GP):OkK n (λr=>Pm n r.2) (kas_tail3 m k p):=by
 unfold kas_tail3;exact OkK.bind (pq hn (h.rev 0 m) _ _) λa _=>h.rev 0 m
def i6 {p:HR GP}(h:Pm n p)(m k:GP):OkK n (λr=>Pm n r.2) (kas_descPart m k p):=by
 unfold kas_descPart;show OkK.bind (jo hn _ _ _ _ h) λr hr=>?_
 split
 ·exact qG hn (hr.rev _ _) _ _
 ·exact qG hn hr _ _
def uC {p:HR GP}(h:Pm n p)(k:GP):OkK n (λr=>Pm n r.2) (kas_count k p):=by
 unfold kas_count;show OkK.bind (pq hn h _ _) λm _=>?_
 split
 ·exact h
 ·split
  ·show#[h.lt hn _,h.lt hn _,λc=>?_]
   change OkK n _ (if c=true then _ else _)
   split
   ·exact h
   ·exact i6 hn (h.rev _ _) _ _
  ·exact i6 hn h _ _
def jH {p:HR GP}(h:Pm n p)(k:GP):∀(f l r:GP),OkK n (λ_=>Oh) (kas_place p k f l r)
 | 0,_,_=>trivial
 | f+1,l,r=>by
  unfold kas_place;split
  ·trivial
  ·show#[h.lt hn _,h.lt hn _,λc=>?_]
   change OkK n _ (if c=true then _ else _)
   split
   ·exact jH h k f _ _
   ·exact jH h k f _ _
def uD:∀(f:GP) (p:HR GP) (k:GP),Pm n p->OkK n (Pm n) (kas_bin f p k)
 | 0,p,k,h=>h
 | f+1,p,k,h=>by
  unfold kas_bin;exact OkK.bind (jH hn h k _ _ _) λl _=>uD f _ _ (h.bub _ _)
def jp:OkK n (Pm n) (kas_sort n):=by
 unfold kas_sort;show OkK.bind (uC hn (by unfold Pm; simp) _) λr hr=>?_
 split
 ·exact uD hn _ _ _ hr
 ·exact hr
end
section
variable{prog:Hx}{w:HL}{A:HE}{E:GK->GL->Prop}{s:GL}{vs:GD GK}
abbrev eA (lt:GP->GP->Hj){β:Type}(d:β)(vs:GD β):GD β:=if vs.length < 2 then vs else(mz lt (kas_sort vs.length)).toList.map λi=>vs.getD i d
def nS {lt:GP->GP->Hj}{β:Type}{d:β}{vs:GD β}:(eA lt d vs).length=vs.length:=by
 unfold eA;split
 ·rfl
 ·rw[GF,HG,(mB (lt:=lt) (jp (n:=vs.length) ∅)).size]
def r9 {a:GU}{n:GP}{lt:GP->GP->Hj}{κ:LN}{P:PySem.Fin->GL->Prop}(ho:s.heap.get? a=gV (seqObj "list" vs.toArray n))(h64:vs.length < 64)
  (hkind:2<=vs.length->∀h',(∀b o,b≠a->s.heap.get? b=gV o->h'.get? b=gV o)->∀Q:LN->GL->Prop,Q κ { s with heap:=h' }->wpAny (model prog w) A (keyKind' vs.toArray) Q (λ_ _=>Iq) { s with heap:=h' })
  (hlt:2<=vs.length->∀h',(∀b o,b≠a->s.heap.get? b=gV o->h'.get? b=gV o)->∀i j,i < vs.length->j < vs.length->∀Q:Hj->GL->Prop,Q (lt i j) { s with heap:=h' }->
   wpAny (model prog w) A (keyLt' κ (vs.getD i HZ) (vs.getD j HZ)) Q (λ_ _=>Iq) { s with heap:=h' })
  (h:∀h' c,(∀b o,b≠a->s.heap.get? b=gV o->h'.get? b=gV o)->h'.get? a=gV (seqObj "list" (eA lt HZ vs).toArray c)->P (.done (.ret .none)) { s with heap:=h' }) :
  wpAny (model prog w) A (LZ.«list.sort» #[[.ref a],[]]) P E s:=by
 have ha:a < s.heap.objs.size:=Hf ho;obtain⟨e1,ho1⟩ : ∃e1,(s.heap.update a (IH λ_=>(#[]:HR GK))).get? a=gV (seqObj "list" #[] e1):=#[_,Mf ho λ_=>#[]]
 have keep:∀b o,b≠a->s.heap.get? b=gV o->(((s.heap.update a (IH λ_=>(#[]:HR GK))).push (seqObj "tuple" vs.toArray 0)).push (seqObj "list" #[] 0)).get? b=gV o:=λb o hb e=>
  GR _ (GR _ ((Kq _ _ _ _ hb).trans e))
 have ho3:(((s.heap.update a (IH λ_=>(#[]:HR GK))).push (seqObj "tuple" vs.toArray 0)).push (seqObj "list" #[] 0)).get? a=gV (seqObj "list" #[] e1):=GR _ (GR _ ho1)
 have fin:∀(out:GD GK),out.length=vs.length->out=eA lt HZ vs->P (.done (.ret .none)) { s with heap:=(((s.heap.update a (IH λ_=>(#[]:HR GK))).push (seqObj "tuple" vs.toArray 0)).push (seqObj "list" #[] 0)).update a (IH λ_=>out.toArray) }:=λout hl e=>by
  obtain⟨c2,hc2⟩ : ∃c2,((((s.heap.update a (IH λ_=>(#[]:HR GK))).push (seqObj "tuple" vs.toArray 0)).push (seqObj "list" #[] 0)).update a (IH λ_=>out.toArray)).get? a=gV (seqObj "list" out.toArray c2):=#[_,Mf ho3 λ_=>out.toArray]
  exact h _ c2 (λb o hb q=>(Kq _ _ _ _ hb).trans (keep b o hb q)) (e ▸ hc2)
 rw[list_sort_plain];show GH (NB ho rfl ?_);show GH (LG ho rfl ?_ (by rw[G9,Ik]; omega) (IB _))
 show GH (N4 ho1 rfl ?_);show GH (Ox ?_ (by change vs.length<=_; rw[Ik]; omega))
 show GH (MX ?_ (IB _));show IJ ?_;change wpAny (model prog w) A _ P E { s with heap:=((s.heap.update a (IH λ_=>(#[]:HR GK))).push (seqObj "tuple" vs.toArray 0)).push (seqObj "list" #[] 0) }
 dsimp only
 by_cases h2:vs.length < 2
 ·rw[Ho (by rw[G9]; exact h2),Ho (by rw[G9]; exact h2)]
  show GH (GX (GH ?_));rw[StateT.run_pure];show GX ?_;dsimp only;show GH (N4 ho3 rfl ?_);have hs:((arrOf (SortSt.mk' general' (vs.toArray.zip vs.toArray) #[] 7 td)).map (·.2))=vs.toArray:=by
   show(vs.toArray.zip vs.toArray).map (·.2)=vs.toArray
   apply Array.toList_inj.mp;rw[Array.toList_map,Array.toList_zip];exact List.map_snd_zip (G3 _)
  rw[hs];show GH (LG ho3 rfl ?_ (IB _) (by rw[G9,Ik]; omega))
  simp only[NC,Ix,JL];exact GX (fin vs rfl (by unfold eA; rw[Ho h2]))
 ·have hn2:¬ vs.toArray.size < 2:=by rw[G9]; exact h2
  have h2':2<=vs.length:=∅
  rw[HD hn2,HD hn2];show GH (IW (hkind h2' _ keep (λ(k:LN) (s':GL)=>k=κ/\s'={ s with heap:=((s.heap.update a (IH λ_=>(#[]:HR GK))).push (seqObj "tuple" vs.toArray 0)).push (seqObj "list" #[] 0) }) #[rfl,rfl]) ?_ λ_ _ x=>x.elim)
  rintro _ _ ⟨rfl,rfl⟩;show GH (IW (PySem.W.kat_run (Q:=λst' s'=>∃p:HR GP,p.size=vs.length/\arrOf st'=p.map (kas_item (vs.toArray.zip vs.toArray))/\failedOf st'=td/\p=mz lt (kas_sort vs.length)/\s'={ s with heap:=((s.heap.update a (IH λ_=>(#[]:HR GK))).push (seqObj "tuple" vs.toArray 0)).push (seqObj "list" #[] 0) })
   (G:=λp s'=>p=mz lt (kas_sort vs.length)/\s'={ s with heap:=((s.heap.update a (IH λ_=>(#[]:HR GK))).push (seqObj "tuple" vs.toArray 0)).push (seqObj "list" #[] 0) }) rfl h2' h64 (λp' st' s' a1 a2 a3 a4=>#[p',a1,a2,a3,a4])
   (lc (lt:=lt) (λi j hi hj C hC=>hlt h2' _ keep i j hi hj C hC) (jp (n:=vs.length) ∅) #[rfl,rfl])) ?_ λ_ _ e=>e)
  rintro⟨⟨⟩,st'⟩ s' ⟨p,hp,har,hf,ep,rfl⟩;dsimp only;have hout:=PySem.W.kat_snds rfl har;have hsz:(p.toList.map λi=>vs.getD i HZ).length=vs.length:=by rw[GF,HG,hp]
  rw[hout];show GH (N4 ho3 rfl ?_);show GH (LG ho3 rfl ?_ (IB _) (by rw[G9,hsz,Ik]; omega))
  rw[hf];simp only[NC,Ix,JL];exact GX (fin _ hsz (by unfold eA; rw[HD h2,ep]))
def sa {x:GK}{lt:GP->GP->Hj}{κ:LN}{Q:GK->GL->Prop}(h64:vs.length < 64)
  (hcol:∀Q':GD GK->GL->Prop,(∀h' tk,(∀b o,s.heap.get? b=gV o->h'.get? b=gV o)->s.heap.objs.size<=h'.objs.size->Q' vs { s with heap:=h',toks:=tk })->wpAny (model prog w) A.in1 (collect x) Q' E s)
  (hkind:2<=vs.length->∀h' tk,(∀b o,s.heap.get? b=gV o->h'.get? b=gV o)->∀Q:LN->GL->Prop,Q κ { s with heap:=h',toks:=tk }->wpAny (model prog w) A.in1.in1 (keyKind' vs.toArray) Q (λ_ _=>Iq) { s with heap:=h',toks:=tk })
  (hlt:2<=vs.length->∀h' tk,(∀b o,s.heap.get? b=gV o->h'.get? b=gV o)->∀i j,i < vs.length->j < vs.length->∀Q:Hj->GL->Prop,Q (lt i j) { s with heap:=h',toks:=tk }->
   wpAny (model prog w) A.in1.in1 (keyLt' κ (vs.getD i HZ) (vs.getD j HZ)) Q (λ_ _=>Iq) { s with heap:=h',toks:=tk })
  (h:∀D h' tk c,(∀b o,s.heap.get? b=gV o->h'.get? b=gV o)->s.heap.objs.size<=D->h'.get? D=gV (seqObj "list" (eA lt HZ vs).toArray c)->Q (.ref D) { s with heap:=h',toks:=tk }) :
  wpAny (model prog w) A (call (.builtin "sorted") [x]) Q E s:=by
 show Lp kind_sorted plain_sorted entry_sorted (args_sorted1 _) ?_;unfold LZ.«sorted»;show GH (m:=checkCount "sorted" 1 1 _) (GX ?_);show GH (hcol _ λh1 tk1 hk1 hle=>?_)
 show GH (MX ?_ (by rw[Ik]; omega))
 have hoL:(h1.push (seqObj "list" vs.toArray 0)).get? h1.objs.size=gV (seqObj "list" vs.toArray 0):=He _ rfl;have kp:∀b o,s.heap.get? b=gV o->(h1.push (seqObj "list" vs.toArray 0)).get? b=gV o:=λb o e=>GR _ (hk1 b o e)
 have hne:∀b o,s.heap.get? b=gV o->b≠h1.objs.size:=λb o e=>Hu (Hr (Hf e) hle)
 change wpAny _ _ _ _ _ { s with heap:=h1.push (seqObj "list" vs.toArray 0),toks:=tk1 }
 show GH (IJ (IA slot_list_sort #[_,hoL,rfl] entry_list_sort ?_ (args_list_sort _)));show r9 (s:={ s with heap:=h1.push (seqObj "list" vs.toArray 0),toks:=tk1 }) (lt:=lt) (κ:=κ) hoL h64 (λh2 h' hk Q hq=>hkind h2 h' tk1 (λb o e=>hk b o (hne b o e) (kp b o e)) Q hq)
  (λh2 h' hk i j hi hj Q hq=>hlt h2 h' tk1 (λb o e=>hk b o (hne b o e) (kp b o e)) i j hi hj Q hq) λh' c hk hD=>?_
 exact#[_,rfl,GX #[_,rfl,h _ h' tk1 c (λb o e=>hk b o (hne b o e) (kp b o e)) hle hD]]
end
end Mi
namespace Mi
open PySem PySem.Spec PyProof.Rows L2
abbrev fe:T->Iw
 | .int _=>"int"|.str _=>"str"|.tup _=>"tuple"
abbrev bn:T->GN T
 | .tup (x::_)=>gV x
 | _=>td
abbrev yg (ks:GD T):GN GP:=
 if ks.all (λk=>fe k == "int")then gV 0
 else if ks.all (λk=>fe k == "str")then gV 1
 else if ks.all (λk=>(bn k).any λf=>fe f == "int")then gV 2
 else if ks.all (λk=>(bn k).any λf=>fe f == "str")then gV 3
 else if ks.all (λk=>(bn k).any λf=>fe f == "tuple")then gV 4
 else td
abbrev uE:GP->LN
 | 0=>oneType'|1=>oneType'|2=>tuples' true|3=>tuples' true|_=>tuples' false
abbrev jI (ks:GD T):Hj:=ks.all λx=>ks.all λy=>(yf x y).isSome
abbrev zY (ks:GD T)(i j:GP):Hj:=(yf (ks.getD i (.int 0)) (ks.getD j (.int 0))).getD false
def uF {ks:GD T}(h:jI ks=true){i j:GP}(hi:i < ks.length)(hj:j < ks.length):yf (ks[i]) (ks[j])=gV (zY ks i j):=by
 unfold jI at h;rw[Hk]at h;have h1:=h ks[i] (HW hi);rw[Hk]at h1;have h2:=h1 ks[j] (HW hj);unfold zY;rw[show ks.getD i (.int 0)=ks[i] by simp[hi],show ks.getD j (.int 0)=ks[j] by simp[hj]]
 obtain⟨b,hb⟩:=Ig.mp h2;rw[hb]; rfl
abbrev Gb (c:GP)(x y:T):Prop:=match c with|0=>fe x = "int"/\fe y = "int"|1=>fe x = "str"/\fe y = "str"|2=>∃f g,bn x=gV f/\bn y=gV g/\fe f = "int"/\fe g = "int"|3=>∃f g,bn x=gV f/\bn y=gV g/\fe f = "str"/\fe g = "str"|_=>∃f g,bn x=gV f/\bn y=gV g
section
variable{prog:Hx}{w:HL}{A:HE}{E:GK->GL->Prop}{s:GL}
def qH {h:HX}{k:T}{v:GK}(x:IsT h k v):OP (model prog w) h (typeOf v) (.type (fe k)):=by
 cases x with
 | int=>exact .now
 | str=>exact .now
 | tup a c d t=>exact c ▸ ((PF a).andThen .now:OP (model prog w) h (typeOf (.ref _)) _)
def IsTs.mem {h:HX}:∀ {ks:GD T} {vs:GD GK},IsTs h ks vs->∀v∈vs,∃k∈ks,IsT h k v
 | _,_,.cons a b,v,hv=>by
  rcases Hn.mp hv with rfl|hv
  ·exact#[_,.head _,a]
  ·obtain⟨k,hk,q⟩:=IsTs.mem b v hv;exact#[k,.tail _ hk,q]
def lf {h:HX}{p:T->Hj}:∀ {ks:GD T} {vs:GD GK},IsTs h ks vs->ks.all (λk=>(bn k).any p)=true->∃fs,PySem.W.KatTups h vs fs/\fs.length=vs.length/\∀v∈fs,∃k,p k=true/\IsT h k v
 | _,_,.nil,_=>#[[],.nil,rfl,λv hv=>nomatch hv]
 | k::ks,_,.cons a b,hp=>by
  rw[HF,GQ]at hp;obtain⟨fs,h1,h2,h3⟩:=lf b hp.2;cases a with
  | int=>simp[bn]at hp
  | str=>simp[bn]at hp
  | @tup kk ad o items n a1 c1 d1 t1=>
   cases kk with
   | nil=>simp[bn]at hp
   | cons x xs=>
    have hx:p x=true:=by simpa [bn]using hp.1
    generalize hit:items.toList=its at t1;cases t1 with
    | @cons _ u _ us q1 q2=>
     show#[u::fs,.cons a1 c1 d1 (by rw[<- IN,hit]; rfl) h1,by simp[h2],λv hv=>?_]
     rcases Hn.mp hv with rfl|hv
     ·exact#[x,hx,q1]
     ·exact h3 v hv
def Bn {ks:GD T}{vs:GD GK}{c:GP}{Q:LN->GL->Prop}(h:IsTs s.heap ks vs)(h2:2<=vs.length)(hc:yg ks=gV c)(hq:Q (uE c) s):wpAny (model prog w) A (keyKind' vs.toArray) Q E s:=by
 have one:∀ty:Iw,(Kg ty != Kg "tuple")=true->ks.all (λk=>fe k==ty)=true->Q oneType' s->wpAny (model prog w) A (keyKind' vs.toArray) Q E s:=λty hty hall hq=>
  PySem.W.kas_kind (T:=.type ty) h2 (λv hv=>by
   obtain⟨k,hk,x⟩:=h.mem v hv;have:=eq_of_beq (Hk.mp hall k hk);exact this ▸ qH x) hty (by simp) hq
 have tup:∀ty:Iw,ks.all (λk=>(bn k).any λf=>fe f==ty)=true->Q (tuples' (Kg ty != Kg "tuple")) s->wpAny (model prog w) A (keyKind' vs.toArray) Q E s:=λty hall hq=>by
  obtain⟨fs,h1,h3,h4⟩:=lf h hall;exact PySem.W.kat_kind (T:=.type ty) h1 ∅ (λv hv=>by
   obtain⟨k,hk,x⟩:=h4 v hv;have:=eq_of_beq hk;exact this ▸ qH x) (by simp) hq
 unfold yg at hc;split at hc
 ·cases hc; exact one "int" #v[] (by assumption) hq
 ·split at hc
  ·cases hc; exact one "str" #v[] (by assumption) hq
  ·split at hc
   ·cases hc; exact tup "int" (by assumption) hq
   ·split at hc
    ·cases hc; exact tup "str" (by assumption) hq
    ·split at hc
     ·cases hc; exact tup "tuple" (by assumption) hq
     ·cases hc
def nT {b:Hj}{Q:Hj->GL->Prop}{d:GP}(hu:A.units+d < cLine):∀(xs ys:GD T) (us vs:GD GK) (i:GP) (k:Hj),T.depths xs<=d->T.depths ys<=d->IsTs s.heap xs us->IsTs s.heap ys vs->nQ xs ys=gV k->
  (b=true->i=0->∀x y,xs.head?=gV x->ys.head?=gV y->(fe x = "int"/\fe y = "int")\/(fe x = "str"/\fe y = "str"))->Q k s->PySem.W.KatLex prog w A b (decide (us.length < vs.length)) Q (us.zip vs) i s
 | [],[],_,_,i,k,_,_,h1,h2,e,hb,hq=>by cases h1; cases h2; cases e; exact Mg (by simpa using hq)
 | [],y::ys,_,_,i,k,_,_,h1,h2,e,hb,hq=>by cases h1; cases h2; cases e; exact Mg (by simpa using hq)
 | x::xs,[],_,_,i,k,_,_,h1,h2,e,hb,hq=>by cases h1; cases h2; cases e; exact Mg (by simpa using hq)
 | x::xs,y::ys,_,_,i,k,d1,d2,h1,h2,e,hb,hq=>by
  simp only[T.depths]at d1 d2;cases h1 with
  | @cons _ u _ us p1 q1=>
   cases h2 with
   | @cons _ v _ vs p2 q2=>
    have he:=r0 d x y _ _ A s ∅ p1 p2 hu ∅
    rw[J2];show PySem.W.kat_cons (he prog w _ _ ?_);simp only[nQ]at e;have hlen:decide ((u::us).length < (v::vs).length)=decide (us.length < vs.length):=by simp
    rw[hlen]
    by_cases hxy:x=y
    ·rw[Ho hxy]at e;rw[Iu hxy];exact PySem.W.kat_yes (nT hu xs ys us vs (i+1) k ∅ ∅ q1 q2 e (λ_ z=>absurd z (Nat.succ_ne_zero _)) hq)
    ·rw[HD hxy]at e;rw[Hz hxy];show PySem.W.kat_no ?_
     by_cases hb0:b=true/\i=0
     ·obtain⟨rfl,rfl⟩:=hb0;rcases hb rfl rfl x y rfl rfl with⟨hx,hy⟩|⟨hx,hy⟩
      ·cases p1 with
       | int=>cases p2 with
        | int=>cases e; exact oneLt_int hq
        | _=>exact absurd hy (by simp[fe])
       | _=>exact absurd hx (by simp[fe])
      ·cases p1 with
       | str=>cases p2 with
        | str=>cases e; exact oneLt_str hq
        | _=>exact absurd hy (by simp[fe])
       | _=>exact absurd hx (by simp[fe])
     ·have hf:(b&&i==0)=false:=by
       cases b with
       | false=>rfl
       | true=>
        have:i≠0:=λz=>hb0 #[rfl,z]
        simpa using this
      rw[hf];exact PySem.W.kat_one _ _ ((Do d x y _ _ A s k ∅ ∅ p1 p2 hu e) prog w _ _ hq)
def yh {c d:GP}{x y:T}{u v:GK}{k:Hj}{Q:Hj->GL->Prop}(hu:A.units+d < cLine)(d1:x.depth<=d)(d2:y.depth<=d)(h1:IsT s.heap x u)(h2:IsT s.heap y v)(e:yf x y=gV k)
  (hc:Gb c x y)
  (hq:Q k s):wpAny (model prog w) A (keyLt' (uE c) u v) Q E s:=by
 have tup:∀b:Hj,(∃f g,bn x=gV f/\bn y=gV g/\(b=true->(fe f = "int"/\fe g = "int")\/(fe f = "str"/\fe g = "str")))->wpAny (model prog w) A (keyLt' (tuples' b) u v) Q E s:=by
  rintro b ⟨f,g,hf,hg,hb⟩;cases h1 with
  | int=>cases hf
  | str=>cases hf
  | @tup xs a o items n a1 c1 e1 t1=>
   cases h2 with
   | int=>cases hg
   | str=>cases hg
   | @tup ys a' o' items' n' a2 c2 e2 t2=>
    simp only[T.depth]at d1 d2;show PySem.W.kat_lt a1 e1 a2 e2 ?_;have:=nT (prog:=prog) (w:=w) (b:=b) (Q:=Q) hu xs ys items.toList items'.toList 0 k ∅ ∅ t1 t2 e (λhb' _ p q hp hq'=>by
     cases xs with
     | nil=>cases hp
     | cons x0 xs=>cases ys with
      | nil=>cases hq'
      | cons y0 ys=>cases hp; cases hq'; cases hf; cases hg; exact hb hb') hq
    simpa using this
 match c,hc with
 | 0,#[hx,hy]=>
  cases h1 with
  | int=>cases h2 with
   | int=>cases e; exact PySem.W.kat_lt_int hq
   | _=>exact absurd hy (by simp[fe])
  | _=>exact absurd hx (by simp[fe])
 | 1,#[hx,hy]=>
  cases h1 with
  | str=>cases h2 with
   | str=>cases e; exact PySem.W.kas_lt_str hq
   | _=>exact absurd hy (by simp[fe])
  | _=>exact absurd hx (by simp[fe])
 | 2,#[f,g,h1',h2',h3,h4]=>exact tup true #[f,g,h1',h2',λ_=>.inl #[h3,h4]]
 | 3,#[f,g,h1',h2',h3,h4]=>exact tup true #[f,g,h1',h2',λ_=>.inr #[h3,h4]]
 | n+4,#[f,g,h1',h2']=>exact tup false #[f,g,h1',h2',λz=>nomatch z]
end
def yi {ks:GD T}{c:GP}(h:yg ks=gV c){x y:T}(hx:x∈ks)(hy:y∈ks) :
  Gb c x y:=by
 have one:∀ {ty:Iw},ks.all (λk=>fe k==ty)=true->fe x=ty/\fe y=ty:=λha=>#[eq_of_beq (Hk.mp ha x hx),eq_of_beq (Hk.mp ha y hy)]
 have fst:∀ {ty:Iw},ks.all (λk=>(bn k).any λf=>fe f==ty)=true->∃f g,bn x=gV f/\bn y=gV g/\fe f=ty/\fe g=ty:=λ{ty} ha=>by
  have h1:=Hk.mp ha x hx;have h2:=Hk.mp ha y hy;cases e1:bn x with
  | none=>rw[e1]at h1; cases h1
  | some f=>
   cases e2:bn y with
   | none=>rw[e2]at h2; cases h2
   | some g=>
    rw[e1]at h1; rw[e2]at h2
    exact#[f,g,rfl,rfl,eq_of_beq (by simpa using h1),eq_of_beq (by simpa using h2)]
 unfold yg at h;split at h
 ·cases h; exact one (by assumption)
 ·split at h
  ·cases h; exact one (by assumption)
  ·split at h
   ·cases h; exact fst (by assumption)
   ·split at h
    ·cases h; exact fst (by assumption)
    ·split at h
     ·cases h;obtain⟨f,g,h1,h2,_⟩:=fst (by assumption)
      exact#[f,g,h1,h2]
     ·cases h
abbrev ee (S:aa):W->GN (GD W)
 | .tup xs=>gV xs
 | .ref i=>match gz S i with
  | some xs=>gV xs
  | none=>(kD S i).map λU=>U.map λp=>p.1.w
 | _=>td
abbrev d3:GP:=8
abbrev mC (ks:GD T):Hj:=decide (ks.length < 64)&&decide (T.depths ks<=d3)&&(decide (ks.length < 2)||((yg ks).isSome&&jI ks))
abbrev gX (xs:GD W)(S:aa):GN (W×aa):=match xs with
 | [x]=>match ee S x with
  | some ws=>match W.ts ws with
   | some ks=>if mC ks then gV (.ref S.length,S++[.lst (eA (zY ks) .non ws)])else td
   | none=>td
  | none=>td
 | _=>td
abbrev jJ (xs:GD W)(S:aa):GN (W×aa):=match xs with
 | [.ref i]=>match kD S i with
  | some U=>gV (.ref S.length,S++[.lst (U.map λp=>p.1.w)])
  | none=>gw [.ref i] S
 | xs=>gw xs S
abbrev pv (xs:GD W)(S:aa):GN (W×aa):=match xs with
 | [.ref i]=>match kD S i with
  | some U=>gV (.int U.length,S)
  | none=>pj [.ref i] S
 | xs=>pj xs S
abbrev mD (ks:GD T):GP:=argBest (zY ks) (ks.length - 1)
abbrev yj (xs:GD W)(S:aa):GN (W×aa):=match xs with
 | [.ref i]=>match gz S i with
  | some ws=>match W.ts ws with
   | some ks=>if T.depths ks<=d3/\jI ks=true then(ws[mD ks]?).map λw=>(w,S)else td
   | none=>td
  | none=>td
 | _=>td
abbrev gB:GD W->GN (GD Hj)
 | []=>gV []
 | .bl b::ws=>(gB ws).map (b :: ·)
 | _::_=>td
abbrev Bo (xs:GD W)(S:aa):GN (W×aa):=match xs with
 | [.ref i]=>match gz S i with
  | some ws=>(gB ws).map λbs=>(.bl (bs.all id),S)
  | none=>td
 | _=>td
section
variable{X:Cx}{J:GD (GU×IM)}{Y:L2.St}{H:Hp}{s:GL}{A:GD GU}{S:aa}
def RelL.pick {K:G4}{ws:GD W}{vs:GD V}(r:RelL K A H ws vs)(d:W)(d':V):∀(is:GD GP),(∀i∈is,i < ws.length)->RelL K A H (is.map λi=>ws.getD i d) (is.map λi=>vs.getD i d')
 | [],_=>.nil
 | i::is,h=>by
  have hi:=h i (.head _);obtain⟨v,h1,h2⟩:=r.get (G1 hi);show .cons ?_ (RelL.pick r d d' is λj hj=>h j (.tail _ hj))
  have e1:ws.getD i d=ws[i]:=by simp[hi]
  have e2:vs.getD i d'=v:=by simp[h1]
  change Rel K A H (ws.getD i d) (vs.getD i d');rw[e1,e2]; exact h2
def Vals.pick {vs:GD V}{us:GD GK}(r:Vals vs us)(d:V)(d':GK):∀(is:GD GP),(∀i∈is,i < vs.length)->Vals (is.map λi=>vs.getD i d) (is.map λi=>us.getD i d')
 | [],_=>.nil
 | i::is,h=>by
  have hi:=h i (.head _);obtain⟨v,h1,h2⟩:=L2.Vals.get r (G1 hi);show .cons ?_ (Vals.pick r d d' is λj hj=>h j (.tail _ hj))
  have e1:vs.getD i d=vs[i]:=by simp[hi]
  have e2:us.getD i d'=v:=by simp[h1]
  change L2.RelV (vs.getD i d) (us.getD i d');rw[e1,e2]; exact h2
def mE {n:GP}{lt:GP->GP->Hj}(hn:0 < n):∀i∈(mz lt (NT n)).toList,i < n:=λi hi=>Hd.mp ((mB (lt:=lt) (jp hn)).mem_iff.mp hi)
def uG {K:G4}{lt:GP->GP->Hj}{ws:GD W}{vs:GD V}(r:RelL K A H ws vs):RelL K A H (eA lt .non ws) (eA lt .non vs):=by
 unfold eA;rw[r.length];split
 ·exact r
 ·exact r.pick _ _ _ λi hi=>by rw[r.length]; exact mE ∅ i hi
def se {lt:GP->GP->Hj}{vs:GD V}{us:GD GK}(r:Vals vs us):Vals (eA lt .non vs) (eA lt .none us):=by
 unfold eA;rw[L2.Vals.length r];split
 ·exact r
 ·exact Vals.pick r _ _ _ λi hi=>by rw[L2.Vals.length r]; exact mE ∅ i hi
def nU {prog:Hx}{w:HL}{B:HE}{E:GK->GL->Prop}{l:GU}{vs:GD GK}{Q:GD GK->GL->Prop}(hl:Nj s.heap l vs.toArray)(hsz:vs.length<=sizeLine)
  (h:∀h' tk,(∀b o,s.heap.get? b=gV o->h'.get? b=gV o)->s.heap.objs.size<=h'.objs.size->Q vs { s with heap:=h',toks:=tk }):wpAny (model prog w) B (collect (.ref l)) Q E s:=by
 obtain⟨o,ho,hc,n,hd⟩:=id hl;unfold collect;show GH (Mx (IV entry_proto_collect' ?_));change wpAny _ _ (do again (.builtin "list.__iadd__" #[[<- newList [],.ref l],[]])) _ _ s
 show GH (MX (GX #[Code.quiet_builtin _ (by decide +kernel),IV entry_list_iadd' ?_]))
 change wpAny _ _ (Jv (.ref s.heap.objs.size) (.ref l) (.ref s.heap.objs.size)) _ _ { s with heap:=s.heap.push (seqObj "list" #[] 0) }
 unfold Jv;have ho':(s.heap.push (seqObj "list" #[] 0)).get? l=gV o:=GR _ ho;show GH (La (T:="tuple") #[o,ho',hc] ?_);have ht:(Kg "tuple" == Kg "tuple")=true:=by rfl
 rw[Ho (by rw[ht]; simp)]
 show GH (NB ho' hd ?_);show GH (NB (xs:=#[]) (n:=0) (He _ rfl) rfl ?_);rw[HD (by simp)]
 show GH (LG (xs:=#[]) (n:=0) (He _ rfl) rfl ?_ (IB _) (by show(#[]++vs.toArray).size<=sizeLine+1; simp only[Array.size_append,G9,IT]; omega))
 show GX ?_;change wpAny (model prog w) B (do
   let o <- load s.heap.objs.size
   match o.data with
   | .seq xs _=>pure xs.toList
   | _=>unsupported "internal:collect") Q E { s with heap:=(s.heap.push (seqObj "list" #[] 0)).update s.heap.objs.size (IH (· ++ vs.toArray)) }
 show GH (M4 (Mf (He _ rfl) _) ?_);change wpAny _ _ (pure ((#[]:HR GK)++vs.toArray).toList) Q E _;rw[show((#[]:HR GK)++vs.toArray).toList=vs by simp]
 show GX (h _ s.toks (λb o' e=>(Kq _ _ _ _ (Hu (Hf e))).trans (GR _ e)) ?_)
 rw[NU,size_push'];exact J0 _
def DicAt.raw {wd:HL}{a:GU}{xs:GD (T×GU×GK)}{h:HX}(d:DicAt wd a xs h):∃es ep,RawD a es ep h/\es.toList=xs.map (ud wd):=
 let ⟨_,_,_,o,es,ep,h1,h2,h3,h4⟩:=d; #[es,ep,#[o,h1,h2,h3],h4]
def KRel.keysL {U:GD (T×W)}{xs:GD (T×GU×GK)}(r:KRel X.K A H U xs):RelL X.K A H (U.map λp=>p.1.w) (xs.map λq=>V.ref q.2.1):=by
 unfold KRel at r
 induction r with
 | nil=>exact .nil
 | cons h t ih=>exact .cons h.2.2.2.1 ih
def lg (xs:GD (T×GU×GK)):Vals (xs.map λq=>V.ref q.2.1) (xs.map λq=>HQ q.2.1):=by
 induction xs with
 | nil=>exact .nil
 | cons x xs ih=>exact .cons rfl ih
def jK {wd:HL}{es:HR Jn}{xs:GD (T×GU×GK)}(he:es.toList=xs.map (ud wd)){acc:HR GK}(ha:L1 (λi v=>∃e,es[i]?=gV e/\e.key=v) acc es.size):acc.toList=xs.map λq=>HQ q.2.1:=by
 have hl:es.size=xs.length:=by rw[<- HG,he,GF]
 apply KY
 ·rw[HG,ha.1,GF,hl]
 ·intro i h1 h2;rw[HG]at h1;obtain⟨e,q1,q2⟩:=ha.2 i acc[i] (by simp[h1])
  rw[<- IN,he,GV]at q1;rw[GF]at h2;rw[G1 h2]at q1;simp only[HA,HV]at q1;subst q1;rw[List.getElem_map,Array.getElem_toList];exact q2.symm
def sf {x:W}{a:V}{u:GK}{ws:GD W}(hh:X.A.handled=td)(I:Inv X J Y H s)(so:StoreOk X.w X.K A H S)(rx:Rel X.K A H x a)(ru:RelV a u)(e:ee S x=gV ws):∃vs us,RelL X.K A H ws vs/\Vals vs us/\us.length<=sizeLine/\
  ∀(B:HE) (hB:B.handled=td) (E:GK->GL->Prop) (Q':GD GK->GL->Prop),(∀h' tk,(∀b o,s.heap.get? b=gV o->h'.get? b=gV o)->s.heap.objs.size<=h'.objs.size->Q' us { s with heap:=h',toks:=tk })->wpAny (model X.prog X.w) B (collect u) Q' E s:=by
 cases rx with
 | tup h1 r1=>
  cases e;obtain⟨its,rv,ht,hz⟩:=I.tuple h1;obtain rfl:u=HQ _:=ru;exact#[_,its,r1,rv,by rw[<- L2.Vals.length rv]; exact hz,λB hB E Q' h=>nU ht (by rw[<- L2.Vals.length rv]; exact hz) h]
 | ref ea=>
  dsimp only[ee]at e;split at e
  ·rename_i xs hx;cases e;obtain⟨vs,h1,r1⟩:=cy so hx ea;obtain⟨its,rv,p,hz⟩:=I.list h1;obtain rfl:u=HQ _:=ru;show#[_,its,r1,rv,by rw[<- L2.Vals.length rv]; exact hz,λB hB E Q' h=>collect_list p.isList (h _ s.toks (λb o' e=>(Kq _ _ _ _ (Hu (Hf e))).trans (GR _ e)) ?_) (by rw[<- L2.Vals.length rv]; exact hz)]
   rw[NU,size_push'];exact J0 _
  ·rw[GM]at e;obtain⟨U,hk,rfl⟩:=e;obtain⟨xs,rd,kr⟩:=fD so hk ea;have d:=cu I rd;obtain⟨es,ep,raw,he⟩:=d.raw;obtain rfl:u=HQ _:=ru;have hl:es.size=xs.length:=by rw[<- HG,he,GF]
   show#[_,_,kr.keysL,lg xs,by rw[GF]; exact d.1,λB hB E Q' h=>nP (qF d.2.1) hB raw (by rw[hl]; exact d.1) λh' tk acc hk' hle ha=>?_]
   rw[jK he ha];exact h h' tk hk' hle
 | _=>cases e
def lh {h':HX}{tk c:GP}{D:GU}{ws:GD W}{vs:GD V}{us:GD GK}(I:Inv X J Y H s)(so:StoreOk X.w X.K A H S)(r:RelL X.K A H ws vs)(rv:Vals vs us)(hz:us.length<=sizeLine)(hk:∀b o,s.heap.get? b=gV o->h'.get? b=gV o)(hD:s.heap.objs.size<=D)
  (ho:h'.get? D=gV { cls:=.type "list",data:=.seq us.toArray c }):PostE X J Y A H (S++[.lst ws]) (.ref S.length) (.ref D) { s with heap:=h',toks:=tk }:=by
 have hn:H D=td:=I.hok.fresh hD;show#[.ref D,_,A++[D],I.laid (a:=D) (o:=.lst vs) (t':=tk) hk hD #[by rw[L2.Vals.length rv]; exact hz,us,c,rv,ho],rfl,dQ hn,so.push hn r,.ref ?_]
 rw[<- so.len]; simp
def mF (hh:X.A.handled=td)(hu:X.A.units+12 < cLine):LCall X (.builtin "sorted") gX:=by
 intro J s Y H A S xs vs us w S' I so rl rv e;cases rl with
 | nil=>cases e
 | cons r t=>
  cases t with
  | cons _ _=>cases e
  | nil=>
   cases rv with
   | cons ru rv2=>
    cases rv2;dsimp only[gX]at e;split at e
    ·rename_i ws hw;split at e
     ·rename_i ks hk;split at e
      ·rename_i hok;cases e;obtain⟨vs',us',r1,rv1,hz,hcol⟩:=sf hh I so r ru hw
       (dsimp only[mC]at hok; simp only[GQ,Hy]at hok)
       obtain⟨⟨h64,hd⟩,hok⟩:=hok;have hws:T.ws ks=ws:=W.ts_w hk;have hT:IsTs s.heap ks us':=fS I ks (hws ▸ r1) rv1;have hl:us'.length=ks.length:=hT.length.symm;have sk:2<=us'.length->(yg ks).isSome=true/\jI ks=true:=λh2=>by
        rcases IK _ _ ▸ hok with h|h
        ·simp only[Hy]at h; omega
        ·simpa using h
       show sa (vs:=us') (lt:=zY ks) (κ:=uE ((yg ks).getD 0)) ∅ (λQ' hQ'=>hcol X.A.in1 hh _ Q' hQ') (λh2 h' tk hk' Q hq=>?_) (λh2 h' tk hk' i j hi hj Q hq=>?_) λD h' tk c hk' hD ho=>?_
       ·obtain⟨q1,q2⟩:=sk h2;obtain⟨c,hc⟩:=Ig.mp q1;rw[hc]at hq;exact Bn (s:={ s with heap:=h',toks:=tk }) (hT.kept λb o _ e=>hk' b o e) h2 hc hq
       ·obtain⟨q1,q2⟩:=sk h2;obtain⟨c,hc⟩:=Ig.mp q1;rw[hc];have hi':i < ks.length:=∅
        have hj':j < ks.length:=∅
        have g:=(hT.kept (h':=h') λb o _ e=>hk' b o e)
        have e1:us'.getD i HZ=us'[i]:=by simp[hi]
        have e2:us'.getD j HZ=us'[j]:=by simp[hj]
        rw[e1,e2];have b1:=dR (ks:=ks) i hi';have b2:=dR (ks:=ks) j hj';exact yh (s:={ s with heap:=h',toks:=tk }) (d:=d3) (c:=c) (by rw[be,be]; unfold d3; omega) ∅ ∅ (g.get i hi' hi) (g.get j hj' hj) (uF q2 hi' hj') (yi hc (HW hi') (HW hj')) hq
       ·exact lh I so (uG r1) (se rv1) (by rw[nS]; exact hz) hk' hD ho
      ·cases e
     ·cases e
    ·cases e
def nV (hh:X.A.handled=td):LCall X (.type "list") jJ:=by
 intro J s Y H A S xs vs us w S' I so rl rv e
 by_cases hd:∃i U,xs=[.ref i]/\kD S i=gV U
 ·obtain⟨i,U,rfl,hk⟩:=hd
  (dsimp only[jJ]at e; simp only[hk]at e)
  cases e;cases rl with
  | cons r t=>
   cases t;cases rv with
   | cons ru rv2=>
    cases rv2;cases r with
    | ref ea=>
     obtain⟨xs,rd,kr⟩:=fD so hk ea;have d:=cu I rd;obtain⟨es,ep,raw,he⟩:=d.raw;obtain rfl:_=HQ _:=ru;have hl:es.size=xs.length:=by rw[<- HG,he,GF]
     show PySem.W.kdl_call (qF d.2.1) hh raw (by rw[hl]; exact d.1) λh' tk acc' c' hk' hD ha=>?_
     have ea':=jK he ha;show lh (us:=acc'.toList) I so kr.keysL (ea' ▸ lg xs) (by rw[ea',GF]; exact d.1) hk' (G3 _) (c:=c') ?_
     simpa using hD
 ·have:jJ xs S=gw xs S:=by
   unfold jJ;split
   ·rename_i i;split
    ·rename_i U hk;exact absurd #[i,U,rfl,hk] hd
    ·rfl
   ·rfl
  rw[this]at e;exact gA J s Y H A S xs vs us w S' I so rl rv e
end
open PySem.W (KasT kas_sort kas_asc kas_desc kas_tail3 kas_descPart kas_count kas_place kas_bin kas_rev)
abbrev gt (p:HR GP)(i:GP):GP:=p.getD i 0
end Mi
namespace Mi
open PySem PySem.Spec PyProof.Rows L2
def uH {α:Type}{lt:GP->GP->Hj}{d:α}{xs:GD α}:(eA lt d xs).Perm xs:=by
 unfold eA;split
 ·exact .refl _
 ·have p:Pm xs.length (mz lt (NT xs.length)):=mB (jp ∅)
  show(PU _ p).trans ?_;have:(G8 xs.length).map (λi=>xs.getD i d)=xs:=by
   apply KY
   ·simp
   ·intro k h1 h2; simp[h2]
  rw[this]
abbrev jL (xs:GD W)(S:aa):GN (W×aa):=match xs with
 | [.ref i]=>match ut S i with
  | some (lo,hi)=>if -(2 ^ 62)<=lo/\lo < 2 ^ 62/\-(2 ^ 62)<=hi/\hi < 2 ^ 62/\(hi - lo).toNat<=sizeLine then gV (.tup (yd lo (hi - lo).toNat),S)else td
  | none=>jE [.ref i] S
 | xs=>jE xs S
section
variable{prog:Hx}{w:HL}{A:HE}{E:GK->GL->Prop}{s:GL}
def kI {Q:GD GK->GL->Prop}{r:GU}{a b c:G0}{t u v:PX}{n:GP}(hh:A.handled=td)(hr:PC s.heap r a b c t u v)(hsmall:K7 a b c=true)
  (hn:IX a b c=n) (hlen:n<=2 ^ 24)
  (hQ:∀h' tk (acc:HR GK),(∀b o,s.heap.get? b=gV o->h'.get? b=gV o)->s.heap.objs.size<=h'.objs.size->L1 (λi v=>∃t,v=.int (a+i*c) t) acc n->Q acc.toList { s with heap:=h',toks:=tk }):wpAny (model prog w) A (collect (.ref r)) Q E s:=by
 unfold collect;show GH (Mx (IV F.entry_proto_collect ?_));rw[II F.plain_proto_collect _];change wpAny _ A.in1 (newList [] >>= λl=>again (.builtin "list.__iadd__" #[[l,.ref r],[]])) _ _ s
 show GH (HS ?_);show GX #[J8 F.plain_list_iadd _,IV F.entry_list_iadd ?_];rw[II F.plain_list_iadd _];change wpAny _ A.in1 (Jv (.ref s.heap.objs.size) (.ref r) (.ref s.heap.objs.size)) _ _ _;have hS:(s.heap.push { cls:=.type "list",data:=.seq ([]:GD GK).toArray }).get? s.heap.objs.size=gV { cls:=.type "list",data:=.seq #[] 0 }:=He _ rfl;have fin':∀s',(∃h' tk acc c',s'={ s with heap:=h',toks:=tk }/\(∀b o,s.heap.get? b=gV o->h'.get? b=gV o)/\h'.get? s.heap.objs.size=gV { cls:=.type "list",dict:=td,data:=.seq acc c',slots:=#[] }/\L1 (λi v=>∃t,v=.int (a+i*c) t) acc n)->wpAny (model prog w) A (do
   let o <- load s.heap.objs.size
   match o.data with
   | .seq xs _=>pure xs.toList
   | _=>unsupported "internal:collect") Q E s':=by
  rintro s' ⟨h',tk,acc,c',rfl,hk,hS',hacc⟩;exact GH (M4 hS' (GX (hQ h' tk acc hk (KH (Hf hS')) hacc)))
 show IW (wpAny_extend_range (A:=A) (s:={ s with heap:=s.heap.push { cls:=.type "list",data:=.seq ([]:GD GK).toArray } }) (R:=λr s'=>r=.ok (.ret (.ref s.heap.objs.size))/\∃h' tk acc c',s'={ s with heap:=h',toks:=tk }/\(∀b o,s.heap.get? b=gV o->h'.get? b=gV o)/\h'.get? s.heap.objs.size=gV { cls:=.type "list",dict:=td,data:=.seq acc c',slots:=#[] }/\L1 (λi v=>∃t,v=.int (a+i*c) t) acc n) hh (GR _ hr) hsmall hn hlen _ _ 0 hS λh' tk acc' c' hk hS' hacc=>#[rfl,h',tk,acc',c',rfl,λb o e=>hk b o (Hu (Hf e)) (GR _ e),hS',hacc]) (λfin s' h=>?_) (λe s' h=>?_)
 ·cases fin with
  | done f=>
   obtain⟨e,h⟩:=h;cases e;exact fin' s' h
  | again c'=>exact#[h.1,LV h.2 λr s'' hr=>by obtain⟨rfl,hr⟩:=hr; exact fin' s'' hr]
 ·exact absurd h.1 (by simp)
def iC {Q₁:GK->GL->Prop}{r:GU}{a b c:G0}{t u v:PX}{n:GP}(hh:A.handled=td)(hr:PC s.heap r a b c t u v)(hsmall:K7 a b c=true)
  (hn:IX a b c=n) (hlen:n<=2 ^ 24)
  (h:∀(h':HX) (tk:GP) (acc:HR GK),(∀b o,s.heap.get? b=gV o->h'.get? b=gV o)->s.heap.objs.size<=h'.objs.size->L1 (λi v=>∃t,v=.int (a+i*c) t) acc n->Q₁ (.ref h'.objs.size) { s with heap:=h'.push { cls:=.type "tuple",data:=.seq acc },toks:=tk }) :
  codeAny (model prog w) A (.call (.builtin "tuple.__new__") #[[.type "tuple",.ref r],[]]) (wants Q₁ E) s:=by
 show codeAny_of_tree ?_;change wpAny _ A.in1 (do checkBuiltinCall "tuple.__new__" #[[.type "tuple",.ref r],[]]; again (.builtin "tuple.__new__" #[[.type "tuple",.ref r],[]])) _ _ s
 show GH (Mu (F.newCall_tuple_1 _) (GX #[J8 F.plain_tuple_new _,IV F.entry_tuple_new ?_]));rw[II F.plain_tuple_new _];have hsub:=PySem.sub_tuple_self;have hinit:=PySem.init_tuple_lookup;have hmh:=PySem.madeHere_tuple;have hTI:s.TypeIs (.ref r) "range":=#[_,hr,rfl];have hh1:A.in1.handled=td:=by simp[hh]
 wp_walk using La hTI,kI (A:=A.in1) hh1 hr hsmall hn hlen
 intro h' tk acc hk hle hacc;change wpAny _ _ (IQ acc.toList.toArray >>= λv=>ret v) _ _ _
 unfold IQ;show GH (HS ?_ (by change acc.toList.toArray.size<=sizeLine; simp only[Array.toArray_toList]; rw[hacc.1,Ik]; omega))
 show GX ?_;have e:acc.toList.toArray=acc:=by simp
 rw[e];exact h h' tk acc hk hle hacc
def iD {Q:GK->GL->Prop}{r:GU}{a b c:G0}{t u v:PX}{n:GP}(hh:A.handled=td)(hr:PC s.heap r a b c t u v)(hsmall:K7 a b c=true)
  (hn:IX a b c=n) (hlen:n<=2 ^ 24)
  (hQ:∀(h':HX) (tk:GP) (acc:HR GK),(∀b o,s.heap.get? b=gV o->h'.get? b=gV o)->s.heap.objs.size<=h'.objs.size->L1 (λi v=>∃t,v=.int (a+i*c) t) acc n->Q (.ref h'.objs.size) { s with heap:=h'.push { cls:=.type "tuple",data:=.seq acc },toks:=tk }) :
  wpAny (model prog w) A (call (.type "tuple") [.ref r]) Q E s:=by
 show callType_codes (Q₁:=λobj s₁=>s₁.TypeIs obj "tuple"/\Q obj s₁) F.called_tuple (F.typeCall_tuple_1 _) F.entry_object_init
  (iC (by simp[hh]) hr hsmall hn hlen λh' tk acc hk hle hacc=>#[#[_,He _ rfl,rfl],hQ h' tk acc hk hle hacc]) λobj s₁ h₁=>?_
 exact#[h₁.1,F.args_object_init_2 obj _,object_init_meets F.called_tuple.init.lookup F.called_tuple.made #v[] prog w A.in1 _ s₁ #[h₁.1,rfl,h₁.2]]
end
section
variable{X:Cx}{J:GD (GU×IM)}{Y:L2.St}{H:Hp}{s:GL}{A:GD GU}{S:aa}
def mG (hh:X.A.handled=td):LCall X (.type "tuple") jL:=by
 intro J s Y H A S xs vs us w S' I so rl rv e;unfold jL at e;split at e
 ·rename_i i;split at e
  ·rename_i lo hi hr;split at e
   ·rename_i hb;cases e;obtain⟨a,ea,rfl⟩:=qB (xs:=[]) rl rv;obtain⟨b1,b2,b3,b4,b5⟩:=hb;have hH:H a=gV (.rng lo hi):=by
     unfold ut at hr;split at hr
     ·rename_i hx; cases hr; exact so.obj i _ a hx ea
     ·cases hr
    obtain⟨t,u,v,ho⟩:=I.hok a _ hH;have hn:IX lo hi 1=((hi - lo).toNat:GP):=by rw[MS]; split <;> omega
    show iD hh ho (OU b1 b2 b3 b4) hn b5 λh' tk acc hk hle hacc=>?_
    have hv:Vals ((G8 (hi - lo).toNat).map λ(k:GP)=>V.int (lo+(k:G0))) acc.toList:=by
     show mj (by rw[GF,Hq,HG,hacc.1]) λi v u e1 e2=>?_
     rw[GV,GM]at e1;obtain⟨k,e1,rfl⟩:=e1;obtain⟨hk,rfl⟩:=G5.mp e1;obtain⟨t,rfl⟩:=hacc.2 i u (by rw[<- IN]; exact e2)
     exact#[t,by simp]
    have hnn:H h'.objs.size=td:=I.hok.fresh hle;show#[.ref h'.objs.size,_,A,I.laid (a:=h'.objs.size) (o:=.tup ((G8 (hi - lo).toNat).map λ(k:GP)=>V.int (lo+(k:G0)))) (t':=tk) (λb o e=>GR _ (hk b o e)) hle #[#[by simpa using b5,NoD.new _ _ _],acc.toList,hv,?_],rfl,dg (.inl hnn),so.lay hnn,.tup (.inl (.inl aY)) (mn _)]
    exact#[_,He _ rfl,rfl,0,by simp]
   ·cases e
  ·exact i3 J s Y H A S _ vs us w S' I so rl rv e
 ·exact i3 J s Y H A S _ vs us w S' I so rl rv e
def sg (hh:X.A.handled=td)(hu:X.A.units+12 < cLine):LCall X (.builtin "min") yj:=by
 intro J s Y H A S xs vs us w S' I so rl rv e;cases rl with
 | nil=>cases e
 | cons r t=>
  cases t with
  | cons _ _=>cases r <;> cases e
  | nil=>
   cases rv with
   | cons ru rv2=>
    cases rv2;cases r with
    | ref ea=>
     dsimp only[yj]at e;split at e
     ·rename_i ws hw;split at e
      ·rename_i ks hk;split at e
       ·rename_i hc;rw[GM]at e;obtain⟨w',e1,e2⟩:=e;cases e2;obtain⟨vs',h1,r1⟩:=cy so hw ea;obtain⟨its,rv1,p,hz⟩:=I.list h1;obtain rfl:_=HQ _:=ru;have hws:T.ws ks=ws:=W.ts_w hk;have hT:IsTs s.heap ks its:=fS I ks (hws ▸ r1) rv1;have hl:its.length=ks.length:=hT.length.symm;have hlw:ws.length=ks.length:=by rw[r1.length,L2.Vals.length rv1,hl]
        have hn:0 < ks.length:=by
         have:=(G5.mp e1).1;omega
        show uB (items:=its.toArray) (bt:=zY ks) hh p.isList (by simpa [hl]using hn) (λi j vi vj s' Q E hk' hi hj hq=>?_) λv h' tk hv hk'=>?_
        ·have hi':i < ks.length:=by
          have:=(JA.mp hi).1
          simpa [hl]using this
         have hj':j < ks.length:=by
          have:=(JA.mp hj).1
          simpa [hl]using this
         have g:=hT.kept (h':=s'.heap) λb o _ e=>hk' b o e
         have e1:vi=its[i]'∅:=by
          have:=(JA.mp hi).2
          simpa using this.symm
         have e2:vj=its[j]'∅:=by
          have:=(JA.mp hj).2
          simpa using this.symm
         subst e1 e2;have b1:=dR (ks:=ks) i hi';have b2:=dR (ks:=ks) j hj';exact Do d3 _ _ _ _ X.A.in1 s' _ ∅ ∅ (g.get i hi' ∅) (g.get j hj' ∅) (by rw[be]; unfold d3; omega) (uF hc.2 hi' hj') X.prog X.w _ _ hq
        ·have hv':its[mD ks]?=gV v:=by
          have:its.toArray.size=ks.length:=by simpa using hl
          rw[this]at hv
          simpa [mD]using hv
         obtain⟨v',q1,q2⟩:=r1.get e1;obtain⟨u',q3,q4⟩:=L2.Vals.get rv1 q1;rw[hv']at q3;cases q3;exact#[v',H,A,I.kept hk',q4,.refl,so,q2]
       ·cases e
      ·cases e
     ·cases e
    | _=>cases e
def ll:∀ {ws:GD W} {bs:GD Hj},gB ws=gV bs->ws=bs.map W.bl
 | [],bs,h=>by cases h; rfl
 | .bl b::ws,bs,h=>by
  (dsimp only[gB]at h; simp only[GM]at h)
  obtain⟨r,h1,h2⟩:=h;subst h2;rw[ll h1]; rfl
 | .non::_,_,h|.int _::_,_,h|.str _::_,_,h|.tup _::_,_,h|.ref _::_,_,h=>by cases h
def pA {bs:GD Hj}{vs:GD V}{us:GD GK}(r:RelL X.K A H (bs.map W.bl) vs)(rv:Vals vs us):us=bs.map Jo:=by
 induction bs generalizing vs us with
 | nil=>cases r; cases rv; rfl
 | cons b bs ih=>
  cases r with
  | cons r1 r2=>
   cases rv with
   | cons v1 v2=>
    cases r1;obtain rfl:_=Jo b:=v1;rw[ih r2 v2]; rfl
def sh (bs:GD Hj):(G8 bs.length).all (λi=>bs.getD i false)=bs.all id:=by
 induction bs with
 | nil=>rfl
 | cons b bs ih=>simp[LY,KN,KP]at ih ⊢; rw[ih]
def Bp {id:Iw}{fb:GD Hj->Hj}{g:GD W->aa->GN (W×aa)}(hg:∀xs S,g xs S=match xs with|[.ref i]=>(match gz S i with|some ws=>(gB ws).map λbs=>(.bl (fb bs),S)|none=>td)|_=>td)
  (hcall:∀ {s:GL} {x:GK} {Q:GK->GL->Prop} {E:GK->GL->Prop} {bs:GD Hj},wpAny (model X.prog X.w) X.A.in1 (pyIter x) (λit s₂=>∃I fp wr P St,it=.ref I/\PP X.prog X.w X.A.in1 I fp wr bs.length P St/\St 0 s₂.heap/\TruthOf X.prog X.w X.A.in1 P (λi=>bs.getD i false)/\
   ∀h' tk,(∀b o,b∉wr->s₂.heap.get? b=gV o->h'.get? b=gV o)->Q (.bool (fb bs)) { s₂ with heap:=h',toks:=tk }) E s->wpAny (model X.prog X.w) X.A (call (.builtin id) [x]) Q E s)
  (hh:X.A.handled=td):LCall X (.builtin id) g:=by
 intro J s Y H A S xs vs us w S' I so rl rv e;rw[hg]at e;cases rl with
 | nil=>cases e
 | cons r t=>
  cases t with
  | cons _ _=>cases r <;> cases e
  | nil=>
   cases rv with
   | cons ru rv2=>
    cases rv2;cases r with
    | @ref ri ad ea=>
     simp only at e;split at e
     ·rename_i ws hw;rw[GM]at e;obtain⟨bs,e1,e2⟩:=e;cases e2;obtain⟨vs',h1,r1⟩:=cy so hw ea;obtain⟨its,rv1,p,hz⟩:=I.list h1;obtain rfl:_=HQ _:=ru;rw[ll e1]at r1;have hits:=pA r1 rv1;show hcall (bs:=bs) ?_;show Ly p.isList ?_;have hlt:ad < s.heap.objs.size:=by obtain⟨_,ho,_⟩:=p.isList; exact Hf ho
      have W:=Pq (prog:=X.prog) (w:=X.w) (A:=X.A.in1) hh s.heap.objs.size ad (Hu hlt) its.toArray;have hsz:its.toArray.size=bs.length:=by rw[G9,hits,GF]
      rw[hsz]at W;show#[_,_,_,_,_,rfl,W,#[#[_,He _ rfl,rfl,rfl],?_],λi v s' Q E hi hq=>?_,λh' tk hk=>?_]
      ·obtain⟨o,ho,hc⟩:=p.isList;exact#[o,GR _ ho,hc]
      ·have hb:bs[i]?.map Jo=gV v:=by rw[<- GV,<- hits]; simpa using hi
       cases q:bs[i]? with
       | none=>rw[q]at hb; cases hb
       | some b=>
        rw[q]at hb;cases hb;have eb:bs.getD i false=b:=by simp[q]
        have hq:Q (bs.getD i false) s':=hq;rw[eb]at hq;exact ID hq
      ·show#[.bl (fb bs),H,A,I.kept (λb o e=>hk b o (λz=>?_) (GR _ e)),rfl,.refl,so,.bl]
       have hb:=Hf e;rw[G6.mp z]at hb;exact HY _ hb
     ·cases e
    | _=>cases e
def si (hh:X.A.handled=td):LCall X (.builtin "all") Bo:=
 Bp (fb:=λbs=>bs.all id) (λxs S=>rfl) (λ{s x Q E bs} h=>call_all_walk (IW h (λit s₂ #[I,fp,wr,P,St',a,b,c,d,f]=>#[I,fp,wr,_,P,St',_,a,b,c,d,λh' tk hk=>by rw[sh]; exact f h' tk hk]) λ_ _ e=>e)) hh
end
noncomputable abbrev FA:=Fm->aa->GN (GD W×aa)
noncomputable abbrev FT:=Fm->aa->GN (Hj×aa)
inductive Out where
 | nx (Z:Fm)|rt (w:W)|bk (Z:Fm)|ct (Z:Fm)
noncomputable abbrev FS:=Fm->aa->GN (Out×aa)
section
variable (X:Cx)
inductive tE (f:FE)(Y:L2.St)(H:Hp)(Q:VK):Prop
 | mk (A:GD GU) (Z:Fm) (S:aa) (w:W) (S':aa) (er:EnvRel X.K A H Z Y) (so:StoreOk X.w X.K A H S) (e:f Z S=gV (w,S')) (q:∀v H',EndV X.w X.K A H S' w v H'->Q v H'):tE f Y H Q
abbrev EndB (A:GD GU)(H:Hp)(S':aa)(k:Hj):Hj->Hp->Prop:=λb H'=>b=k/\∃A',Ext X.K A H A' H'/\StoreOk X.w X.K A' H' S'
inductive tT (f:FT)(Y:L2.St)(H:Hp)(Q:Hj->Hp->Prop):Prop
 | mk (A:GD GU) (Z:Fm) (S:aa) (k:Hj) (S':aa) (er:EnvRel X.K A H Z Y) (so:StoreOk X.w X.K A H S) (e:f Z S=gV (k,S')) (q:∀b H',EndB X A H S' k b H'->Q b H'):tT f Y H Q
inductive EndA (A:GD GU)(H:Hp)(S':aa)(ws:GD W)(vs:GD V)(H':Hp):Prop
 | mk (A':GD GU) (e:Ext X.K A H A' H') (so:StoreOk X.w X.K A' H' S') (r:RelL X.K A' H' ws vs):EndA A H S' ws vs H'
inductive tA (f:FA)(Y:L2.St)(H:Hp)(Q:GD V->Hp->Prop):Prop
 | mk (A:GD GU) (Z:Fm) (S:aa) (ws:GD W) (S':aa) (er:EnvRel X.K A H Z Y) (so:StoreOk X.w X.K A H S) (e:f Z S=gV (ws,S')) (q:∀vs H',EndA X A H S' ws vs H'->Q vs H'):tA f Y H Q
inductive EndF (A:GD GU)(H:Hp)(o:Out)(S':aa)(c:Fm->Out)(Y':L2.St)(H':Hp):Prop
 | mk (Z':Fm) (A':GD GU) (eo:o=c Z') (e:Ext X.K A H A' H') (so:StoreOk X.w X.K A' H' S') (er:EnvRel X.K A' H' Z' Y'):EndF A H o S' c Y' H'
inductive EndR (A:GD GU)(H:Hp)(o:Out)(S':aa)(v:V)(H':Hp):Prop
 | mk (w:W) (A':GD GU) (eo:o=.rt w) (e:Ext X.K A H A' H') (so:StoreOk X.w X.K A' H' S') (r:Rel X.K A' H' w v):EndR A H o S' v H'
abbrev EndS (A:GD GU)(H:Hp)(o:Out)(S':aa):Ends where
 nx:=EndF X A H o S' .nx
 rt:=EndR X A H o S'
 bk:=EndF X A H o S' .bk
 ct:=EndF X A H o S' .ct
structure Imp (E D:Ends):Prop where
 nx:∀Y H,E.nx Y H->D.nx Y H
 rt:∀v H,E.rt v H->D.rt v H
 bk:∀Y H,E.bk Y H->D.bk Y H
 ct:∀Y H,E.ct Y H->D.ct Y H
inductive tS (f:FS)(D:Ends)(Y:L2.St)(H:Hp):Prop
 | mk (A:GD GU) (Z:Fm) (S:aa) (o:Out) (S':aa) (er:EnvRel X.K A H Z Y) (so:StoreOk X.w X.K A H S) (e:f Z S=gV (o,S')) (d:Imp (EndS X A H o S') D):tS f D Y H
noncomputable abbrev GE (e:Hl)(f:FE):Prop:=PE X e (tE X f)
noncomputable abbrev GT (e:Hl)(f:FT):Prop:=PT X e (tT X f)
noncomputable abbrev GW (e:Hl)(f:FT):Prop:=PW X e (tT X f)
noncomputable abbrev GA (es:GD Hl)(f:FA):Prop:=PA X es (tA X f)
noncomputable abbrev GS (st:JR)(f:FS):Prop:=PS X st (tS X f)
noncomputable abbrev GSs (sts:GD JR)(f:FS):Prop:=PSs X sts (tS X f)
end
def Imp.trans {E D F:Ends}(a:Imp E D)(b:Imp D F):Imp E F:=#[λ_ _ h=>b.nx _ _ (a.nx _ _ h),λ_ _ h=>b.rt _ _ (a.rt _ _ h),λ_ _ h=>b.bk _ _ (a.bk _ _ h),λ_ _ h=>b.ct _ _ (a.ct _ _ h)]
section
variable{X:Cx}
def GE.of {e:Hl}{t:TE}{f:FE}(h:PE X e t)(hf:∀(Y:L2.St) (H:Hp) (A:GD GU) (Z:Fm) (S:aa) (w:W) (S':aa),EnvRel X.K A H Z Y->StoreOk X.w X.K A H S->f Z S=gV (w,S')->∀Q:VK,(∀v H',EndV X.w X.K A H S' w v H'->Q v H')->t Y H Q):GE X e f:=
 λJ s Y H Q I #[A,Z,S,w,S',er,so,e1,hq]=>h J s Y H Q I (hf Y H A Z S w S' er so e1 Q hq)
def GT.of {e:Hl}{t:TT}{f:FT}(h:PT X e t)(hf:∀(Y:L2.St) (H:Hp) (A:GD GU) (Z:Fm) (S:aa) (k:Hj) (S':aa),EnvRel X.K A H Z Y->StoreOk X.w X.K A H S->f Z S=gV (k,S')->∀Q:Hj->Hp->Prop,(∀b H',EndB X A H S' k b H'->Q b H')->t Y H Q):GT X e f:=
 λJ s Y H Q I #[A,Z,S,w,S',er,so,e1,hq]=>h J s Y H Q I (hf Y H A Z S w S' er so e1 Q hq)
def GW.of {e:Hl}{t:TT}{f:FT}(h:PW X e t)(hf:∀(Y:L2.St) (H:Hp) (A:GD GU) (Z:Fm) (S:aa) (k:Hj) (S':aa),EnvRel X.K A H Z Y->StoreOk X.w X.K A H S->f Z S=gV (k,S')->∀Q:Hj->Hp->Prop,(∀b H',EndB X A H S' k b H'->Q b H')->t Y H Q):GW X e f:=
 λwh J s Y H Q I #[A,Z,S,w,S',er,so,e1,hq]=>h wh J s Y H Q I (hf Y H A Z S w S' er so e1 Q hq)
def GA.of {es:GD Hl}{t:TA}{f:FA}(h:PA X es t)(hf:∀(Y:L2.St) (H:Hp) (A:GD GU) (Z:Fm) (S:aa) (ws:GD W) (S':aa),EnvRel X.K A H Z Y->StoreOk X.w X.K A H S->f Z S=gV (ws,S')->∀Q:GD V->Hp->Prop,(∀vs H',EndA X A H S' ws vs H'->Q vs H')->t Y H Q):GA X es f:=
 λpos J s Y H Q I #[A,Z,S,w,S',er,so,e1,hq]=>h pos J s Y H Q I (hf Y H A Z S w S' er so e1 Q hq)
def GS.of {st:JR}{t:TS}{f:FS}(h:PS X st t)(hf:∀(Y:L2.St) (H:Hp) (A:GD GU) (Z:Fm) (S:aa) (o:Out) (S':aa),EnvRel X.K A H Z Y->StoreOk X.w X.K A H S->f Z S=gV (o,S')->∀D:Ends,Imp (EndS X A H o S') D->t D Y H):GS X st f:=
 λJ s Y H D I #[A,Z,S,o,S',er,so,e1,hq]=>h J s Y H D I (hf Y H A Z S o S' er so e1 D hq)
def GSs.of {st:GD JR}{t:TS}{f:FS}(h:PSs X st t)(hf:∀(Y:L2.St) (H:Hp) (A:GD GU) (Z:Fm) (S:aa) (o:Out) (S':aa),EnvRel X.K A H Z Y->StoreOk X.w X.K A H S->f Z S=gV (o,S')->∀D:Ends,Imp (EndS X A H o S') D->t D Y H):GSs X st f:=
 λJ s Y H D I #[A,Z,S,o,S',er,so,e1,hq]=>h J s Y H D I (hf Y H A Z S o S' er so e1 D hq)
def EndV.after {A A1:GD GU}{H H1:Hp}{S':aa}{w:W}{v:V}{H':Hp}(e:Ext X.K A H A1 H1)(h:EndV X.w X.K A1 H1 S' w v H'):EndV X.w X.K A H S' w v H':=by
 obtain⟨A',x,y,z⟩:=h;exact#[A',e.trans x,y,z]
def EndB.after {A A1:GD GU}{H H1:Hp}{S':aa}{k b:Hj}{H':Hp}(e:Ext X.K A H A1 H1)(h:EndB X A1 H1 S' k b H'):EndB X A H S' k b H':=by
 obtain⟨h1,A',x,y⟩:=h;exact#[h1,A',e.trans x,y]
def EndS.after {A A1:GD GU}{H H1:Hp}{S':aa}{o:Out}(e:Ext X.K A H A1 H1):Imp (EndS X A1 H1 o S') (EndS X A H o S'):=
 #[λ_ _ #[Z',A',a,b,c,d]=>#[Z',A',a,e.trans b,c,d],λ_ _ #[Z',A',a,b,c,d]=>#[Z',A',a,e.trans b,c,d],λ_ _ #[Z',A',a,b,c,d]=>#[Z',A',a,e.trans b,c,d],λ_ _ #[Z',A',a,b,c,d]=>#[Z',A',a,e.trans b,c,d]]
abbrev fC (w:W):FE:=λ_ S=>gV (w,S)
abbrev fV (i:GP):FE:=λZ S=>match Z[i]? with
 | some (gV w)=>gV (w,S)
 | _=>td
def nW {e:Hl}{v:V}{w:W}(h:PE X e (tC v))(r:∀A H,Rel X.K A H w v):GE X e (fC w):=
 GE.of h λY H A Z S w' S' er so e Q hq=>by cases e; exact hq _ _ (.here so (r A H))
def Fz {i:GP}{e:Hl}(h:PE X e (CM i)):GE X e (fV i):=GE.of h λY H A Z S w S' er so e Q hq=>by
 unfold fV at e;split at e
 ·rename_i w' hw;cases e;obtain⟨v,h1,h2⟩:=er.2 i _ hw;exact#[v,h1,hq _ _ (.here so h2)]
 ·cases e
abbrev yk (g:W->W->aa->GN (W×aa))(fa fb:FE):FE:=λZ S=>match fa Z S with
 | some (x,S1)=>match fb Z S1 with
  | some (y,S2)=>g x y S2
  | none=>td
 | none=>td
def EK {fa fb:FE}{g:W->W->aa->GN (W×aa)}{Z:Fm}{S:aa}{r:W×aa}(e:yk g fa fb Z S=gV r):∃x S1 y S2,fa Z S=gV (x,S1)/\fb Z S1=gV (y,S2)/\g x y S2=gV r:=by
 unfold yk at e;split at e
 ·rename_i x S1 h1;split at e
  ·rename_i y S2 h2;exact#[x,S1,y,S2,h1,h2,e]
  ·cases e
 ·cases e
def fE {fa fb:FE}{Z:Fm}{S S1 S2:aa}{x y:W}{Y:L2.St}{H:Hp}{A:GD GU}{R:V->V->Hp->Prop}(er:EnvRel X.K A H Z Y)(so:StoreOk X.w X.K A H S)(h1:fa Z S=gV (x,S1))(h2:fb Z S1=gV (y,S2))
  (h:∀a b H2 A2,Ext X.K A H A2 H2->StoreOk X.w X.K A2 H2 S2->Rel X.K A2 H2 x a->Rel X.K A2 H2 y b->R a b H2):tE X fa Y H λa H1=>tE X fb Y H1 λb H2=>R a b H2:=by
 show#[A,Z,S,x,S1,er,so,h1,λa H1 #[A1,e1,o1,r1]=>?_]
 show#[A1,Z,S1,y,S2,er.mono e1,o1,h2,λb H2 #[A2,e2,o2,r2]=>?_]
 exact h a b H2 A2 (e1.trans e2) o2 (r1.mono e2) r2
inductive rOp (X:Cx)(g:W->W->aa->GN (W×aa))(a b:V)(H:Hp)(Q:VK):Prop
 | mk (A:GD GU) (S:aa) (x y w:W) (S':aa) (so:StoreOk X.w X.K A H S) (rx:Rel X.K A H x a) (ry:Rel X.K A H y b) (e:g x y S=gV (w,S')) (q:∀v H',EndV X.w X.K A H S' w v H'->Q v H'):rOp X g a b H Q
inductive rCall (X:Cx)(g:GD W->aa->GN (W×aa))(vs:GD V)(H:Hp)(Q:VK):Prop
 | mk (A:GD GU) (S:aa) (ws:GD W) (w:W) (S':aa) (so:StoreOk X.w X.K A H S) (rl:RelL X.K A H ws vs) (e:g ws S=gV (w,S')) (q:∀v H',EndV X.w X.K A H S' w v H'->Q v H'):rCall X g vs H Q
def LOp.opr {f:GK->GK->O4 GK}{g:W->W->aa->GN (W×aa)}(h:LOp X f g):OpR X f (rOp X g):=by
 intro J s Y H a b u v Q I ru rv ⟨A,S,x,y,w,S',so,rx,ry,e,hq⟩;exact bm (h J s Y H A S x y a b u v w S' I so rx ru ry rv e) λu' s' #[v',H',A',I',r',e1,o1,z1]=>#[v',H',I',r',hq v' H' #[A',e1,o1,z1]]
def zZ {a b:Hl}{op:Nm}{pos:Jq}{fa fb:FE}{g:W->W->aa->GN (W×aa)}(ho:LOp X (binaryOp op) g)(ha:GE X a fa)(hb:GE X b fb):GE X (.BinOp a op b pos) (yk g fa fb):=
 GE.of (C3 ho.opr ha hb) λY H A Z S w S' er so e Q hq=>by
  obtain⟨x,S1,y,S2,h1,h2,h3⟩:=EK e;exact fE er so h1 h2 λa b H2 A2 e2 o2 r1 r2=>#[A2,S2,x,y,w,S',o2,r1,r2,h3,λv H' z=>hq v H' (z.after e2)]
abbrev uI (fa:FE):FE:=λZ S=>match fa Z S with
 | some (.int i,S1)=>gV (.int (-i),S1)
 | _=>td
def uJ {a:Hl}{pos:Jq}{fa:FE}(ha:GE X a fa):GE X (.UnaryOp .USub a pos) (uI fa):=
 GE.of (C4 AZ ha) λY H A Z S w S' er so e Q hq=>by
  unfold uI at e;split at e
  ·rename_i i S1 h1;cases e;show#[A,Z,S,_,_,er,so,h1,λv H1 #[A1,e1,o1,r1]=>?_]
   cases r1;exact#[_,rfl,hq _ _ #[A1,e1,o1,.int]]
  ·cases e
abbrev ym (o:COp)(fa fb:FE):FE:=yk (aJ o) fa fb
def Bq {a b:Hl}{o:COp}{pos:Jq}{fa fb:FE}(hu:X.A.units+fB < cLine)(ha:GE X a fa)(hb:GE X b fb)(hm:behindInMarks o.py b=false):GE X (.Compare a [o.py] [b] pos) (ym o fa fb):=
 GE.of (xz (nM hu o).opr ha hb hm) λY H A Z S w S' er so e Q hq=>by
  obtain⟨x,S1,y,S2,h1,h2,h3⟩:=EK e;exact fE er so h1 h2 λa b H2 A2 e2 o2 r1 r2=>#[A2,S2,x,y,w,S',o2,r1,r2,h3,λv H' z=>hq v H' (z.after e2)]
abbrev nX (f:FE):FT:=λZ S=>match f Z S with
 | some (.bl k,S')=>gV (k,S')
 | _=>td
def Br {a b:Hl}{o:COp}{pos:Jq}{fa fb:FE}(hu:X.A.units+fB < cLine)(ha:GE X a fa)(hb:GE X b fb)(hm:behindInMarks o.py b=false):GT X (.Compare a [o.py] [b] pos) (nX (ym o fa fb)):=
 GT.of (xA (nM hu o).opr ha hb hm) λY H A Z S k S' er so e Q hq=>by
  unfold nX at e;split at e
  ·rename_i k' S'' h0;cases e;obtain⟨x,S1,y,S2,h1,h2,h3⟩:=EK h0;show fE er so h1 h2 λa b H2 A2 e2 o2 r1 r2=>#[A2,S2,x,y,_,_,o2,r1,r2,h3,λv H' #[A',z1,z2,z3]=>?_]
   cases z3;exact#[k,rfl,hq _ _ #[rfl,A',e2.trans z1,z2]]
  ·cases e
abbrev fF (o o':COp)(fa fb fc:FE):FE:=λZ S=>match fa Z S with
 | some (x,S1)=>match fb Z S1 with
  | some (y,S2)=>match rT o x y S2 with
   | some true=>match fc Z S2 with
    | some (z,S3)=>dB o' y z S3
    | none=>td
   | some false=>gV (.bl false,S2)
   | none=>td
  | none=>td
 | none=>td
def jM {o o':COp}{fa fb fc:FE}{Y:L2.St}{H:Hp}{A:GD GU}{Z:Fm}{S:aa}{w:W}{S':aa}(er:EnvRel X.K A H Z Y)(so:StoreOk X.w X.K A H S)(e:fF o o' fa fb fc Z S=gV (w,S'))(Q:VK)(hq:∀v H',EndV X.w X.K A H S' w v H'->Q v H') :
  o8 (rOp X (dB o))
   (rOp X (dB o')) (tE X fa) (tE X fb) (tE X fc) Y H Q:=by
 unfold fF at e;split at e
 ·rename_i x S1 h1;split at e
  ·rename_i y S2 h2;show fE er so h1 h2 λa b H2 A2 e2 o2 r1 r2=>?_
   split at e
   ·rename_i hc;split at e
    ·rename_i z S3 h3;show#[A2,S2,x,y,.bl true,S2,o2,r1,r2,by simp[dB,hc],λv H3 #[A3,z1,z2,z3]=>?_]
     cases z3;show#[true,rfl,?_];rw[Ho rfl];show#[A3,Z,S2,z,S3,er.mono (e2.trans z1),z2,h3,λc H4 #[A4,y1,y2,y3]=>?_]
     exact#[A4,S3,y,z,w,S',y2,(r2.mono z1).mono y1,y3,e,λv H' q=>hq v H' (q.after ((e2.trans z1).trans y1))]
    ·cases e
   ·rename_i hc;cases e;show#[A2,S',x,y,.bl false,S',o2,r1,r2,by simp[dB,hc],λv H3 #[A3,z1,z2,z3]=>?_]
    cases z3;show#[false,rfl,?_];rw[HD Hb];exact hq _ _ #[A3,e2.trans z1,z2,.bl]
   ·cases e
  ·cases e
 ·cases e
def uK {a b c:Hl}{o o':COp}{pos:Jq}{fa fb fc:FE}(hu:X.A.units+fB < cLine)(ha:GE X a fa)(hb:GE X b fb)(hc:GE X c fc)(hm:lastMarks [o.py,o'.py] [b,c]=false):GE X (.Compare a [o.py,o'.py] [b,c] pos) (fF o o' fa fb fc):=
 GE.of (tK (gP hu o).opr (gP hu o').opr ha hb hc hm) λY H A Z S w S' er so e Q hq=>jM er so e Q hq
def uL {a b c:Hl}{o o':COp}{pos:Jq}{fa fb fc:FE}(hu:X.A.units+fB < cLine)(ha:GE X a fa)(hb:GE X b fb)(hc:GE X c fc)(hm:lastMarks [o.py,o'.py] [b,c]=false):GT X (.Compare a [o.py,o'.py] [b,c] pos) (nX (fF o o' fa fb fc)):=
 GT.of (tL (gP hu o).opr (gP hu o').opr ha hb hc hm) λY H A Z S k S' er so e Q hq=>by
  unfold nX at e;split at e
  ·rename_i k' S'' h0;cases e;show jM er so h0 (λx H'=>∃k,x=.bl k/\Q k H') λv H' #[A',z1,z2,z3]=>?_
   cases z3;exact#[_,rfl,hq _ _ #[rfl,A',z1,z2]]
  ·cases e
abbrev ga (f:FE):FT:=λZ S=>match f Z S with
 | some (w,S')=>(cX S' w).map λk=>(k,S')
 | none=>td
def cz {e:Hl}{f:FE}(h:GE X e f)(he:∀whole,isTrue e X.env whole=(do let v <- whole; standAt e.pos; holding [v] (truthy v))):GT X e (ga f):=by
 intro J s Y H Q I ⟨A,Z,S,k,S',er,so,e1,hq⟩;unfold ga at e1;split at e1
 ·rename_i w S1 h1;rw[GM]at e1;obtain⟨k',ek,e2⟩:=e1;cases e2;show isTrue_plain (bm (h J s Y H (EndV X.w X.K A H _ w) I #[A,Z,S,w,_,er,so,h1,λ_ _ z=>z]) λv s1 #[x,H1,I1,r1,A1,e1,o1,z1]=>?_) (he _)
  exact Fx I1 o1 z1 r1 ek λs' I'=>#[H1,I',hq _ _ #[rfl,A1,e1,o1]]
 ·cases e1
abbrev uM (f g:FT):FT:=λZ S=>match f Z S with
 | some (true,S1)=>g Z S1
 | some (false,S1)=>gV (false,S1)
 | none=>td
abbrev Dp (f g:FT):FT:=λZ S=>match f Z S with
 | some (true,S1)=>gV (true,S1)
 | some (false,S1)=>g Z S1
 | none=>td
abbrev yn (f:FT):FT:=λZ S=>match f Z S with
 | some (k,S1)=>gV (!k,S1)
 | none=>td
def uN {f g:FT}{Y:L2.St}{H:Hp}{A:GD GU}{Z:Fm}{S:aa}{k:Hj}{S':aa}(er:EnvRel X.K A H Z Y)(so:StoreOk X.w X.K A H S)(e:uM f g Z S=gV (k,S'))(Q:Hj->Hp->Prop)(hq:∀b H',EndB X A H S' k b H'->Q b H') :
  CN (tT X f) (tT X g) Y H Q:=by
 unfold uM at e;split at e
 ·rename_i S1 h1;show#[A,Z,S,true,S1,er,so,h1,λb H1 #[z0,A1,z1,z2]=>?_]
  subst z0;rw[Ho rfl];exact#[A1,Z,S1,k,S',er.mono z1,z2,e,λb H' q=>hq b H' (q.after z1)]
 ·rename_i S1 h1;cases e;show#[A,Z,S,false,_,er,so,h1,λb H1 #[z0,A1,z1,z2]=>?_]
  subst z0;rw[HD Hb];exact hq _ _ #[rfl,A1,z1,z2]
 ·cases e
def yo {f g:FT}{Y:L2.St}{H:Hp}{A:GD GU}{Z:Fm}{S:aa}{k:Hj}{S':aa}(er:EnvRel X.K A H Z Y)(so:StoreOk X.w X.K A H S)(e:Dp f g Z S=gV (k,S'))(Q:Hj->Hp->Prop)(hq:∀b H',EndB X A H S' k b H'->Q b H') :
  F8 (tT X f) (tT X g) Y H Q:=by
 unfold Dp at e;split at e
 ·rename_i S1 h1;cases e;show#[A,Z,S,true,_,er,so,h1,λb H1 #[z0,A1,z1,z2]=>?_]
  subst z0;rw[Ho rfl];exact hq _ _ #[rfl,A1,z1,z2]
 ·rename_i S1 h1;show#[A,Z,S,false,S1,er,so,h1,λb H1 #[z0,A1,z1,z2]=>?_]
  subst z0;rw[HD Hb];exact#[A1,Z,S1,k,S',er.mono z1,z2,e,λb H' q=>hq b H' (q.after z1)]
 ·cases e
def yp {a:Hl}{pos:Jq}{f:FT}(h:GT X a f):GW X (.BoolOp .And [a] pos) f:=xq h
def Bs {a:Hl}{pos:Jq}{f:FT}(h:GT X a f):GW X (.BoolOp .Or [a] pos) f:=AB h
def Bt {a b:Hl}{r:GD Hl}{pos:Jq}{f g:FT}(h:GT X a f)(h2:GW X (.BoolOp .And (b::r) pos) g):GW X (.BoolOp .And (a::b::r) pos) (uM f g):=
 GW.of (AC h h2) λY H A Z S k S' er so e Q hq=>uN er so e Q hq
def Dq {a b:Hl}{r:GD Hl}{pos:Jq}{f g:FT}(h:GT X a f)(h2:GW X (.BoolOp .Or (b::r) pos) g):GW X (.BoolOp .Or (a::b::r) pos) (Dp f g):=
 GW.of (CO h h2) λY H A Z S k S' er so e Q hq=>yo er so e Q hq
def Bu {a:Hl}{pos:Jq}{f:FT}(h:GT X a f):GT X (.UnaryOp .Not a pos) (yn f):=
 GT.of (AD h) λY H A Z S k S' er so e Q hq=>by
  unfold yn at e;split at e
  ·rename_i k1 S1 h1;cases e;show#[A,Z,S,k1,_,er,so,h1,λb H1 #[z0,A1,z1,z2]=>?_]
   subst z0;exact hq _ _ #[rfl,A1,z1,z2]
  ·cases e
abbrev qI (f g:FE):FE:=λZ S=>match f Z S with
 | some (.bl true,S1)=>g Z S1
 | some (.bl false,S1)=>gV (.bl false,S1)
 | _=>td
abbrev yq (f g:FE):FE:=λZ S=>match f Z S with
 | some (.bl true,S1)=>gV (.bl true,S1)
 | some (.bl false,S1)=>g Z S1
 | _=>td
abbrev qJ (f:FE):FE:=λZ S=>match f Z S with
 | some (.bl k,S1)=>gV (.bl (!k),S1)
 | _=>td
def Bv {a:Hl}{op:Ps}{pos:Jq}{f:FE}(h:GE X a f):GE X (.BoolOp op [a] pos) f:=AE h
def Bw {a b:Hl}{r:GD Hl}{pos:Jq}{f g:FE}(h:GE X a f)(h2:GE X (.BoolOp .And (b::r) pos) g):GE X (.BoolOp .And (a::b::r) pos) (qI f g):=
 GE.of (AF h h2) λY H A Z S w S' er so e Q hq=>by
  unfold qI at e;split at e
  ·rename_i S1 h1;show#[A,Z,S,_,S1,er,so,h1,λv H1 #[A1,z1,z2,z3]=>?_]
   cases z3;show#[true,rfl,?_];rw[Ho rfl];exact#[A1,Z,S1,w,S',er.mono z1,z2,e,λb H' q=>hq b H' (q.after z1)]
  ·rename_i S1 h1;cases e;show#[A,Z,S,_,_,er,so,h1,λv H1 #[A1,z1,z2,z3]=>?_]
   cases z3;show#[false,rfl,?_];rw[HD Hb];exact hq _ _ #[A1,z1,z2,.bl]
  ·cases e
def Dr {a b:Hl}{r:GD Hl}{pos:Jq}{f g:FE}(h:GE X a f)(h2:GE X (.BoolOp .Or (b::r) pos) g):GE X (.BoolOp .Or (a::b::r) pos) (yq f g):=
 GE.of (CS h h2) λY H A Z S w S' er so e Q hq=>by
  unfold yq at e;split at e
  ·rename_i S1 h1;cases e;show#[A,Z,S,_,_,er,so,h1,λv H1 #[A1,z1,z2,z3]=>?_]
   cases z3;show#[true,rfl,?_];rw[Ho rfl];exact hq _ _ #[A1,z1,z2,.bl]
  ·rename_i S1 h1;show#[A,Z,S,_,S1,er,so,h1,λv H1 #[A1,z1,z2,z3]=>?_]
   cases z3;show#[false,rfl,?_];rw[HD Hb];exact#[A1,Z,S1,w,S',er.mono z1,z2,e,λb H' q=>hq b H' (q.after z1)]
  ·cases e
def Bx {a:Hl}{pos:Jq}{f:FE}(h:GE X a f):GE X (.UnaryOp .Not a pos) (qJ f):=
 GE.of (AG h) λY H A Z S w S' er so e Q hq=>by
  unfold qJ at e;split at e
  ·rename_i k1 S1 h1;cases e;show#[A,Z,S,_,_,er,so,h1,λb H1 #[A1,z1,z2,z3]=>?_]
   cases z3;exact#[_,rfl,hq _ _ #[A1,z1,z2,.bl]]
  ·cases e
abbrev yr (c:FT)(f g:FE):FE:=λZ S=>match c Z S with
 | some (true,S1)=>f Z S1
 | some (false,S1)=>g Z S1
 | none=>td
def By {c a b:Hl}{pos:Jq}{fc:FT}{f g:FE}(hc:GT X c fc)(ha:GE X a f)(hb:GE X b g):GE X (.IfExp c a b pos) (yr fc f g):=
 GE.of (tj hc ha hb) λY H A Z S w S' er so e Q hq=>by
  unfold yr at e;split at e
  ·rename_i S1 h1;show#[A,Z,S,_,S1,er,so,h1,λb H1 #[z0,A1,z1,z2]=>?_]
   subst z0;rw[Ho rfl];exact#[A1,Z,S1,w,S',er.mono z1,z2,e,λb H' q=>hq b H' (q.after z1)]
  ·rename_i S1 h1;show#[A,Z,S,_,S1,er,so,h1,λb H1 #[z0,A1,z1,z2]=>?_]
   subst z0;rw[HD Hb];exact#[A1,Z,S1,w,S',er.mono z1,z2,e,λb H' q=>hq b H' (q.after z1)]
  ·cases e
abbrev gY:FA:=λ_ S=>gV ([],S)
abbrev dz (f:FE)(g:FA):FA:=λZ S=>match f Z S with
 | some (w,S1)=>match g Z S1 with
  | some (ws,S2)=>gV (w::ws,S2)
  | none=>td
 | none=>td
def Bz:GA X [] gY:=GA.of tM λY H A Z S ws S' er so e Q hq=>by cases e; exact hq _ _ #[A,.refl,so,.nil]
def yt {e:Hl}{es:GD Hl}{f:FE}{g:FA}(h:GE X e f)(h2:GA X es g)(hs:starEach (e::es) X.env=(false,eval e X.env)::starEach es X.env):GA X (e::es) (dz f g):=
 GA.of (lT h h2 hs) λY H A Z S ws S' er so e Q hq=>by
  unfold dz at e;split at e
  ·rename_i w S1 h1;split at e
   ·rename_i ws2 S2 h2;cases e;show#[A,Z,S,w,S1,er,so,h1,λv H1 #[A1,z1,z2,z3]=>?_]
    show#[A1,Z,S1,ws2,_,er.mono z1,z2,h2,λvs H2 #[A2,y1,y2,y3]=>?_]
    exact hq _ _ #[A2,z1.trans y1,y2,.cons (z3.mono y1) y3]
   ·cases e
  ·cases e
abbrev uO (f:FA):FE:=λZ S=>match f Z S with
 | some (ws,S1)=>ph S1 ws
 | none=>td
abbrev uP (f:FA):FE:=λZ S=>match f Z S with
 | some (ws,S1)=>kG S1 ws
 | none=>td
def uQ {es:GD Hl}{k:GP}{pos:Jq}{f:FA}(h:GA X es f):GE X (.Tuple es k pos) (uO f):=
 GE.of (Ba h) λY H A Z S w S' er so e Q hq=>by
  unfold uO at e;split at e
  ·rename_i ws S1 h1;obtain⟨hl,rfl,rfl⟩:=qu e;show#[A,Z,S,ws,_,er,so,h1,λvs H1 #[A1,z1,z2,z3]=>#[by rw[<- z3.length]; exact hl,λp hp=>?_]]
   exact hq _ _ (EndV.after z1 (.tup z2 z3 hp))
  ·cases e
def uR {es:GD Hl}{pos:Jq}{f:FA}(h:GA X es f):GE X (.List es pos) (uP f):=
 GE.of (Bb h) λY H A Z S w S' er so e Q hq=>by
  unfold uP at e;split at e
  ·rename_i ws S1 h1;obtain⟨hl,rfl,rfl⟩:=jn e;show#[A,Z,S,ws,_,er,so,h1,λvs H1 #[A1,z1,z2,z3]=>#[by rw[<- z3.length]; exact hl,λp hp=>?_]]
   exact hq _ _ (EndV.after z1 (.lst z2 z3 hp))
  ·cases e
abbrev i7 (g:GD W->aa->GN (W×aa))(f:FA):FE:=λZ S=>match f Z S with
 | some (ws,S1)=>g ws S1
 | none=>td
def LCall.callr {v:GK}{g:GD W->aa->GN (W×aa)}(h:LCall X v g):CallR X v (rCall X g):=by
 intro J s Y H vs us Q I rv ⟨A,S,ws,w,S',so,rl,e,hq⟩;exact bm (h J s Y H A S ws vs us w S' I so rl rv e) λu' s' #[v',H',A',I',r',e1,o1,z1]=>#[v',H',I',r',hq v' H' #[A',e1,o1,z1]]
def ln {g:GD W->aa->GN (W×aa)}{f:FA}{Y:L2.St}{H:Hp}{A:GD GU}{Z:Fm}{S:aa}{w:W}{S':aa}(er:EnvRel X.K A H Z Y)(so:StoreOk X.w X.K A H S)(e:i7 g f Z S=gV (w,S'))(Q:VK)(hq:∀v H',EndV X.w X.K A H S' w v H'->Q v H') :
  tA X f Y H λvs H1=>rCall X g vs H1 Q:=by
 unfold i7 at e;split at e
 ·rename_i ws S1 h1;exact#[A,Z,S,ws,S1,er,so,h1,λvs H1 #[A1,z1,z2,z3]=>#[A1,S1,ws,w,S',z2,z3,e,λv H' q=>hq v H' (q.after z1)]]
 ·cases e
def qK {id:Iw}{x:Hc}{e:Hl}{es:GD Hl}{p pos:Jq}{f:FA}{g:GD W->aa->GN (W×aa)}(hc:LCall X (.builtin id) g)(hg:Gl X x)(hm:X.mg x=td)(hv:bootBuiltins x=gV (.builtin id))(ha:GA X (e::es) f)
  (hn:x≠"__name__") (hdb:(x==("__debug__" : Hc))=false) (hs:starEach (e::es) X.env=(false,eval e X.env)::starEach es X.env) (hpl:(backTo pos (starEach es X.env)).any (·.1)=false):GE X (.Call (.Name x p) (e::es) [] pos) (i7 g f):=
 GE.of (nu hc.callr hg hm hv ha hn hdb hs hpl) λY H A Z S w S' er so e Q hq=>ln er so e Q hq
def nY {id:Iw}{x:Hc}{e:Hl}{es:GD Hl}{p pos:Jq}{f:FA}{g:GD W->aa->GN (W×aa)}(hc:LCall X (.type id) g)(hg:Gl X x)(hm:X.mg x=td)(hv:bootBuiltins x=gV (.type id))(ha:GA X (e::es) f)
  (hn:x≠"__name__") (hdb:(x==("__debug__" : Hc))=false) (hs:starEach (e::es) X.env=(false,eval e X.env)::starEach es X.env) (hpl:(backTo pos (starEach es X.env)).any (·.1)=false):GE X (.Call (.Name x p) (e::es) [] pos) (i7 g f):=
 GE.of (rL hc.callr hg hm hv ha hn hdb hs hpl) λY H A Z S w S' er so e Q hq=>ln er so e Q hq
end
abbrev tyOk (T:Iw)(S:aa):W->Hj
 | .str _=>T == "str"
 | .tup _=>T == "tuple"
 | .ref i=>(T == "list" && (gz S i).isSome)||(T == "dict" && (kD S i).isSome)
 | _=>false
abbrev CD (T:Iw)(g:W->GD W->aa->GN (W×aa))(fo:FE)(f:FA):FE:=λZ S=>match fo Z S with
 | some (x,S1)=>if tyOk T S1 x then match f Z S1 with
  | some (ws,S2)=>g x ws S2
  | none=>td
  else td
 | none=>td
abbrev FB (fa fb:FE):FE:=yk gW fa fb
noncomputable abbrev FO:=Fm->aa->GN (GN G0×aa)
abbrev BA:FO:=λ_ S=>gV (td,S)
abbrev qL (f:FE):FO:=λZ S=>match f Z S with
 | some (.int i,S1)=>gV (gV i,S1)
 | _=>td
abbrev Ds (fa:FE)(fl fh:FO):FE:=λZ S=>match fa Z S with
 | some (x,S1)=>match fl Z S1 with
  | some (lo,S2)=>match fh Z S2 with
   | some (hi,S3)=>fR x lo hi S3
   | none=>td
  | none=>td
 | none=>td
section
variable{X:Cx}
inductive rMeth (X:Cx)(g:W->GD W->aa->GN (W×aa))(a:V)(vs:GD V)(H:Hp)(Q:VK):Prop
 | mk (A:GD GU) (S:aa) (x:W) (ws:GD W) (w:W) (S':aa) (so:StoreOk X.w X.K A H S) (rx:Rel X.K A H x a) (rl:RelL X.K A H ws vs) (e:g x ws S=gV (w,S')) (q:∀v H',EndV X.w X.K A H S' w v H'->Q v H'):rMeth X g a vs H Q
def BB {J:GD (GU×IM)}{Y:L2.St}{s:GL}{H:Hp}{a:GU}{xs:GD V}(I:Inv X J Y H s)(h:SqT X.K H a xs):s.TypeIs (.ref a) "tuple"/\∃o,s.heap.get? a=gV o/\o.dict=td:=by
 rcases h with h|⟨o,its,n,hk,hc,hd,_⟩
 ·obtain⟨z,its,r,p⟩:=h.ok I.hok;exact#[p.typeIs,z.2]
 ·exact#[#[o,I.kIn a o hk,hc],o,I.kIn a o hk,hd]
def tyOk.is {J:GD (GU×IM)}{Y:L2.St}{s:GL}{A:GD GU}{H:Hp}{S:aa}{T:Iw}{x:W}{a:V}{v:GK}(I:Inv X J Y H s)(so:StoreOk X.w X.K A H S)(r:Rel X.K A H x a)(rv:RelV a v)(h:tyOk T S x=true) :
  s.TypeIs v T/\∀b,v=.ref b->∃ob,s.heap.get? b=gV ob/\ob.dict=td:=by
 cases r with
 | str=>exact tY I rv (show Fq X.K T (.str _) H from eq_of_beq h)
 | tup hq r1=>
  obtain⟨h1,h2⟩:=BB I hq;have e:=eq_of_beq (show(T == "tuple")=true from h)
  subst e;obtain rfl:v=HQ _:=rv;exact#[h1,λb e=>by cases e; exact h2]
 | ref ea=>
  simp only[tyOk,IK,GQ]at h;rcases h with⟨h1,h2⟩|⟨h1,h2⟩
  ·obtain⟨xs,hx⟩:=Ig.mp h2;obtain⟨vs,h3,_⟩:=cy so hx ea;exact tY I rv (show Fq X.K T (.ref _) H from .inl #[eq_of_beq h1,vs,h3])
  ·obtain⟨U,hx⟩:=Ig.mp h2;obtain⟨xs,rd,_⟩:=fD so hx ea;obtain⟨_,_,_,o,es,ep,q1,q2,q3,q4⟩:=cu I rd;have e:=eq_of_beq h1;subst e;obtain rfl:v=HQ _:=rv;exact#[#[o,q1,q2.1],λb e=>by cases e; exact#[o,q1,q2.2.1]]
 | _=>cases h
def nZ {o e:Hl}{es:GD Hl}{name:Hc}{apos cpos:Jq}{T id:Iw}{g:W->GD W->aa->GN (W×aa)}{fo:FE}{f:FA}(pa:PlainAttrs T)(slot:Slot T name id)(hty:typeOf (.builtin id)=pure (.type "method_descriptor"))(hm:kY X id g)
  (ho:GE X o fo) (ha:GA X (e::es) f) (hbase:attributeBase o name X.env (eval o X.env)=eval o X.env)
  (hfew:((backTo cpos (starEach (e::es) X.env)).all (λx=>!x.1)&&(backToKw cpos (keywordEach [] X.env)).all (λx=>x.1.isSome)
   && decide ((e::es).length+([]:GD ML).length+(if ([]:GD ML).isEmpty then 0 else 1) < 30))=true)
  (hline:(apos.endLine==cpos.line)=true) (hs:starEach (e::es) X.env=(false,eval e X.env)::starEach es X.env) (hplain:(backTo cpos (starEach es X.env)).any (·.1)=false) :
  GE X (.Call (.Attribute o name apos) (e::es) [] cpos) (CD T g fo f):=by
 intro J s Y H Q I ⟨A,Z,S,w,S',er,so,e,hq⟩;unfold CD at e;split at e
 ·rename_i x S1 h1;split at e
  ·rename_i ht;split at e
   ·rename_i ws S2 h2;show wpAny_Call_method_late hbase hfew hline rfl (bm (ho J s Y H (EndV X.w X.K A H S1 x) I #[A,Z,S,_,_,er,so,h1,λ_ _ z=>z]) λv s1 #[a,H1,I1,r1,A1,e1,o1,z1]=>?_)
    obtain⟨t1,t2⟩:=tyOk.is I1 o1 z1 r1 ht;show#[T,id,pa,slot,hty,t1,t2,?_];have hA:=ha cpos J s1 Y H1 (EndA X A1 H1 S2 ws) I1 #[A1,Z,S1,ws,S2,er.mono e1,o1,h2,λ_ _ z=>z]
    rw[hs]at hA ⊢;show Calls.callWith_builtin (by show(false||(backTo cpos (starEach es X.env)).any (·.1))=false; rw[hplain] <;> rfl) (Calls.evalArgs_plain ?_)
    show bm hA λus s2 #[vs,H2,I2,r2,A2,e2,o2,z2]=>?_
    show bm (hm J s2 Y H2 A2 S2 x a v ws vs us w S' I2 o2 (z1.mono e2) r1 z2 r2 e) λu' s' #[v',H',A',I',r',e3,o3,z3]=>?_
    exact#[v',H',I',r',hq v' H' #[A',(e1.trans e2).trans e3,o3,z3]]
   ·cases e
  ·cases e
 ·cases e
def LIx.ixr {g:W->W->aa->GN (W×aa)}(h:LIx X g):IxR X (rOp X g):=by
 intro value slice J s Y H a b u v Q I ru rv ⟨A,S,x,y,w,S',so,rx,ry,e,hq⟩ hs;exact bm (h value slice J s Y H A S x y a b u v w S' I so rx ru ry rv e hs) λu' s' #[v',H',A',I',r',e1,o1,z1]=>#[v',H',I',r',hq v' H' #[A',e1,o1,z1]]
def Dt {a b:Hl}{pos:Jq}{fa fb:FE}(hu:X.A.units+10 < cLine)(ha:GE X a fa)(hb:GE X b fb)(hs:lW b):GE X (.Subscript a b pos) (FB fa fb):=
 GE.of (Dh (Fy hu).ixr ha hb hs) λY H A Z S w S' er so e Q hq=>by
  obtain⟨x,S1,y,S2,h1,h2,h3⟩:=EK e;exact fE er so h1 h2 λa b H2 A2 e2 o2 r1 r2=>#[A2,S2,x,y,w,S',o2,r1,r2,h3,λv H' z=>hq v H' (z.after e2)]
inductive tO (X:Cx)(f:FO)(Y:L2.St)(H:Hp)(Q:GN G0->Hp->Prop):Prop
 | mk (A:GD GU) (Z:Fm) (S:aa) (k:GN G0) (S':aa) (er:EnvRel X.K A H Z Y) (so:StoreOk X.w X.K A H S) (e:f Z S=gV (k,S')) (q:∀H' A',Ext X.K A H A' H'->StoreOk X.w X.K A' H' S'->Q k H'):tO X f Y H Q
noncomputable abbrev GO (X:Cx)(e:GN Hl)(f:FO):Prop:=PO X e (tO X f)
def yu:GO X td BA:=λJ s Y H Q I #[A,Z,S,k,S',er,so,e,hq]=>by
 cases e;exact xF J s Y H Q I (hq H A .refl so)
def yv {e:Hl}{f:FE}(h:GE X e f):GO X (gV e) (qL f):=λJ s Y H Q I #[A,Z,S,k,S',er,so,e,hq]=>by
 unfold qL at e;split at e
 ·rename_i i S1 h1;cases e;show xG h J s Y H Q I #[A,Z,S,_,_,er,so,h1,λv H1 #[A1,z1,z2,z3]=>?_]
  cases z3;exact#[i,rfl,hq H1 A1 z1 z2]
 ·cases e
inductive rSl (X:Cx)(g:W->GN G0->GN G0->aa->GN (W×aa))(a:V)(lo hi:GN G0)(H:Hp)(Q:VK):Prop
 | mk (A:GD GU) (S:aa) (x w:W) (S':aa) (so:StoreOk X.w X.K A H S) (rx:Rel X.K A H x a) (e:g x lo hi S=gV (w,S')) (q:∀v H',EndV X.w X.K A H S' w v H'->Q v H'):rSl X g a lo hi H Q
def LSl.slr {g:W->GN G0->GN G0->aa->GN (W×aa)}(h:LSl X g):Dg X (rSl X g):=by
 intro J s Y H a v vl vu lo hi sl Q I rv hs pl pu ⟨A,S,x,w,S',so,rx,e,hq⟩;obtain⟨T,id,h1,h2,h3⟩:=h J s Y H A S x a v vl vu lo hi sl w S' I so rx rv hs pl pu e;exact#[T,id,h1,h2,bm h3 λu' s' #[v',H',A',I',r',e1,o1,z1]=>#[v',H',I',r',hq v' H' #[A',e1,o1,z1]]]
def Du {a:Hl}{lo hi:GN Hl}{p2 pos:Jq}{fa:FE}{fl fh:FO}(ha:GE X a fa)(hl:GO X lo fl)(hh:GO X hi fh):GE X (.Subscript a (.Slice lo hi td p2) pos) (Ds fa fl fh):=
 GE.of (tW Gv.slr ha hl hh) λY H A Z S w S' er so e Q hq=>by
  unfold Ds at e;split at e
  ·rename_i x S1 h1;split at e
   ·rename_i l S2 h2;split at e
    ·rename_i h S3 h3;show#[A,Z,S,x,S1,er,so,h1,λv H1 #[A1,z1,z2,z3]=>?_]
     show#[A1,Z,S1,l,S2,er.mono z1,z2,h2,λH2 A2 y1 y2=>?_]
     show#[A2,Z,S2,h,S3,er.mono (z1.trans y1),y2,h3,λH3 A3 x1 x2=>?_]
     exact#[A3,S3,x,w,S',x2,(z3.mono y1).mono x1,e,λv H' q=>hq v H' (q.after ((z1.trans y1).trans x1))]
    ·cases e
   ·cases e
  ·cases e
noncomputable abbrev FF:=GD W->aa->GN (W×aa)
inductive spF (wd:HL)(K:G4)(n:GP)(g:FF)(vs:GD V)(H:Hp)(Q:VK)(E:XK):Prop
 | mk (A:GD GU) (S:aa) (ws:GD W) (w:W) (S':aa) (so:StoreOk wd K A H S) (rl:RelL K A H ws vs) (hl:ws.length=n) (e:g ws S=gV (w,S')) (q:∀v H',EndV wd K A H S' w v H'->Q v H'):spF wd K n g vs H Q E
abbrev n0 (n:GP)(g:FF)(f:FA):FE:=λZ S=>match f Z S with
 | some (ws,S1)=>if ws.length=n then g ws S1 else td
 | none=>td
def n4 {n:GP}{g:FF}{f:FA}{Y:L2.St}{H:Hp}{A:GD GU}{Z:Fm}{S:aa}{w:W}{S':aa}{E:XK}(er:EnvRel X.K A H Z Y)(so:StoreOk X.w X.K A H S)(e:n0 n g f Z S=gV (w,S'))(Q:VK)(hq:∀v H',EndV X.w X.K A H S' w v H'->Q v H') :
  tP (spF X.w X.K n g) [] E (tA X f) Y H Q:=by
 unfold n0 at e;split at e
 ·rename_i ws S1 h1;split at e
  ·rename_i hl;show#[A,Z,S,ws,S1,er,so,h1,λvs H1 #[A1,z1,z2,z3]=>?_]
   change spF X.w X.K n g (vs++[]) H1 Q E;rw[Iy];exact#[A1,S1,ws,w,S',z2,z3,hl,e,λv H' q=>hq v H' (q.after z1)]
  ·cases e
 ·cases e
def BC {k n:GP}{fa:GU}{fd:Jz}{ps:GD Hc}{g:FF}{x:Hc}{e:Hl}{es:GD Hl}{p pos:Jq}{f:FA}(F:FnOk X.prog X.w X.K X.mg X.base sW k fa fd ps (spF X.w X.K n g))(hr:Room k X.A)(hg:Gl X x)(hm:X.mg x=gV (.ref fa))(hk:Iz X.K (.ref fa)=true)
  (hb:Binds X.K fd ps []) (ha:GA X (e::es) f) (hdb:(x==("__debug__" : Hc))=false) (he:starEach (e::es) X.env=(false,eval e X.env)::starEach es X.env) (hpl:(backTo pos (starEach es X.env)).any (·.1)=false) :
  GE X (.Call (.Name x p) (e::es) [] pos) (n0 n g f):=
 GE.of (xB F hr hg hm hk hb .nil zW ha hdb he hpl) λY H A Z S w S' er so e Q hq=>n4 er so e Q hq
def yw {k n:GP}{fa:GU}{fd:Jz}{ps:GD Hc}{g:FF}{x:Hc}{p pos:Jq}(F:FnOk X.prog X.w X.K X.mg X.base sW k fa fd ps (spF X.w X.K n g))(hr:Room k X.A)(hg:Gl X x)(hm:X.mg x=gV (.ref fa))(hk:Iz X.K (.ref fa)=true)
  (hb:Binds X.K fd ps []) (hdb:(x==("__debug__" : Hc))=false):GE X (.Call (.Name x p) [] [] pos) (n0 n g gY):=
 GE.of (tR F hr hg hm hk hb .nil zW hdb) λY H A Z S w S' er so e Q hq=>by
  obtain⟨A1,S1,ws,w1,S1',a1,a2,a3,a4,a5⟩:=n4 (f:=gY) (E:=E0) er so e Q hq |> λ#[A,Z,S,ws,S',b1,b2,b3,b4]=>b4 [] H (by cases b3; exact#[A,.refl,b2,.nil])
  exact#[A1,S1,ws,w1,S1',a1,a2,a3,a4,a5]
def yy:GSs X [] (λZ S=>gV (.nx Z,S)):=GSs.of xr λY H A Z S o S' er so e D hd=>by cases e; exact hd.nx _ _ #[Z,A,rfl,.refl,so,er]
abbrev yz (f g:FS):FS:=λZ S=>match f Z S with
 | some (.nx Z',S1)=>g Z' S1
 | some (.rt w,S1)=>gV (.rt w,S1)
 | some (.bk Z',S1)=>gV (.bk Z',S1)
 | some (.ct Z',S1)=>gV (.ct Z',S1)
 | none=>td
def uS {st:JR}{sts:GD JR}{f g:FS}(h:GS X st f)(h2:GSs X sts g):GSs X (st::sts) (yz f g):=GSs.of (tD h h2) λY H A Z S o S' er so e D hd=>by
 unfold yz at e;split at e
 ·rename_i Z1 S1 h1;show#[A,Z,S,_,_,er,so,h1,#[λY' H' #[Z',A',e1,e2,e3,e4]=>?_,λv H' #[w,A',e1,_,_,_]=>(by cases e1),λv H' #[w,A',e1,_,_,_]=>(by cases e1),λv H' #[w,A',e1,_,_,_]=>(by cases e1)]]
  cases e1;exact#[A',_,S1,o,S',e4,e3,e,(EndS.after e2).trans hd]
 ·rename_i w S1 h1;cases e;exact#[A,Z,S,_,_,er,so,h1,#[λY' H' #[w,A',e1,_,_,_]=>(by cases e1),hd.rt,hd.bk,hd.ct]]
 ·rename_i w S1 h1;cases e;exact#[A,Z,S,_,_,er,so,h1,#[λY' H' #[w,A',e1,_,_,_]=>(by cases e1),hd.rt,hd.bk,hd.ct]]
 ·rename_i w S1 h1;cases e;exact#[A,Z,S,_,_,er,so,h1,#[λY' H' #[w,A',e1,_,_,_]=>(by cases e1),hd.rt,hd.bk,hd.ct]]
 ·cases e
abbrev yA (f:FE):FS:=λZ S=>match f Z S with
 | some (_,S1)=>gV (.nx Z,S1)
 | none=>td
def Dv {e:Hl}{pos:Jq}{f:FE}(h:GE X e f)(hs:swapsWith e td pos.line X.env=pure false):GS X (.Expr e pos) (yA f):=GS.of (xu h hs) λY H A Z S o S' er so e D hd=>by
 unfold yA at e;split at e
 ·rename_i w S1 h1;cases e;exact#[A,Z,S,w,_,er,so,h1,λv H1 #[A1,z1,z2,z3]=>hd.nx _ _ #[Z,A1,rfl,z1,z2,er.mono z1]]
 ·cases e
abbrev uT:FS:=λZ S=>gV (.nx Z,S)
def BE {x:Hc}{j:GP}{pos pos':Jq}:GS X (.Expr (.Constant (.str x) j pos) pos') uT:=GS.of AH λY H A Z S o S' er so e D hd=>by cases e; exact hd.nx _ _ #[Z,A,rfl,.refl,so,er]
def yB {pos:Jq}:GS X (.Pass pos) uT:=GS.of xt λY H A Z S o S' er so e D hd=>by cases e; exact hd.nx _ _ #[Z,A,rfl,.refl,so,er]
abbrev yC (f:FE):FS:=λZ S=>match f Z S with
 | some (w,S1)=>gV (.rt w,S1)
 | none=>td
def BF {e:Hl}{pos:Jq}{f:FE}(h:GE X e f):GS X (.Return (gV e) pos) (yC f):=GS.of (AI h) λY H A Z S o S' er so e D hd=>by
 unfold yC at e;split at e
 ·rename_i w S1 h1;cases e;exact#[A,Z,S,w,_,er,so,h1,λv H1 #[A1,z1,z2,z3]=>hd.rt _ _ #[w,A1,rfl,z1,z2,z3]]
 ·cases e
abbrev yD (c:FT)(f g:FS):FS:=λZ S=>match c Z S with
 | some (true,S1)=>f Z S1
 | some (false,S1)=>g Z S1
 | none=>td
def Dw {c:Hl}{a b:GD JR}{pos:Jq}{fc:FT}{f g:FS}(hc:GT X c fc)(ha:GSs X a f)(hb:GSs X b g):GS X (.If c a b pos) (yD fc f g):=GS.of (CU hc ha hb) λY H A Z S o S' er so e D hd=>by
 unfold yD at e;split at e
 ·rename_i S1 h1;show#[A,Z,S,_,S1,er,so,h1,λb H1 #[z0,A1,z1,z2]=>?_]
  subst z0;rw[Ho rfl];exact#[A1,Z,S1,o,S',er.mono z1,z2,e,(EndS.after z1).trans hd]
 ·rename_i S1 h1;show#[A,Z,S,_,S1,er,so,h1,λb H1 #[z0,A1,z1,z2]=>?_]
  subst z0;rw[HD Hb];exact#[A1,Z,S1,o,S',er.mono z1,z2,e,(EndS.after z1).trans hd]
 ·cases e
noncomputable abbrev FG:=W->Fm->aa->GN (Fm×aa)
inductive tG (X:Cx)(f:FG)(v:V)(Y:L2.St)(H:Hp)(Q:L2.St->Hp->Prop):Prop
 | mk (A:GD GU) (Z:Fm) (S:aa) (w:W) (Z':Fm) (S':aa) (er:EnvRel X.K A H Z Y) (so:StoreOk X.w X.K A H S) (r:Rel X.K A H w v) (e:f w Z S=gV (Z',S')) (q:∀Y' H' A',Ext X.K A H A' H'->StoreOk X.w X.K A' H' S'->EnvRel X.K A' H' Z' Y'->Q Y' H'):tG X f v Y H Q
noncomputable abbrev GG (X:Cx)(tg:Hl)(f:FG):Prop:=PG X tg (tG X f)
abbrev z5 (i:GP):FG:=λw Z S=>gV (Z.set i (gV w),S)
def qM {i:GP}{x:Hc}{pos:Jq}(hN:X.N.Nodup)(hi:X.N[i]?=gV x)(hx:xo X.env.scope x)(hf:X.fn x=true\/X.env.scope.names.lookup x=gV .local):GG X (.Name x pos) (z5 i):=by
 intro J s Y H v u Q I r ⟨A,Z,S,w,Z',S',er,so,rw',e,hq⟩;cases e;exact qk hN hi hx hf J s Y H v u Q I r (hq _ _ A .refl so (er.set rw' i))
abbrev cC:GD GP->GD W->Fm->GN Fm
 | [],[],Z=>gV Z
 | i::is,w::ws,Z=>cC is ws (Z.set i (gV w))
 | _,_,_=>td
abbrev CF (is:GD GP):FG:=λw Z S=>match w with
 | .tup ws=>(cC is ws Z).map λZ'=>(Z',S)
 | _=>td
def sj:∀ {ts:GD Hl} {is:GD GP},(∀x∈ts,∃y p,x=.Name y p)->LR (λ(t:Hl) (i:GP)=>∃x p,t=MM x p/\X.N[i]?=gV x/\xo X.env.scope x/\(X.fn x=true\/X.env.scope.names.lookup x=gV .local)) ts is->X.N.Nodup->
  CV X ts (λvs Y H Q=>∃A Z ws Z' S,EnvRel X.K A H Z Y/\StoreOk X.w X.K A H S/\RelL X.K A H ws vs/\cC is ws Z=gV Z'/\∀Y',EnvRel X.K A H Z' Y'->Q Y' H):=by
 intro ts
 induction ts with
 | nil=>
  intro is _ h hN;cases h;intro J s Y H vs us Q I r ⟨A,Z,ws,Z',S,er,so,rl,e,hq⟩;cases rl with
  | nil=>cases e; exact xv J s Y H [] us Q I r #[rfl,hq _ er]
  | cons _ _=>cases e
 | cons t ts ih=>
  intro is hs h hN;cases h with
  | cons h1 h2=>
   obtain⟨x,p,rfl,hi,hl,hf⟩:=h1;have:=ih (λy hy=>hs y (Hv _ hy)) h2 hN
   intro J s Y H vs us Q I r ⟨A,Z,ws,Z',S,er,so,rl,e,hq⟩;cases rl with
   | nil=>cases e
   | cons r1 r2=>
    show tF (qk hN hi hl hf) this rfl J s Y H _ us Q I r #[_,_,rfl,?_];exact#[A,_,_,Z',S,er.set r1 _,so,r2,e,hq]
def BG {ts:GD Hl}{is:GD GP}{k:GP}{pos:Jq}(hc:X.calm=true)(hs:∀x∈ts,∃y p,x=.Name y p)(h:LR (λ(t:Hl) (i:GP)=>∃x p,t=MM x p/\X.N[i]?=gV x/\xo X.env.scope x/\(X.fn x=true\/X.env.scope.names.lookup x=gV .local)) ts is)(hN:X.N.Nodup)
  (hn:(assignEach ts X.env).length=ts.length) (hst:(assignEach ts X.env).findIdx? (·.1)=td):GG X (.Tuple ts k pos) (CF is):=by
 intro J s Y H v u Q I r ⟨A,Z,S,w,Z',S',er,so,rw',e,hq⟩;unfold CF at e;split at e
 ·rw[GM]at e;obtain⟨Z1,e1,e2⟩:=e;cases e2;cases rw' with
  | tup h1 r1=>
   have hl:∀(is:GD GP) (ws:GD W) (Z Z':Fm),cC is ws Z=gV Z'->is.length=ws.length:=by
    intro is
    induction is with
    | nil=>intro ws Z Z' e; cases ws <;> first|rfl|cases e
    | cons i is ih=>intro ws Z Z' e; cases ws <;> first|cases e|(simp; exact ih _ _ _ e)
   exact AM hc (sj hs h hN) hn hst J s Y H _ u Q I r #[_,_,rfl,h1,by rw[<- r1.length,<- hl _ _ _ _ e1,<- LA h],A,Z,_,_,_,er,so,r1,e1,λY' z=>hq _ _ A .refl so z]
 ·cases e
abbrev yE (fo fi:FE):FG:=λw Z S=>match fo Z S with
 | some (o,S1)=>match fi Z S1 with
  | some (i,S2)=>match jj o i w S2 with
   | some S3=>gV (Z,S3)
   | none=>td
  | none=>td
 | none=>td
inductive rSet (X:Cx)(g:W->W->W->aa->GN aa)(ao ai av:V)(H:Hp)(Q:Hp->Prop):Prop
 | mk (A:GD GU) (S:aa) (o i w:W) (S':aa) (so:StoreOk X.w X.K A H S) (r1:Rel X.K A H o ao) (r2:Rel X.K A H i ai) (r3:Rel X.K A H w av) (e:g o i w S=gV S') (q:∀H' A',Ext X.K A H A' H'->StoreOk X.w X.K A' H' S'->Q H'):rSet X g ao ai av H Q
def LSet.pset {g:W->W->W->aa->GN aa}(h:LSet X g):AL X (rSet X g):=by
 intro J s Y H ao ai av uo ui uv Q I ro ri rv ⟨A,S,o,i,w,S',so,r1,r2,r3,e,hq⟩;exact bm (h J s Y H A S o i w ao ai av uo ui uv S' I so r1 ro r2 ri r3 rv e) λ_ s' #[H',A',I',e1,o1]=>#[H',I',hq H' A' e1 o1]
def BH {o i:Hl}{pos:Jq}{fo fi:FE}(hu:X.A.units+10 < cLine)(ho:GE X o fo)(hi:GE X i fi)(ha:∀v,assign (.Subscript o i pos) X.env v=(do
   let ov <- holding [v] (eval o X.env)
   let iv <- holding [v,ov] (eval i X.env)
   standAt pos
   holding [v,ov,iv] (setItem ov iv v)
   release [v,ov,iv] [])):GG X (.Subscript o i pos) (yE fo fi):=by
 intro J s Y H v u Q I r ⟨A,Z,S,w,Z',S',er,so,rw',e,hq⟩;unfold yE at e;split at e
 ·rename_i o' S1 h1;split at e
  ·rename_i i' S2 h2;split at e
   ·rename_i S3 h3;cases e;show AN ho hi (Dm hu).pset ha J s Y H v u Q I r ?_;show#[A,Z,S,o',S1,er,so,h1,λa H1 #[A1,e1,o1,r1]=>?_]
    show#[A1,Z,S1,i',S2,er.mono e1,o1,h2,λb H2 #[A2,e2,o2,r2]=>?_]
    exact#[A2,S2,o',i',w,_,o2,r1.mono e2,r2,rw'.mono (e1.trans e2),h3,λH' A' z1 z2=>hq Y H' A' ((e1.trans e2).trans z1) z2 (er.mono ((e1.trans e2).trans z1))]
   ·cases e
  ·cases e
 ·cases e
abbrev jN (f:FE)(g:FG):FS:=λZ S=>match f Z S with
 | some (w,S1)=>match g w Z S1 with
  | some (Z',S2)=>gV (.nx Z',S2)
  | none=>td
 | none=>td
def mH {tg e:Hl}{pos:Jq}{f:FE}{g:FG}(h:GE X e f)(hg:GG X tg g)(hs:swapsWithSole [tg] e pos.line X.env=pure false)(hw:swappedStores [tg] e X.env=pure td)(h1:(assignEach [tg] X.env).map (·.2)=[assign tg X.env]) :
  GS X (.Assign [tg] e pos) (jN f g):=GS.of (AO h hg hs hw h1) λY H A Z S o S' er so e D hd=>by
 unfold jN at e;split at e
 ·rename_i w S1 h1;split at e
  ·rename_i Z1 S2 h2;cases e;show#[A,Z,S,w,S1,er,so,h1,λv H1 #[A1,z1,z2,z3]=>?_]
   exact#[A1,Z,S1,w,Z1,_,er.mono z1,z2,z3,h2,λY' H' A' y1 y2 y3=>hd.nx _ _ #[Z1,A',rfl,z1.trans y1,y2,y3]]
  ·cases e
 ·cases e
abbrev yF (i j:GP)(f:FA):FS:=λZ S=>match f Z S with
 | some ([x,y],S1)=>gV (.nx ((Z.set i (gV x)).set j (gV y)),S1)
 | _=>td
def BI {i j:GP}{x y:Hc}{a b:Hl}{f:FA}{px py pt pos:Jq}{kt k2:GP}{pt2:Jq}(hc:X.calm=true)(hN:X.N.Nodup)(hi:X.N[i]?=gV x)(hj:X.N[j]?=gV y)(hij:i≠j)
  (hx:X.env.scope.names.lookup x=gV .local) (hy:X.env.scope.names.lookup y=gV .local) (ha:GA X [a,b] f)
  (hw:swappedStores [.Tuple [.Name x px,.Name y py] kt pt] (.Tuple [a,b] k2 pt2) X.env=pure (gV [x,y]))
  (hs:swapsWithSole [.Tuple [.Name x px,.Name y py] kt pt] (.Tuple [a,b] k2 pt2) pos.line X.env=pure false) :
  GS X (.Assign [.Tuple [.Name x px,.Name y py] kt pt] (.Tuple [a,b] k2 pt2) pos) (yF i j f):=GS.of (AQ hc hN hi hj hij hx hy ha hw hs) λY H A Z S o S' er so e D hd=>by
 unfold yF at e;split at e
 ·rename_i x y S1 h1;cases e;show#[A,Z,S,_,_,er,so,h1,λvs H1 #[A1,z1,z2,z3]=>?_]
  cases z3 with
  | cons r1 t=>
   cases t with
   | cons r2 t=>
    cases t;exact#[_,_,rfl,hd.nx _ _ #[_,A1,rfl,z1,z2,((er.mono z1).set r1 i).set r2 j]]
 ·cases e
abbrev mI (c:FT)(b:FS):GP->FS
 | 0,_,_=>td
 | n+1,Z,S=>match c Z S with
  | some (true,S1)=>match b Z S1 with
   | some (.nx Z',S2)=>mI c b n Z' S2
   | some (.ct Z',S2)=>mI c b n Z' S2
   | some (.bk Z',S2)=>gV (.nx Z',S2)
   | some (.rt w,S2)=>gV (.rt w,S2)
   | none=>td
  | some (false,S1)=>gV (.nx Z,S1)
  | none=>td
def uU {c:Hl}{body:GD JR}{pos:Jq}{fc:FT}{fb:FS}(n:GP)(hp:MK (model X.prog X.w) X.A X.env X.xe)(hc:GT X c fc)(hb:GSs X body fb):GS X (.While c body [] pos) (mI fc fb n):=GS.of (tH hp hc hb) λY H A Z S o S' er so e D hd=>by
 show#[λm Y1 H1=>∃A1 Z1 S1,Ext X.K A H A1 H1/\EnvRel X.K A1 H1 Z1 Y1/\StoreOk X.w X.K A1 H1 S1/\mI fc fb m Z1 S1=gV (o,S'),#[n,A,Z,S,.refl,er,so,e],?_]
 rintro m Y1 H1 ⟨A1,Z1,S1,e1,er1,so1,w1⟩;cases m with
 | zero=>cases w1
 | succ m=>
  dsimp only[mI]at w1;split at w1
  ·rename_i S2 h1;show#[A1,Z1,S1,_,S2,er1,so1,h1,λb H2 #[z0,A2,z1,z2]=>?_]
   subst z0;rw[Ho rfl];show#[λY3 H3=>∃A3 Z3 S3,Ext X.K A H A3 H3/\EnvRel X.K A3 H3 Z3 Y3/\StoreOk X.w X.K A3 H3 S3/\mI fc fb m Z3 S3=gV (o,S'),λY' H' h=>#[m,IZ _,h],?_]
   split at w1
   ·rename_i Z3 S3 h3;show#[A2,Z1,S2,_,S3,er1.mono z1,z2,h3,#[λY' H' #[Z',A',y0,y1,y2,y3]=>?_,λv H' #[w,A',y0,_,_,_]=>(by cases y0),λv H' #[w,A',y0,_,_,_]=>(by cases y0),λv H' #[w,A',y0,_,_,_]=>(by cases y0)]]
    cases y0;exact#[A',_,S3,(e1.trans z1).trans y1,y3,y2,w1]
   ·rename_i Z3 S3 h3;show#[A2,Z1,S2,_,S3,er1.mono z1,z2,h3,#[λv H' #[w,A',y0,_,_,_]=>(by cases y0),λv H' #[w,A',y0,_,_,_]=>(by cases y0),λv H' #[w,A',y0,_,_,_]=>(by cases y0),λY' H' #[Z',A',y0,y1,y2,y3]=>?_]]
    cases y0;exact#[A',_,S3,(e1.trans z1).trans y1,y3,y2,w1]
   ·rename_i Z3 S3 h3;cases w1;show#[A2,Z1,S2,_,_,er1.mono z1,z2,h3,#[λv H' #[w,A',y0,_,_,_]=>(by cases y0),λv H' #[w,A',y0,_,_,_]=>(by cases y0),λY' H' #[Z',A',y0,y1,y2,y3]=>?_,λv H' #[w,A',y0,_,_,_]=>(by cases y0)]]
    cases y0;exact hd.nx _ _ #[_,A',rfl,(e1.trans z1).trans y1,y2,y3]
   ·rename_i w3 S3 h3;cases w1;show#[A2,Z1,S2,_,_,er1.mono z1,z2,h3,#[λv H' #[w,A',y0,_,_,_]=>(by cases y0),λv H' #[w,A',y0,y1,y2,y3]=>?_,λv H' #[w,A',y0,_,_,_]=>(by cases y0),λv H' #[w,A',y0,_,_,_]=>(by cases y0)]]
    cases y0;exact hd.rt _ _ #[_,A',rfl,(e1.trans z1).trans y1,y2,y3]
   ·cases w1
  ·rename_i S2 h1;cases w1;show#[A1,Z1,S1,_,_,er1,so1,h1,λb H2 #[z0,A2,z1,z2]=>?_]
   subst z0;rw[HD Hb];exact hd.nx _ _ #[_,A2,rfl,e1.trans z1,z2,er1.mono z1]
  ·cases w1
abbrev FC (i j l:GP)(ta:TA):TS:=λD Y H=>ta Y H λvs H1=>∃v w z,vs=[v,w,z]/\D.nx (((Y.set i (gV v)).set j (gV w)).set l (gV z)) H1
def BJ {i j l:GP}{x y z:Hc}{a b c:Hl}{ta:TA}{px py pz pt pos:Jq}{kt k2 pt2}(hc:X.calm=true)(hN:X.N.Nodup)(hi:X.N[i]?=gV x)(hj:X.N[j]?=gV y)(hl:X.N[l]?=gV z)(hij:i≠j)(hil:i≠l)(hjl:j≠l)
  (hx:X.env.scope.names.lookup x=gV .local) (hy:X.env.scope.names.lookup y=gV .local) (hz:X.env.scope.names.lookup z=gV .local) (ha:PA X [a,b,c] ta)
  (hw:swappedStores [.Tuple [.Name x px,.Name y py,.Name z pz] kt pt] (.Tuple [a,b,c] k2 pt2) X.env=pure (gV [x,y,z]))
  (hs:swapsWithSole [.Tuple [.Name x px,.Name y py,.Name z pz] kt pt] (.Tuple [a,b,c] k2 pt2) pos.line X.env=pure false:=by rfl) :
  PS X (.Assign [.Tuple [.Name x px,.Name y py,.Name z pz] kt pt] (.Tuple [a,b,c] k2 pt2) pos) (FC i j l ta):=by
 intro J s Y H D I h;rw[N6];show GH (Kr ?_);rw[hs];show GH (GX ?_);rw[HD #v[]]
 show GH (Tuple_ (bm (ha _ J s Y H _ I h) λus s1 #[vs,H1,I1,r1,q1]=>?_))
 obtain⟨v,w,t,e1,q1⟩:=q1;subst e1;obtain⟨u1,u2,u3,rfl,rv,rw',rt⟩ : ∃u1 u2 u3,us=[u1,u2,u3]/\RelV v u1/\RelV w u2/\RelV t u3:=by
  cases r1 with
  | cons p q=>
   cases q with
   | cons p' q'=>
    cases q' with
    | cons p2 q2=>
     cases q2;exact#[_,_,_,rfl,p,p',p2]
 show HS ?_ (by change 3<=sizeLine; decide)
 have I2:Inv X J Y H1 { s1 with heap:=s1.heap.push { cls:=.type "tuple",data:=.seq [u1,u2,u3].toArray } }:=I1.kept (t':=s1.toks) λb o e=>GR _ e
 rw[hw];show GH (GX ?_);change wpAny (model X.prog X.w) X.A (do rule "assign.swapped-stores"; let items <- unpackItems (.ref s1.heap.objs.size) 3 td; assignInOrder [λv=>bindName X.env z v,λv=>bindName X.env y v,λv=>bindName X.env x v] items.reverse; pure NL) _ _ _
 show GH (LU (GH (Nl (items:=[u1,u2,u3].toArray) (I.ok.hd hc) (MJ s1.heap _) λh' hx'=>?_)))
 have I3:=I2.kept (h':=h') (t':=s1.toks) λb o e=>hx' b o (Hu (Hf e)) e
 change wpAny _ _ (assignInOrder [λv=>bindName X.env z v,λv=>bindName X.env y v,λv=>bindName X.env x v] [u3,u2,u1] >>= λ_=>pure NL) _ _ _
 show GH (Jy (KI (dO I3 hN hl (.inl hz) rt (λs2 I4=>?_) (.inr hz))))
 show Jy (KI (dO I4 hN hj (.inl hy) rw' (λs3 I5=>?_) (.inr hy)))
 show Jy (KI (dO I5 hN hi (.inl hx) rv (λs4 I6=>Lx (GX ?_)) (.inr hx)))
 have e6:((G2 Y l (gV t)).set j (gV w)).set i (gV v)=((G2 Y i (gV v)).set j (gV w)).set l (gV t):=by
  rw[LB (gV w) (gV v) hij.symm,LB (gV t) (gV v) hil.symm,LB (gV t) (gV w) hjl.symm]
 rw[e6]at I6;exact#[_,H1,I6,q1]
abbrev yG (i j l:GP)(f:FA):FS:=λZ S=>match f Z S with
 | some ([x,y,z],S1)=>gV (.nx (((Z.set i (gV x)).set j (gV y)).set l (gV z)),S1)
 | _=>td
def BK {i j l:GP}{x y z:Hc}{a b c:Hl}{f:FA}{px py pz pt pos:Jq}{kt k2:GP}{pt2:Jq}(hc:X.calm=true)(hN:X.N.Nodup)(hi:X.N[i]?=gV x)(hj:X.N[j]?=gV y)(hl:X.N[l]?=gV z)(hij:i≠j)(hil:i≠l)(hjl:j≠l)
  (hx:X.env.scope.names.lookup x=gV .local) (hy:X.env.scope.names.lookup y=gV .local) (hz:X.env.scope.names.lookup z=gV .local) (ha:GA X [a,b,c] f)
  (hw:swappedStores [.Tuple [.Name x px,.Name y py,.Name z pz] kt pt] (.Tuple [a,b,c] k2 pt2) X.env=pure (gV [x,y,z]))
  (hs:swapsWithSole [.Tuple [.Name x px,.Name y py,.Name z pz] kt pt] (.Tuple [a,b,c] k2 pt2) pos.line X.env=pure false) :
  GS X (.Assign [.Tuple [.Name x px,.Name y py,.Name z pz] kt pt] (.Tuple [a,b,c] k2 pt2) pos) (yG i j l f):=GS.of (BJ hc hN hi hj hl hij hil hjl hx hy hz ha hw hs) λY H A Z S o S' er so e D hd=>by
 unfold yG at e;split at e
 ·rename_i x y z S1 h1;cases e;show#[A,Z,S,_,_,er,so,h1,λvs H1 #[A1,z1,z2,z3]=>?_]
  cases z3 with
  | cons r1 t=>
   cases t with
   | cons r2 t=>
    cases t with
    | cons r3 t=>
     cases t;exact#[_,_,_,rfl,hd.nx _ _ #[_,A1,rfl,z1,z2,(((er.mono z1).set r1 i).set r2 j).set r3 l]]
 ·cases e
abbrev yH (xs:GD W)(S:aa):GN (W×aa):=match xs with
 | [.int i]=>if i.natAbs < 1000 then gV (.str (IF (toString i)),S)else td
 | _=>td
def sn:LCall X (.type "str") yH:=by
 intro J s Y H A S xs vs us w S' I so rl rv e;cases rl with
 | nil=>cases e
 | cons r t=>
  cases t with
  | cons _ _=>cases r <;> cases e
  | nil=>
   cases r with
   | int=>
    rename_i i;unfold yH at e;dsimp only at e;split at e
    ·rename_i hi;cases e;show CallR.go (r:=λxs H Q=>xs=[.int i]/\Q (.str (IF (toString i))) H) ?_ I rv #[rfl,.here so .str]
     intro J s Y H xs us Q I r h;obtain⟨rfl,q⟩:=h;obtain⟨u,rfl,t,rfl⟩:=kM r;show P.str_of_int ?_ #[.str _,H,I.tok _,#[_,rfl],q];have hp:i.natAbs < 2 ^ 10:=∅
     by_cases h0:i.natAbs=0
     ·rw[h0]; decide
     ·have:=(Nat.log2_lt h0).mpr hp;omega
    ·cases e
   | _=>cases e
def jO {ts vs:GD Hl}{k k2:GP}{q q2:Jq}{env:MR}(h:vs.all (foldedForSure 8)=true):swappedStores [.Tuple ts k q] (.Tuple vs k2 q2) env=pure td:=by
 unfold swappedStores;dsimp only;split
 ·rfl
 ·split
  ·rfl
  ·split
   ·rfl
   ·rfl
end
inductive MI where
 | its (ws:GD W)
 | live (r:GP)
 | zl (r q:GP)
abbrev Dx (xs ys:GD W):GD W:=GY (λx y=>.tup [x,y]) xs ys
abbrev MI.at (S:aa)(i:GP):MI->GN (GN W)
 | .its ws=>gV ws[i]?
 | .live r=>match gz S r with
  | some xs=>gV xs[i]?
  | none=>td
 | .zl r q=>match gz S r,gz S q with
  | some xs,gV ys=>gV (Dx xs ys)[i]?
  | _,_=>td
abbrev MI.len (S:aa):MI->GN GP
 | .its ws=>gV ws.length
 | .live r=>(gz S r).map (·.length)
 | .zl r q=>match gz S r,gz S q with
  | some xs,gV ys=>gV (Dx xs ys).length
  | _,_=>td
noncomputable abbrev FI:=Fm->aa->GN (MI×aa)
structure MIt (wd:HL)(K:G4)(mi:MI)(tv:It)(A0:GD GU)(H0:Hp):Prop where
 go:∀A H S i w,Ext K A0 H0 A H->StoreOk wd K A H S->mi.at S i=gV (gV w)->tv.go i H/\∀x H',tv.yld i H x H'->Ext K A H A H'/\StoreOk wd K A H' S/\Rel K A H' w x
 stop:∀A H S i,Ext K A0 H0 A H->StoreOk wd K A H S->mi.at S i=gV td->tv.stop i H
inductive tI (X:Cx)(f:FI)(Y:L2.St)(H:Hp)(R:It->Hp->Prop):Prop
 | mk (A:GD GU) (Z:Fm) (S:aa) (mi:MI) (S':aa) (er:EnvRel X.K A H Z Y) (so:StoreOk X.w X.K A H S) (e:f Z S=gV (mi,S')) (q:∀tv H' A',Ext X.K A H A' H'->StoreOk X.w X.K A' H' S'->MIt X.w X.K mi tv A' H'->R tv H'):tI X f Y H R
noncomputable abbrev GI (X:Cx)(tg iter:Hl)(f:FI):Prop:=PI X tg iter (tI X f)
abbrev yI (f:FE):FI:=λZ S=>match f Z S with
 | some (.tup ws,S1)=>gV (.its ws,S1)
 | some (.ref r,S1)=>match gz S1 r with
  | some _=>gV (.live r,S1)
  | none=>td
 | _=>td
abbrev cV (lo:G0)(n:GP):GD W:=(G8 n).map λ(k:GP)=>.int (lo+(k:G0))
abbrev pB (f:FA):FI:=λZ S=>match f Z S with
 | some ([.int j],S1)=>if -(2 ^ 62)<=j/\j < 2 ^ 62 then gV (.its (cV 0 j.toNat),S1)else td
 | _=>td
abbrev iRng2 (f:FA):FI:=λZ S=>match f Z S with
 | some ([.int i,.int j],S1)=>if -(2 ^ 62)<=i/\i < 2 ^ 62/\-(2 ^ 62)<=j/\j < 2 ^ 62 then gV (.its (cV i (j - i).toNat),S1)else td
 | _=>td
abbrev fG (mi:MI)(g:FG)(b:FS):GP->GP->FS
 | 0,i,Z,S=>match mi.at S i with
  | some td=>gV (.nx Z,S)
  | _=>td
 | n+1,i,Z,S=>match mi.at S i with
  | some (gV w)=>match g w Z S with
   | some (Z1,S1)=>match b Z1 S1 with
    | some (.nx Z2,S2)=>fG mi g b n (i+1) Z2 S2
    | some (.ct Z2,S2)=>fG mi g b n (i+1) Z2 S2
    | some (.bk Z2,S2)=>gV (.nx Z2,S2)
    | some (.rt w,S2)=>gV (.rt w,S2)
    | none=>td
   | none=>td
  | _=>td
abbrev uV (fi:FI)(g:FG)(b:FS):FS:=λZ S=>match fi Z S with
 | some (mi,S1)=>match mi.len S1 with
  | some n=>fG mi g b n 0 Z S1
  | none=>td
 | none=>td
section
variable{X:Cx}
def yJ {A:GD GU}{H:Hp}{ws:GD W}{a:GU}{vs:GD V}(h:SqT X.K H a vs)(r:RelL X.K A H ws vs):MIt X.w X.K (.its ws) (CB X.K a) A H:=by
 show#[λA' H' S i w e so hi=>?_,λA' H' S i e so hi=>?_]
 ·simp only[MI.at,HV]at hi;obtain⟨v,h1,h2⟩:=(r.mono e).get hi;show#[#[vs,v,e.tp _ _ h,h1],λx H2 #[z1,z2]=>?_]
  subst z1;have:=z2 vs (e.tp _ _ h);rw[h1]at this; cases this
  exact#[.refl,so,h2]
 ·simp only[MI.at,HV]at hi;show#[vs,e.tp _ _ h,?_];rw[<- r.length];exact Jh.mp hi
def yK {A:GD GU}{H:Hp}{r:GP}{a:GU}(ea:A[r]?=gV a):MIt X.w X.K (.live r) (E8 X.K a) A H:=by
 show#[λA' H' S i w e so hi=>?_,λA' H' S i e so hi=>?_]
 ·simp only[MI.at]at hi;split at hi
  ·rename_i xs hx;simp only[HV]at hi;obtain⟨vs,h1,r1⟩:=cy so hx (e.ad _ _ ea);obtain⟨v,h2,h3⟩:=r1.get hi;show#[#[vs,v,h1,h2],λx H2 #[z1,z2]=>?_]
   subst z1;have:=z2 vs h1;rw[h2]at this; cases this
   exact#[.refl,so,h3]
  ·cases hi
 ·simp only[MI.at]at hi;split at hi
  ·rename_i xs hx;simp only[HV]at hi;obtain⟨vs,h1,r1⟩:=cy so hx (e.ad _ _ ea);show#[vs,h1,?_];rw[<- r1.length];exact Jh.mp hi
  ·cases hi
def dS {lo:G0}{n i:GP}:(cV lo n)[i]?=if i < n then gV (.int (lo+i))else td:=by
 unfold cV;rw[GV]
 by_cases h:i < n
 ·rw[Ho h,Jf h]; rfl
 ·rw[HD h,Jh.mpr (by simp; omega)]; rfl
def qN {A:GD GU}{H:Hp}{lo:G0}{n:GP}:MIt X.w X.K (.its (cV lo n)) (CZ lo n) A H:=by
 show#[λA' H' S i w e so hi=>?_,λA' H' S i e so hi=>?_]
 ·simp only[MI.at,HV]at hi;rw[dS]at hi;split at hi
  ·cases hi;show#[by assumption,λx H2 #[z1,z2]=>?_]
   subst z1 z2;exact#[.refl,so,.int]
  ·cases hi
 ·simp only[MI.at,HV]at hi;rw[dS]at hi;split at hi
  ·cases hi
  ·change n<=i;omega
def n6 {tg:Hl}{J:GD (GU×IM)}{Y:L2.St}{H1:Hp}{s1:GL}{R:It->Hp->Prop}{a:GU}{xs:GD V}{v:GK}(I1:Inv X J Y H1 s1)(r1:RelV (.ref a) v)(hq:SqL X.K H1 a xs)(q:R (E8 X.K a) H1) :
  wpAny (model X.prog X.w) X.A (pyIter v) (EF X J Y tg R) X.xe s1:=by
 cases r1;obtain⟨its,rv,p,hz⟩:=I1.list hq;show Ly p.isList ?_;show#[s1.heap.objs.size,[s1.heap.objs.size],_,_,H1,rfl,I1.kept (t':=s1.toks) λb o e=>GR _ e,rF a _,#[_,He _ rfl,rfl,rfl],λb hb=>?_,q]
 have e:b=s1.heap.objs.size:=by simpa using hb
 subst e;exact I1.fpOk (G3 _) (I1.hok.fresh (G3 _))
def pE {tg:Hl}{J:GD (GU×IM)}{Y:L2.St}{H1:Hp}{s1:GL}{R:It->Hp->Prop}{a:GU}{xs:GD V}{v:GK}(I1:Inv X J Y H1 s1)(r1:RelV (.ref a) v)(hq:SqT X.K H1 a xs)(q:R (CB X.K a) H1) :
  wpAny (model X.prog X.w) X.A (pyIter v) (EF X J Y tg R) X.xe s1:=by
 cases r1;obtain⟨its,rv,p,hz⟩:=I1.tuple hq;show Nc (show s1.heap.IsTuple a its.toArray from p) ?_
 show#[s1.heap.objs.size,[s1.heap.objs.size],_,_,H1,rfl,I1.kept (t':=s1.toks) λb o e=>GR _ e,o6 a _,#[_,He _ rfl,rfl,rfl],λb hb=>?_,q]
 have e:b=s1.heap.objs.size:=by simpa using hb
 subst e;exact I1.fpOk (G3 _) (I1.hok.fresh (G3 _))
def yL {tg a:Hl}{f:FA}{p pos:Jq}(hg:Gl X "range")(hm:X.mg "range" = td)(ha:GA X [a] f)(hs:starEach [a] X.env=[(false,eval a X.env)]):GI X tg (.Call (.Name "range" p) [a] [] pos) (pB f):=by
 intro J s Y H R I ⟨A,Z,S,mi,S',er,so,e,hq⟩;unfold pB at e;split at e
 ·rename_i j S1 h1;split at e
  ·rename_i hj;cases e;show rG hg hm ha hs J s Y H R I #[A,Z,S,_,_,er,so,h1,λvs H1 #[A1,z1,z2,z3]=>?_]
   cases z3 with
   | cons r1 t=>
    cases t;cases r1;exact#[j,rfl,hj.1,hj.2,hq _ _ A1 z1 z2 qN]
  ·cases e
 ·cases e
def yM {tg a b:Hl}{f:FA}{p pos:Jq}(hg:Gl X "range")(hm:X.mg "range" = td)(ha:GA X [a,b] f)(hs:starEach [a,b] X.env=[(false,eval a X.env),(false,eval b X.env)])(hs2:starEach [b] X.env=[(false,eval b X.env)]):GI X tg (.Call (.Name "range" p) [a,b] [] pos) (iRng2 f):=by
 intro J s Y H R I ⟨A,Z,S,mi,S',er,so,e,hq⟩;unfold iRng2 at e;split at e
 ·rename_i i j S1 h1;split at e
  ·rename_i hj;cases e;show rH hg hm ha hs hs2 J s Y H R I #[A,Z,S,_,_,er,so,h1,λvs H1 #[A1,z1,z2,z3]=>?_]
   cases z3 with
   | cons r1 t=>
    cases t with
    | cons r2 t=>
     cases t;cases r1;cases r2;exact#[i,j,rfl,hj,hq _ _ A1 z1 z2 qN]
  ·cases e
 ·cases e
def BL {tg l:Hl}{f:FE}(h:GE X l f):GI X tg l (yI f):=by
 intro J s Y H R I ⟨A,Z,S,mi,S',er,so,e,hq⟩;unfold yI at e;split at e
 ·rename_i ws S1 h1;cases e;show bm (h J s Y H (EndV X.w X.K A H _ (.tup ws)) I #[A,Z,S,_,_,er,so,h1,λ_ _ z=>z]) λv s1 #[x,H1,I1,r1,A1,e1,o1,z1]=>?_
  cases z1 with
  | tup hq1 rl=>
   show pE I1 r1 hq1 (hq _ _ A1 e1 o1 (yJ hq1 rl))
 ·rename_i r S1 h1;split at e
  ·rename_i ys hy;cases e;show bm (h J s Y H (EndV X.w X.K A H _ (.ref r)) I #[A,Z,S,_,_,er,so,h1,λ_ _ z=>z]) λv s1 #[x,H1,I1,r1,A1,e1,o1,z1]=>?_
   cases z1 with
   | ref ea=>
    obtain⟨vs,hl,_⟩:=cy o1 hy ea;exact n6 I1 r1 hl (hq _ _ A1 e1 o1 (yK ea))
  ·cases e
 ·cases e
def BM {tg iter:Hl}{body:GD JR}{pos:Jq}{fi:FI}{g:FG}{fb:FS}(hp:MK (model X.prog X.w) X.A X.env X.xe)(hc:X.calm=true)(hi:GI X tg iter fi)(hg:GG X tg g)(hb:GSs X body fb)
  (hs:∀x,foldedSetIterable iter X.env x=pure x):GS X (.For tg iter body [] pos) (uV fi g fb):=GS.of (AS hp hc hi hg hb hs) λY H A Z S o S' er so e D hd=>by
 unfold uV at e;split at e
 ·rename_i mi S1 h1;split at e
  ·rename_i n hn;show#[A,Z,S,mi,S1,er,so,h1,λtv H1 A1 z1 z2 mit=>?_]
   show#[λi m Y2 H2=>∃A2 Z2 S2,Ext X.K A1 H1 A2 H2/\EnvRel X.K A2 H2 Z2 Y2/\StoreOk X.w X.K A2 H2 S2/\fG mi g fb m i Z2 S2=gV (o,S'),#[n,A1,Z,S1,.refl,er.mono z1,z2,e],?_]
   rintro i m Y2 H2 ⟨A2,Z2,S2,e2,er2,so2,w2⟩;cases m with
   | zero=>
    dsimp only[fG]at w2;split at w2
    ·rename_i hs;cases w2;exact .inl #[mit.stop A2 H2 _ i e2 so2 hs,hd.nx _ _ #[_,A2,rfl,z1.trans e2,so2,er2]]
    ·cases w2
   | succ m=>
    dsimp only[fG]at w2;split at w2
    ·rename_i w hw;obtain⟨go,yl⟩:=mit.go A2 H2 S2 i w e2 so2 hw;show .inr #[go,λY3 H3=>∃A3 Z3 S3,Ext X.K A1 H1 A3 H3/\EnvRel X.K A3 H3 Z3 Y3/\StoreOk X.w X.K A3 H3 S3/\fG mi g fb m (i+1) Z3 S3=gV (o,S'),λY' H' h=>#[m,IZ _,h],λx H3 hy=>?_]
     obtain⟨x1,x2,x3⟩:=yl x H3 hy;split at w2
     ·rename_i Z3 S3 h3;show#[A2,Z2,S2,w,Z3,S3,er2.mono x1,x2,x3,h3,λY4 H4 A4 y1 y2 y3=>?_]
      have ex:Ext X.K A1 H1 A4 H4:=(e2.trans x1).trans y1;split at w2
      ·rename_i Z5 S5 h5;show#[A4,Z3,S3,_,S5,y3,y2,h5,#[λY' H' #[Z',A',u0,u1,u2,u3]=>?_,λv H' #[w,A',y0,_,_,_]=>(by cases y0),λv H' #[w,A',y0,_,_,_]=>(by cases y0),λv H' #[w,A',y0,_,_,_]=>(by cases y0)]]
       cases u0;exact#[A',_,S5,ex.trans u1,u3,u2,w2]
      ·rename_i Z5 S5 h5;show#[A4,Z3,S3,_,S5,y3,y2,h5,#[λv H' #[w,A',y0,_,_,_]=>(by cases y0),λv H' #[w,A',y0,_,_,_]=>(by cases y0),λv H' #[w,A',y0,_,_,_]=>(by cases y0),λY' H' #[Z',A',u0,u1,u2,u3]=>?_]]
       cases u0;exact#[A',_,S5,ex.trans u1,u3,u2,w2]
      ·rename_i Z5 S5 h5;cases w2;show#[A4,Z3,S3,_,_,y3,y2,h5,#[λv H' #[w,A',y0,_,_,_]=>(by cases y0),λv H' #[w,A',y0,_,_,_]=>(by cases y0),λY' H' #[Z',A',u0,u1,u2,u3]=>?_,λv H' #[w,A',y0,_,_,_]=>(by cases y0)]]
       cases u0;exact hd.nx _ _ #[_,A',rfl,(z1.trans ex).trans u1,u2,u3]
      ·rename_i w5 S5 h5;cases w2;show#[A4,Z3,S3,_,_,y3,y2,h5,#[λv H' #[w,A',y0,_,_,_]=>(by cases y0),λv H' #[w,A',u0,u1,u2,u3]=>?_,λv H' #[w,A',y0,_,_,_]=>(by cases y0),λv H' #[w,A',y0,_,_,_]=>(by cases y0)]]
       cases u0;exact hd.rt _ _ #[_,A',rfl,(z1.trans ex).trans u1,u2,u3]
      ·cases w2
     ·cases w2
    ·cases w2
  ·cases e
 ·cases e
end
section
variable{prog:Hx}{w:HL}{B:HE}{E:GK->GL->Prop}{s:GL}
def yN {d:GU}{es:HR Jn}{ep:GP}{Q:GK->GL->Prop}(hd:(d==sysModules)=false)(hm:RawD d es ep s.heap)(hfit:(es.size:G0) < 2 ^ 63)
  (h:Q (.int es.size (s.toks+1)) { s with toks:=s.toks+1+1 }):wpAny (model prog w) B (call (.builtin "len") [.ref d]) Q E s:=by
 have hT:=hm.type;obtain⟨o,ho,hc,hdat⟩:=id hm;show Lp kind_len plain_len entry_len (args_len1 _) ?_;unfold LZ.«len»;show GH (m:=oneArg "len" _) (GX ?_);show GH (m:=callSpecial? (.ref d) (IF "__len__")) (Il (name:=IF "__len__") hT F.slot_dict_len (IA F.slot_dict_len hT F.entry_dict_len ?_ (F.args_dict_len_1 _)));change wpAny _ _ (dictSize d >>= _) _ _ s;unfold dictSize;show GH (GH (KO ho hdat (GX ?_)));change wpAny _ _ (OD d >>= _) _ _ s;show GH (wpAny_pendingCount_other hd ?_);show wpAny_ret_mkInt ?_;rw[Nat.add_zero];change wpAny _ _ _ _ _ { s with toks:=s.toks+1 }
 show GH (IJ (GX ?_));show GH (K3 ?_);change wpAny _ _ (if ((es.size:GP):G0) < 0 then _ else _) _ _ _
 rw[HD ∅]
 change wpAny _ _ (if ((es.size:GP):G0)>=2 ^ 63 then _ else _) _ _ _
 rw[HD ∅]
 exact GH (N3 (GX #[_,rfl,h]))
end
section
variable{X:Cx}{J:GD (GU×IM)}{Y:L2.St}{H:Hp}{s:GL}{A:GD GU}{S:aa}
def pG:LCall X (.builtin "len") pv:=by
 intro J s Y H A S xs vs us w S' I so rl rv e
 by_cases hd:∃i U,xs=[.ref i]/\kD S i=gV U
 ·obtain⟨i,U,rfl,hk⟩:=hd
  (dsimp only[pv]at e; simp only[hk]at e)
  cases e;cases rl with
  | cons r t=>
   cases t;cases rv with
   | cons ru rv2=>
    cases rv2;cases r with
    | ref ea=>
     obtain⟨xs,rd,kr⟩:=fD so hk ea;have d:=cu I rd;obtain⟨es,ep,raw,he⟩:=d.raw;obtain rfl:_=HQ _:=ru;have hl:es.size=xs.length:=by rw[<- HG,he,GF]
     have hz:=d.1;have hs:sizeLine=16777216:=Ik;show yN d.2.1 raw ∅ #[.int U.length,H,A,I.tok _,#[_,by rw[kr.length,hl]],.refl,so,.int]
 ·have:pv xs S=pj xs S:=by
   unfold pv;split
   ·rename_i i;split
    ·rename_i U hk;exact absurd #[i,U,rfl,hk] hd
    ·rfl
   ·rfl
  rw[this]at e;exact rX J s Y H A S xs vs us w S' I so rl rv e
abbrev EM (S:aa):W->GN Iw
 | .non=>gV "NoneType"|.bl _=>gV "bool"|.int _=>gV "int"|.str _=>gV "str"|.tup _=>gV "tuple"
 | .ref i=>match gz S i with
  | some _=>gV "list"
  | none=>(kD S i).map λ_=>"dict"
abbrev n8:GD Iw:=["bool","int","str","tuple","list","dict"]
abbrev sv (S:aa)(x:W)(c:Iw):GN Hj:=match EM S x with
 | some t=>if n8.contains c then gV (t==c||(t == "bool" && c == "int"))else td
 | none=>td
def gC {K:G4}{t c:Iw}(ht:t∈["NoneType","bool","int","str","tuple","list","dict"])(hc:c∈n8):PySem.W.kitOne K (.type t) (.type c)=gV (t==c||(t == "bool" && c == "int")):=by
 simp only[n8,Hn,Ih,JX]at ht hc;rcases ht with rfl|rfl|rfl|rfl|rfl|rfl|rfl <;> rcases hc with rfl|rfl|rfl|rfl|rfl|rfl <;> rfl
def uW:CallR X (.builtin "isinstance") (λvs H Q=>∃A S x v c b,vs=[v,.ty c]/\StoreOk X.w X.K A H S/\Rel X.K A H x v/\sv S x c=gV b/\Q (.bl b) H):=by
 intro J s Y H vs us Q I rv ⟨A,S,x,v,c,b,e1,so,rx,e2,hq⟩;subst e1;cases rv with
 | cons r1 rv2=>cases rv2 with
  | cons r2 rv3=>
   cases rv3;obtain rfl:_=Kg c:=r2;unfold sv at e2;split at e2
   ·rename_i t ht;split at e2
    ·rename_i hc;cases e2;have hc':c∈n8:=by simpa using hc
     have fin:∀tk,EP X J Y Q (.bool (t==c||(t == "bool" && c == "int"))) { s with toks:=tk }:=λtk=>#[.bl _,H,I.tok _,rfl,hq]
     cases rx with
     | non=>cases ht; cases(show _=HZ from r1); exact JI PySem.W.kitx_none I.kIn KZ (gC (by simp) hc') (λz=>nomatch z) fin
     | bl=>cases ht; cases(show _=Jo _ from r1); exact JI PySem.W.kitx_bool I.kIn KZ (gC (by simp) hc') (λz=>nomatch z) fin
     | int=>cases ht; obtain⟨t',q⟩:=(show ∃t,_=LI _ t from r1); cases q; exact JI PySem.W.kitx_int I.kIn KZ (gC (by simp) hc') (λz=>nomatch z) fin
     | str=>cases ht; obtain⟨t',q⟩:=(show ∃t,_=LJ _ t from r1); cases q; exact JI PySem.W.kitx_str I.kIn KZ (gC (by simp) hc') (λz=>nomatch z) fin
     | tup h1 r1'=>
      cases ht;obtain⟨its,rv,⟨o,q1,q2,_⟩,hz⟩:=I.tuple h1;cases(show _=HQ _ from r1)
      exact JI PySem.W.kitx_tuple I.kIn #[o,q1,q2] (gC (by simp) hc') (λz=>nomatch z) fin
     | ref ea=>
      cases(show _=HQ _ from r1)
      dsimp only[EM]at ht;split at ht
      ·rename_i ws hw;cases ht;obtain⟨vs,h1,_⟩:=cy so hw ea;obtain⟨its,rv,p,hz⟩:=I.list h1;obtain⟨o,q1,q2,_⟩:=p.isList;exact JI PySem.W.kitx_list I.kIn #[o,q1,q2] (gC (by simp) hc') (λz=>nomatch z) fin
      ·rw[GM]at ht;obtain⟨U,hk,rfl⟩:=ht;obtain⟨xs,rd,kr⟩:=fD so hk ea;obtain⟨es,ep,⟨o,q1,q2,_⟩,he⟩:=(cu I rd).raw;exact JI PySem.W.kitx_dict I.kIn #[o,q1,q2.1] (gC (by simp) hc') (λz=>nomatch z) fin
    ·cases e2
   ·cases e2
abbrev uX (c:Iw)(f:FE):FE:=λZ S=>match f Z S with
 | some (x,S1)=>(sv S1 x c).map λb=>(.bl b,S1)
 | none=>td
def BN {cn:Hc}{c:Iw}{e:Hl}{p p2 pos:Jq}{f:FE}(hg:Gl X "isinstance")(hm:X.mg "isinstance" = td)(hg2:Gl X cn)(hm2:X.mg cn=td)(hv2:bootBuiltins cn=gV (.type c))(hn2:cn≠"__name__")(hd2:(cn==("__debug__" : Hc))=false)
  (he:GE X e f) (hs:starEach [e,.Name cn p2] X.env=(false,eval e X.env)::starEach [.Name cn p2] X.env):GE X (.Call (.Name "isinstance" p) [e,.Name cn p2] [] pos) (uX c f):=
 GE.of (nu (uW) hg hm rfl (lT he (lT (xp (v:=.ty c) hg2 hm2 hv2 rfl hn2 hd2) tM) hs) #v[] #v[] hs rfl) λY H A Z S w S' er so e Q hq=>by
  unfold uX at e;split at e
  ·rename_i x1 S1 h1;rw[GM]at e;obtain⟨b,e1,e2⟩:=e;cases e2;exact#[A,Z,S,x1,_,er,so,h1,λv H1 #[A1,z1,z2,z3]=>#[A1,_,x1,v,c,b,rfl,z2,z3,e1,hq _ _ #[A1,z1,z2,.bl]]]
  ·cases e
end
abbrev gD:GD (T×W)->GD W->GN (GD (T×W))
 | U,[]=>gV U
 | U,k::v::ws=>match ji k with
  | some t=>gD (fZ U t v) ws
  | none=>td
 | _,[_]=>td
abbrev z6:FE:=λ_ S=>gV (.ref S.length,S++[.dic []])
abbrev og (f:FA):FE:=λZ S=>match f Z (S++[.dic []])with
 | some (ws,S1)=>match S1[S.length]? with
  | some (.dic [])=>match gD [] ws with
   | some U=>gV (.ref S.length,S1.set S.length (.dic U))
   | none=>td
  | _=>td
 | none=>td
section
variable (K:G4) (A:GD GU) (H:Hp)
inductive RelP:GD W->GD (V×V)->Prop
 | nil:RelP [] []
 | cons {k v:W} {a b:V} {ws:GD W} {ps:GD (V×V)}:Rel K A H k a->Rel K A H v b->RelP ws ps->RelP (k::v::ws) ((a,b)::ps)
end
def RelP.mono {K:G4}{A A':GD GU}{H H':Hp}(e:Ext K A H A' H'){ws:GD W}{ps:GD (V×V)}(h:RelP K A H ws ps):RelP K A' H' ws ps:=by
 induction h with
 | nil=>exact .nil
 | cons a b c ih=>exact .cons (a.mono e) (b.mono e) ih
section
variable{X:Cx}{J:GD (GU×IM)}{Y:L2.St}{H:Hp}{s:GL}{A:GD GU}{S:aa}
abbrev FD (X:Cx)(A:GD GU)(H:Hp)(S':aa)(ws:GD W):GD (V×V)->Hp->Prop:=λps H'=>∃A',Ext X.K A H A' H'/\StoreOk X.w X.K A' H' S'/\RelP X.K A' H' ws ps
abbrev Dy (X:Cx)(pos:Jq)(keys:GD (GN Hl))(values:GD Hl)(f:FA):Prop:=
 ∀(J:GD (GU×IM)) (s:GL) (Y:L2.St) (H:Hp) (A:GD GU) (Z:Fm) (S:aa) (ws:GD W) (S':aa),Inv X J Y H s->EnvRel X.K A H Z Y->StoreOk X.w X.K A H S->f Z S=gV (ws,S')->
  wpAny (model X.prog X.w) X.A (evalPairs (pairTrees keys values X.env pos)) (λvs s'=>∃ps H',Inv X J Y H' s'/\VV ps vs/\FD X A H S' ws ps H') X.xe s
def yO {pos:Jq}:Dy X pos [] [] gY:=λJ s Y H A Z S ws S' I er so e=>by
 cases e;exact pairTrees_nil_walk #[[],H,I,.nil,A,.refl,so,.nil]
def uY {pos:Jq}{k v:Hl}{ks:GD (GN Hl)}{vs:GD Hl}{fk fv:FE}{f:FA}(hk:GE X k fk)(hv:GE X v fv)(hr:Dy X pos ks vs f):Dy X pos (gV k::ks) (v::vs) (dz fk (dz fv f)):=λJ s Y H A Z S ws S' I er so e=>by
 unfold dz at e;split at e
 ·rename_i w1 S1 h1;split at e
  ·rename_i w2 S2 h2;cases e;split at h2
   ·rename_i w3 S3 h3;split at h2
    ·rename_i w4 S4 h4;cases h2;show pairTrees_cons_walk (bm (hk J s Y H (EndV X.w X.K A H S1 w1) I #[A,Z,S,_,_,er,so,h1,λ_ _ z=>z]) λu s1 #[x,H1,I1,r1,A1,e1,o1,z1]=>
      bm (hv J s1 Y H1 (EndV X.w X.K A1 H1 S3 w3) I1 #[A1,Z,S1,_,_,er.mono e1,o1,h3,λ_ _ z=>z]) λu2 s2 #[x2,H2,I2,r2,A2,e2,o2,z2]=>
      bm (hr J s2 Y H2 A2 Z S3 _ _ I2 (er.mono (e1.trans e2)) o2 h4) λvs' s3 #[ps,H3,I3,rel,A3,e3,o3,z3]=>?_)
     exact#[(x,x2)::ps,H3,I3,.cons #[r1,r2] rel,A3,e1.trans (e2.trans e3),o3,.cons (z1.mono (e2.trans e3)) (z2.mono e3) z3]
    ·cases h2
   ·cases h2
  ·cases e
 ·cases e
def lq {r:GP}{d:GU}{E:GK->GL->Prop}(hu:X.A.units+10 < cLine):∀(vs:GD (GK×GK)) (ps:GD (V×V)) (ws:GD W) (U U':GD (T×W)) (s:GL) (H:Hp) (S:aa) (Q:PUnit->GL->Prop),
  Inv X J Y H s->StoreOk X.w X.K A H S->nJ S r=gV U->A[r]?=gV d->RelP X.K A H ws ps->VV ps vs->gD U ws=gV U'->U.length+vs.length<=30->
  (∀s' H',Inv X J Y H' s'->Ext X.K A H A H'->StoreOk X.w X.K A H' (S.set r (.dic U'))->Q Nb s')->
  wpAny (model X.prog X.w) X.A (forIn vs Nb λ(x:GK×GK) (_:PUnit)=>(do dictSet d x.1 x.2; pure (IU Nb):O4 (ForInStep PUnit))) Q E s
 | [],_,_,U,U',s,H,S,Q,I,so,hr,ea,rp,vv,e,hl,hq=>by
  cases vv;cases rp;cases e;rw[My];show GX (hq s H I .refl ?_);have hS:=gU hr;have:S.set r (.dic U)=S:=by
   apply KQ;intro j;rw[Jb];split
   ·rename_i e; subst e
    split
    ·exact hS.symm
    ·rename_i h; exact absurd (G5.mp hS).1 h
   ·rfl
  rw[this]; exact so
 | (ku,vu)::vs,_,_,U,U',s,H,S,Q,I,so,hr,ea,rp,vv,e,hl,hq=>by
  cases vv with
  | cons hv vv2=>
   cases rp with
   | @cons wk wv va vb ws2 ps2 rk rv' rp2=>
    dsimp only[gD]at e;split at e
    ·rename_i t ht;rw[Ma];obtain⟨xs,hH,kr⟩:=qD so hr ea;have dd0:=cu I (.inl hH);have dd:=dd0.dict I kr;obtain⟨bk,e1,e2,rkk⟩:=gT ht rk hv.1;have e2:ku=HQ bk:=e2;subst e2;obtain⟨q1,q2,q3⟩:=dJ ht;rw[HK]at hl;have hz:xs.length<=sizeLine:=dd0.1;show GH (GH (wpAny_dictSet_heap (hsz:=hz) (show X.A.units+bg < cLine by unfold bg; omega) (iB I rkk q3) dd λh' dd' hs=>GX ?_))
     have kr':=kr.put q2 q3 rkk rv' hv.2;have hz':(storedH xs t bk vu).length<=sizeLine:=by
      rw[<- kr'.length];have h2:=d0 U t wv;rw[Ik];omega
     have dn:DicAt X.w d (storedH xs t bk vu) h':=.of hz' dd0.2.1 dd';obtain⟨so',ex⟩:=so.writeO (gU hr) rfl ea (u:=dP X.w d (storedH xs t bk vu)) (n:=.dic (fZ U t wv)) #[_,aY,kr'.mono (dg (.ext hH))];have I':Inv X J Y (bM H d (dP X.w d (storedH xs t bk vu))) { s with heap:=h',toks:=s.toks+(cJ X.prog X.w).draws t }:=l4 I (by rw[hH]; exact KZ) hs (let ⟨q,_,_,hq,_⟩:=dd'; #[q,hq]) dn.ok
     have hl':(S.set r (.dic (fZ U t wv)))[r]?=gV (.dic (fZ U t wv)):=by
      rw[Jb,Ho rfl,Ho (G5.mp (gU hr)).1]
     show lq hu vs _ _ (fZ U t wv) U' _ _ _ Q I' so' (by unfold nJ; rw[hl']) ea (rp2.mono ex) vv2 e (by have:=d0 U t wv; omega) λs' H' I2 ex2 so2=>?_
     rw[List.set_set]at so2;exact hq s' H' I2 (ex.trans ex2) so2
    ·cases e
def yP {pos:Jq}:GE X (.Dict [] [] pos) z6:=λJ s Y H Q I #[A,Z,S,w,S',er,so,e,hq]=>by
 cases e;have hn:=I.hok.fresh (G3 s.heap.objs.size);have dn:DicAt X.w s.heap.objs.size [] (s.heap.push { cls:=.type "dict",data:=.dict #[] }):=#[IB _,Kn.mpr (Ne.symm (Hu I.big)),Mz,_,#[],0,He _ rfl,#[rfl,rfl,rfl],rfl,rfl];show wpAny_Dict_empty #[.ref s.heap.objs.size,_,I.laid (a:=s.heap.objs.size) (o:=dP X.w s.heap.objs.size []) (t':=s.toks) (λ_ _ q=>GR _ q) (G3 _) dn.ok,rfl,hq _ _ #[A++[s.heap.objs.size],dQ hn,so.pushO hn #[[],aY,.nil],.ref ?_]]
 rw[<- so.len]; simp
def yQ {pos:Jq}{keys:GD (GN Hl)}{values:GD Hl}{f:FA}(hu:X.A.units+10 < cLine)(h:Dy X pos keys values f)(hall:keys.all (·.isSome)=true)(hl:keys.length=values.length)(h0:keys≠[])(h15:keys.length<=15):GE X (.Dict keys values pos) (og f):=by
 intro J s Y H Q I ⟨A,Z,S,w,S',er,so,e,hq⟩;unfold og at e;split at e
 ·rename_i ws S1 h1;split at e
  ·rename_i hS1;split at e
   ·rename_i U hp;cases e;have hn:=I.hok.fresh (G3 s.heap.objs.size);have dn:DicAt X.w s.heap.objs.size [] (s.heap.push { cls:=.type "dict",data:=.dict #[] }):=#[IB _,Kn.mpr (Ne.symm (Hu I.big)),Mz,_,#[],0,He _ rfl,#[rfl,rfl,rfl],rfl,rfl];have I1:=I.laid (a:=s.heap.objs.size) (o:=dP X.w s.heap.objs.size []) (h':=s.heap.push { cls:=.type "dict",data:=.dict #[] }) (t':=s.toks) (λ_ _ q=>GR _ q) (G3 _) dn.ok
    have ex0:Ext X.K A H (A++[s.heap.objs.size]) (bM H s.heap.objs.size (dP X.w s.heap.objs.size [])):=dQ hn;have so0:StoreOk X.w X.K (A++[s.heap.objs.size]) (bM H s.heap.objs.size (dP X.w s.heap.objs.size [])) (S++[.dic []]):=so.pushO hn #[[],aY,.nil];have hlen:=pairTrees_length keys values X.env pos hall hl;have hne:pairTrees keys values X.env pos≠[]:=λhe=>by
     rw[he]at hlen;exact h0 (JY.mp hlen.symm)
    rw[arm_eval_Dict,zip_pairTrees keys values X.env pos hall hl,dictDisplay_pairs _ hne ∅]
    show GH (Kr (GH ?_));unfold subDict;show GH (Pd ?_);show GH (IJ ?_);rw[Ho ∅]
    show GH (IW (wpAny_evalPairs_len (h J _ Y _ _ Z _ _ _ I1 (er.mono ex0) so0 h1)) (λvs s₁ h₁=>?_) λ_ _ e=>e)
    obtain⟨hvl,ps,H2,I2,vv,A2,ex2,so2,rp⟩:=h₁;show IJ ?_;have ea:A2[S.length]?=gV s.heap.objs.size:=ex2.ad _ _ (by rw[<- so.len]; simp)
    show GH (lq hu vs ps ws [] U s₁ H2 S1 _ I2 so2 (by unfold nJ; rw[hS1]) ea rp vv hp (by rw[IT]; omega) λs' H' I3 ex3 so3=>?_)
    exact GX (GX (GX #[.ref s.heap.objs.size,H',I3,rfl,hq _ _ #[A2,ex0.trans (ex2.trans ex3),so3,.ref ea]]))
   ·cases e
  ·cases e
 ·cases e
end
abbrev Gc (wd:HL)(a:GU)(o:IM)(xs:GD (T×GU×GK)):It:=
 #[λi H=>H a=gV (.frz o (dP wd a xs))/\i < xs.length,λi H x H'=>H'=H/\∃q,xs[i]?=gV q/\x=.ref q.2.1,λi H=>H a=gV (.frz o (dP wd a xs))/\xs.length<=i]
def sw {P:Hx}{w:HL}{K:G4}{tg:Hl}(a it:GU){o:IM}{es:HR Jn}{ep:GP}{xs:GD (T×GU×GK)}(hx:o.ExactDict)(hd:o.data=.dict es ep)(he:es.toList=xs.map (ud w)) :
  Turn P w K tg (Gc w a o xs) [it] it (λi h=>h.IsKeyIter it a i es.size ep) where
 mem:=by simp
 obj:=λi h st b hb=>by
  have e:b=it:=by simpa using hb
  subst e;obtain⟨o,e,c,d⟩:=st;exact#[o,e,λv z=>by rw[d]at z; cases z]
 keep:=λi h h' st k=>st.at λo e=>k it (by simp) o e
 item:=by
  intro X hP hw hK hc i J s Y H E I hf st hg;subst hP hw hK;obtain⟨hH,hi⟩:=hg;have ho:s.heap.get? a=gV o:=(show ObjOk X.prog X.w H s.heap a (.frz o (dP X.w a xs))from I.hok a _ hH).1
  have hl:es.size=xs.length:=by rw[<- HG,he,GF]
  have hi':i < es.size:=∅
  obtain⟨f0,f1,f2,f3,f4,f5⟩:=hf it (by simp)
  have hk:es[i].key=.ref (xs[i]).2.1:=by
   have:es.toList[i]?=gV (ud X.w xs[i]):=by rw[he,GV,G1 hi]; rfl
   rw[IN,Km hi']at this;have:=Io this;rw[this]; rfl
  show nO st #[o,ho,hx,hd] hi' λh' st' sb=>?_
  have I1:Inv X J Y H { s with heap:=h' }:=I.turned (t':=s.toks) (λb o hb e=>(sb.2 b hb).trans e) f0 f1 f3 f4 f5
  obtain⟨o',e,c,d⟩:=id st';exact#[_,rfl,ql (s:={ s with heap:=h' }) e c d #v[] #[.ref (xs[i]).2.1,H,I1,hk,#[rfl,xs[i],G1 hi,rfl],st',λb hb=>(hf b hb).1]]
 done:=by
  intro X hP hw hK hc i J s Y H E I hf st hg;subst hP hw hK;obtain⟨hH,hi⟩:=hg;have ho:s.heap.get? a=gV o:=(show ObjOk X.prog X.w H s.heap a (.frz o (dP X.w a xs))from I.hok a _ hH).1
  have hl:es.size=xs.length:=by rw[<- HG,he,GF]
  obtain⟨f0,f1,f2,f3,f4,f5⟩:=hf it (by simp)
  exact qE (I.ok.hd hc) st #[o,ho,hx,hd] ∅ λh' eb=>#[rfl,I.turned (t':=s.toks) (λb o hb e=>eb b o hb e) f0 f1 f3 f4 f5]
 self:=λ_ _ _ _ _ st h=>Mv st h
abbrev ff (f:FE):FI:=λZ S=>match f Z S with
 | some (.tup ws,S1)=>gV (.its ws,S1)
 | some (.ref r,S1)=>match gz S1 r with
  | some _=>gV (.live r,S1)
  | none=>match kD S1 r with
   | some U=>gV (.its (U.map λp=>p.1.w),S1.set r (.frd U))
   | none=>td
 | _=>td
section
variable{X:Cx}{J:GD (GU×IM)}{Y:L2.St}{H:Hp}{s:GL}{A:GD GU}{S:aa}
def uZ {a:GU}{o:IM}{U:GD (T×W)}{xs:GD (T×GU×GK)}(hH:H a=gV (.frz o (dP X.w a xs)))(kr:KRel X.K A H U xs):MIt X.w X.K (.its (U.map λp=>p.1.w)) (Gc X.w a o xs) A H:=by
 show#[λA' H' S i w e so hi=>?_,λA' H' S i e so hi=>?_]
 ·simp only[MI.at,HV]at hi;obtain⟨v,h1,h2⟩:=((kr.mono e).keysL).get hi;rw[GV,GM]at h1;obtain⟨q,q1,q2⟩:=h1;show#[#[e.fz _ _ _ hH,(G5.mp q1).1],λx H2 #[z1,q',z2,z3]=>?_]
  subst z1 z3;rw[q1]at z2; cases z2
  exact#[.refl,so,by rw[q2]; exact h2]
 ·simp only[MI.at,HV]at hi;show#[e.fz _ _ _ hH,?_];have:=Jh.mp hi;rw[GF,kr.length]at this;exact this
def yR {tg l:Hl}{f:FE}(h:GE X l f):GI X tg l (ff f):=by
 intro J s Y H R I ⟨A,Z,S,mi,S',er,so,e,hq⟩
 by_cases hd:∃r S1 U,f Z S=gV (.ref r,S1)/\gz S1 r=td/\kD S1 r=gV U
 ·obtain⟨r,S1,U,h1,h2,h3⟩:=hd;simp only[ff,h1,h2,h3]at e;cases e;show bm (h J s Y H (EndV X.w X.K A H S1 (.ref r)) I #[A,Z,S,_,_,er,so,h1,λ_ _ z=>z]) λv s1 #[x,H1,I1,r1,A1,e1,o1,z1]=>?_
  cases z1 with
  | @ref _ a ea=>
   obtain rfl:v=HQ a:=r1;have fz:∃o xs H2,Inv X J Y H2 s1/\Ext X.K A1 H1 A1 H2/\StoreOk X.w X.K A1 H2 (S1.set r (.frd U))/\H2 a=gV (.frz o (dP X.w a xs))/\KRel X.K A1 H2 U xs:=by
    unfold kD at h3;split at h3
    ·rename_i k hk;cases h3;obtain⟨xs,hH,kr⟩:=o1.obj r _ a hk ea;have d:=cu I1 (.inl hH);obtain⟨_,_,_,o,es,ep,q1,q2,q3,q4⟩:=id d;obtain⟨so',ex⟩:=o1.writeO hk rfl ea (u:=.frz o (dP X.w a xs)) (n:=.frd U) #[o,xs,aY,kr.mono (dg (.ext hH))];exact#[o,xs,_,l4 (h':=s1.heap) (t':=s1.toks) (ob:=.frz o (dP X.w a xs)) I1 (by rw[hH]; exact KZ) (PD _ _) #[o,q1] #[q1,d.ok],ex,so',aY,kr.mono ex]
    ·rename_i k hk;cases h3;obtain⟨o,xs,hH,kr⟩:=o1.obj r _ a hk ea;have:S1.set r (.frd U)=S1:=by
      apply KQ;intro j;rw[Jb];split
      ·rename_i e; subst e
       split
       ·exact hk.symm
       ·rename_i h; exact absurd (G5.mp hk).1 h
      ·rfl
     rw[this];exact#[o,xs,H1,I1,.refl,o1,hH,kr]
    ·cases h3
   obtain⟨o,xs,H2,I2,ex,so2,hH,kr⟩:=fz;have d:=cu I2 (.inr #[o,hH]);have ho:s1.heap.get? a=gV o:=(show ObjOk X.prog X.w H2 s1.heap a (.frz o (dP X.w a xs))from I2.hok a _ hH).1
   obtain⟨_,hsm,_,o',es,ep,q1,q2,q3,q4⟩:=id d;rw[ho]at q1;cases q1;show nN hsm #[o,ho,q2,q3] ?_;show#[s1.heap.objs.size,[s1.heap.objs.size],_,_,H2,rfl,I2.kept (t':=s1.toks) λb o e=>GR _ e,sw a _ q2 q3 q4,#[_,He _ rfl,rfl,rfl],λb hb=>?_,hq _ _ A1 (e1.trans ex) so2 (uZ hH kr)]
   have e:b=s1.heap.objs.size:=by simpa using hb
   subst e;exact I2.fpOk (G3 _) (I2.hok.fresh (G3 _))
 ·have:ff f Z S=yI f Z S:=by
   unfold ff yI;cases hf:f Z S with
   | none=>rfl
   | some p=>
    obtain⟨w,S1⟩:=p;cases w with
    | ref r=>
     cases h2:gz S1 r with
     | some _=>simp only[h2]
     | none=>
      cases h3:kD S1 r with
      | none=>simp only[h2,h3]
      | some U=>exact absurd #[r,S1,U,hf,h2,h3] hd
    | _=>rfl
  rw[this]at e;exact BL h J s Y H R I #[A,Z,S,mi,S',er,so,e,hq]
end
section
variable{Mqa:O3}{A:HE}{E:GK->GL->Prop}{s:GL}
def oh {scope:JZ}{g:GU}{cl:GD (Hc×GU)}{qual:Hc}{outer:MR}{Q:MR->GL->Prop}
  (h:Q (newEnv scope s.heap.objs.size g (cellsFrom (s.heap.objs.size+1) scope.names cl) qual td .none (gV outer) builtinsNs) { s with heap:=pushCells (s.heap.push { cls:=.type "dict",data:=.dict #[] }) scope.names }) :
  wpAny Mqa A (newFunctionEnv scope g cl [] qual td .none (gV outer)) Q E s:=by
 simp only[newFunctionEnv,Option.isSome_some,J1];show GH (Pd ?_);show GH (wpAny_layCells _ (λname kind cells=>by cases hkc:kind==J9 <;> simp[hkc]) _ _ _ _ ?_)
 rw[show({ s with heap:=s.heap.push { cls:=.type "dict",data:=.dict #[] } }:GL).heap.objs.size=s.heap.objs.size+1 from KR ..]
 rw[My];exact GH (GX (GX h))
def u4 {names:GD (Hc×IE)}{h2:HX}:(pushCells (h2.push { cls:=.type "dict",data:=.dict #[] }) names).Ns h2.objs.size (λ_=>td):=
 Heap.Ns.keeps (h:=h2.push { cls:=.type "dict",data:=.dict #[] }) #[_,#[],0,He _ rfl,rfl,by simp[StrKeys],λ_=>rfl] (Mh names _)
def eB:∀(names:GD (Hc×IE)) (m:GP) (acc:GD (Hc×GU)) {x:Hc} {c:GU},(cellsFrom m names acc).lookup x=gV c->
  (acc.lookup x=gV c/\(x,J9)∉names)\/(m<=c/\(x,J9)∈names/\∀h:HX,h.objs.size=m->(pushCells h names).IsCell c td)
 | [],_,_,_,_,hm=>.inl #[hm,λz=>nomatch z]
 | (name,kind)::r,m,acc,x,c,hm=>by
  unfold cellsFrom at hm;split at hm
  ·rename_i hk;have hc:kind=.cell:=eq_of_beq hk;subst hc;rcases eB r _ _ hm with⟨z,zn⟩|⟨z1,z2,z3⟩
   ·rw[Ii]at z;split at z
    ·rename_i e;cases z;have:=eq_of_beq e;subst this;show .inr #[G3 _,HH,λh e=>?_]
     subst e;exact(show(h.push { cls:=.type "cell",data:=.cell td }).IsCell h.objs.size td from#[_,He _ rfl,rfl]).keeps (Mh r _)
    ·rename_i e;show .inl #[z,λy=>?_]
     rcases Hn.mp y with y|y
     ·cases y; simp at e
     ·exact zn y
   ·show .inr #[Nat.le_of_succ_le z1,Hv _ z2,λh e=>?_]
    exact z3 _ (by rw[KR,e])
  ·rename_i hk;rcases eB r _ _ hm with⟨z,zn⟩|⟨z1,z2,z3⟩
   ·show .inl #[z,λy=>?_]
    rcases Hn.mp y with y|y
    ·cases y; exact hk rfl
    ·exact zn y
   ·show .inr #[z1,Hv _ z2,λh e=>?_]
    unfold pushCells;rw[HD hk];exact z3 h e
def iE:∀(names:GD (Hc×IE)) (m:GP) (acc:GD (Hc×GU)),(∀x c,acc.lookup x=gV c->c < m)->(∀x y c,acc.lookup x=gV c->acc.lookup y=gV c->x=y)->
  ∀x y c,(cellsFrom m names acc).lookup x=gV c->(cellsFrom m names acc).lookup y=gV c->x=y
 | [],_,_,_,h=>h
 | (name,kind)::r,m,acc,hl,h=>by
  unfold cellsFrom;split
  ·show iE r (m+1) _ (λx c e=>?_) λx y c e1 e2=>?_
   ·rw[Ii]at e;split at e
    ·cases e; exact IZ _
    ·exact KS (hl x c e)
   ·rw[Ii]at e1 e2;split at e1 <;> split at e2
    ·rename_i _ z1 _ z2;rw[eq_of_beq z1,eq_of_beq z2]
    ·cases e1;exact absurd (hl y _ e2) (HY _)
    ·cases e2;exact absurd (hl x _ e1) (HY _)
    ·exact h x y c e1 e2
  ·exact iE r m acc hl h
def iF:∀(names:GD (Hc×IE)) (m:GP) (acc:GD (Hc×GU)) {n:Hc},(n,J9)∈names\/(∃c,acc.lookup n=gV c)->∃c,(cellsFrom m names acc).lookup n=gV c
 | [],_,_,_,h=>h.elim (λz=>nomatch z) id
 | (name,kind)::r,m,acc,n,h=>by
  unfold cellsFrom;split
  ·show iF r (m+1) _ ?_;rw[Ii];split
   ·exact .inr #[_,rfl]
   ·rename_i e;rcases h with z|z
    ·rcases Hn.mp z with y|y
     ·cases y; simp at e
     ·exact .inl y
    ·exact .inr z
  ·rename_i hk;show iF r m acc ?_;rcases h with z|z
   ·rcases Hn.mp z with y|y
    ·cases y; exact absurd rfl hk
    ·exact .inl y
   ·exact .inr z
end
abbrev bE (mi:MI)(g:FG)(c:FT)(f:FE):GP->GP->Fm->aa->GN (GD W×aa)
 | 0,i,_,S=>match mi.at S i with
  | some td=>gV ([],S)
  | _=>td
 | n+1,i,Z,S=>match mi.at S i with
  | some (gV w)=>match g w Z S with
   | some (Z1,S1)=>match c Z1 S1 with
    | some (true,S2)=>match f Z1 S2 with
     | some (y,S3)=>match bE mi g c f n (i+1) Z1 S3 with
      | some (ys,S4)=>gV (y::ys,S4)
      | none=>td
     | none=>td
    | some (false,S2)=>bE mi g c f n (i+1) Z1 S2
    | none=>td
   | none=>td
  | _=>td
abbrev eC (cap:GD (GN GP))(Z:Fm):Fm:=cap.map λo=>match o with
 | some j=>(Z[j]?).join
 | none=>td
abbrev jP (fi:FI)(g:FG)(c:FT)(f:FE)(cap:GD (GN GP)):FE:=λZ S=>match fi Z S with
 | some (mi,S1)=>match mi.len S1 with
  | some n=>match bE mi g c f n 0 (eC cap Z) S1 with
   | some (ys,S2)=>kG S2 ys
   | none=>td
  | none=>td
 | none=>td
abbrev z7:FT:=λ_ S=>gV (true,S)
abbrev kE (X:Cx)(scope:JZ)(cl:GD (Hc×GU))(C:GU)(N:GD Hc)(s0:GL)(H0:Hp)(ex:GD GU):Cx:=
 { X with env:=compEnvC scope (cellsFrom (C+1) scope.names cl) C X.env,N:=N,s₀:=s0,H₀:=H0,outer:=X.stack,stack:=X.stack,ex:=ex,fn:=λx=>scope.names.any λy=>y.1==x&&y.2==.cell,pn:=[],xe:=λ_ _=>Iq }
structure CompOk (X:Cx)(scope:JZ)(cl:GD (Hc×GU))(N:GD Hc)(cap:GD (GN GP)):Prop where
 clos:closureFor scope X.env=pure cl
 kind:scope.kind=.function
 names:∀y∈scope.names,y.2=.local->scope.names.lookup y.1=gV .local
 sub:∀x c,cl.lookup x=gV c->X.env.cells.lookup x=gV c
 has:∀m x,((relabel scope X.env).names.lookup x=gV .cell\/(relabel scope X.env).names.lookup x=gV .free)->∃c,(cellsFrom m scope.names cl).lookup x=gV c
 len:cap.length=N.length
 cap:∀(i j:GP) (x:Hc),cap[i]?=gV (gV j)->N[i]?=gV x->X.N[j]?=gV x/\(X.env.kindOf x=gV .cell\/X.env.kindOf x=gV .free)/\((relabel scope X.env).names.lookup x=gV .cell\/(relabel scope X.env).names.lookup x=gV .free)/\(x,J9)∉scope.names
def CompOk.of {X:Cx}{scope:JZ}{cl:GD (Hc×GU)}{N:GD Hc}{cap:GD (GN GP)}(ck:CompOk X scope cl N cap){m:GP}{x:Hc}{c:GU}(z:(cellsFrom m scope.names cl).lookup x=gV c):X.env.cells.lookup x=gV c\/m<=c:=
 (eB _ _ _ z).elim (λq=>.inl (ck.sub x c q.1)) λq=>.inr q.1
def gb {prog:Hx}{w:HL}{A:HE}{R:NM->GL->Prop}{s:GL}{elt target iter:Hl}{ifs:GD Hl}{scope:JZ}{pos:Jq}{it acc:GK}{env:MR}(I:GP->GL->Prop)
    (turn:∀n s,I n s->wpAny (model prog w) A (pyNext it) (λr s₁=>match r with
      | none=>R (.ok .next) s₁
      | some v=>wpAny (model prog w) A (letOwnedTupleGo target it v) (λ_ s₁=>wpAny (model prog w) A (assign target env v) (λ_ s₂=>
          wpAny (model prog w) A (forIn ifs true λc r=>if r=true then do let ok <- isTrue c env (eval c env); pure (IU ok)else pure (IU r)) (λok s₃=>
            if ok=true then wpAny (model prog w) A (eval elt env) (λx s₄=>
              wpAny (model prog w) A (call (.builtin "list.append") [acc,x]) (λ_ s₅=>∃m,m < n/\I m s₅) (λ_ _=>Iq) s₄) (λ_ _=>Iq) s₃
            else ∃m,m < n/\I m s₃) (λ_ _=>Iq) s₂) (λ_ _=>Iq) s₁) (λ_ _=>Iq) s₁) (λ_ _=>Iq) s)
    (n:GP) (h:I n s) :
    codeAny (model prog w) A (.compLoop (.ListComp elt [#[target,iter,ifs,0]] scope pos) 0 it acc env) R s:=by
  show codeAny_loop rfl I (λn s hI=>?_) n h
  change wpAny _ A ((compTurn (.ListComp elt [#[target,iter,ifs,0]] scope pos) 0 it acc env).onRaise (λx=>do noteFrame x env; theTreesLotGoes x)) _ _ s
  show wpAny_noted ?_;rw[compTurn_list];show GH (Kr (GH (IW (turn n s hI) (λr s₁ h₁=>?_) λ_ _ h'=>h'.elim)))
  cases r with
  | none=>exact GX h₁
  | some v=>
    show GH (IW h₁ (λ_ s₁ h₁=>?_) λ_ _ h'=>h'.elim)
    show GH (IW h₁ (λ_ s₂ h₂=>GH (IW h₂ (λok s₃ h₃=>?_) λ_ _ h'=>h'.elim)) λ_ _ h'=>h'.elim)
    cases ok with
    | false=>exact GX #[rfl,h₃]
    | true=>
      exact GH (GH (IW h₃ (λx s₄ h₄=>GH (IW h₄ (λ_ s₅ h₅=>GX (GX #[rfl,h₅])) λ_ _ h'=>h'.elim)) λ_ _ h'=>h'.elim))
section
variable{X:Cx}{J:GD (GU×IM)}{Y:L2.St}{H:Hp}{s:GL}
def Inv.adopt {D:GU}{o:HO}(I:Inv X J Y H s)(hn:H D=td)(h1:D∈X.ex\/X.s₀.heap.objs.size<=D)(hL:D≠X.env.locals)(h2:∀x c,X.env.cells.lookup x=gV c->c≠D)(h3:∀p∈X.pn++J,p.1≠D)
  (new:ObjOk X.prog X.w (bM H D o) s.heap D o):Inv X J Y (bM H D o) s:=by
 have nit:∀b u,H b=gV u->b≠D:=λb u e z=>by rw[z,hn]at e; cases e
 have key:Inv X J Y (bM H D o) { s with heap:=s.heap,gens:=s.gens,drawn:=s.drawn,toks:=s.toks }:=by
  show I.step (g':=s.gens) (d':=s.drawn) (t':=s.toks) (h':=s.heap) (ch:=[D]) (λb hb=>?_) (λb o _ _ hc e _=>e) (λb o _ _ hc e _=>#[o.slots,e]) (λb o hc e n=>?_)
   (λb o hc e=>#[o,e]) (λb xs e=>?_) (λb o xs e=>?_) (λb ps e=>#[#[],?_]) (λm hm=>hm) (λb u e=>?_) I.bare
  ·have e:b=D:=by simpa using hb
   subst e;exact#[h1,hL,h2,h3]
  ·rw[aG (λz=>hc (by simp[z]))]; exact n
  ·rw[aG (nit b _ e)]; exact e
  ·rw[aG (nit b _ e)]; exact e
  ·rw[aG (nit b _ e),e]; simp
  ·by_cases hb:b=D
   ·subst hb; rw[aY]at e; cases e; exact new
   ·rw[aG hb]at e;show(I.hok b u e).stay (λc v hc q=>q) (λc q=>?_) λc xs q=>?_
    ·rw[aG (nit c _ q)]; exact q
    ·rw[aG (nit c _ q)]; exact q
 exact key
def BO {scope:JZ}{cl:GD (Hc×GU)}{N:GD Hc}{cap:GD (GN GP)}{C:GU}{s0:GL}{ex:GD GU}(I:Inv X J Y H s)(ck:CompOk X scope cl N cap)(hs:s.heap.objs.size<=s0.heap.objs.size)(hC:s0.heap.objs.size<=C)(hlt:∀x c,X.env.cells.lookup x=gV c->c < C+1)
  (hk:∀b o,s.heap.get? b=gV o->s0.heap.get? b=gV o) (hex:∀b∈ex,(b < C)/\(∀x c,X.env.cells.lookup x=gV c->c≠b)/\(∀o,X.base.get? b≠gV o)/\b∉o5 X.stack) :
  (kE X scope cl C N s0 H ex).Ok where
 mod:=I.ok.mod
 kind:=ck.kind
 glob:=I.ok.glob
 blt:=I.ok.blt
 above:=hC
 inj:=iE scope.names (C+1) cl (λx c h=>hlt x c (ck.sub x c h)) λx y c h1 h2=>I.ok.inj x y c (ck.sub x c h1) (ck.sub y c h2)
 has:=λx h=>ck.has _ x h
 cab:=λx c h hc=>by
  obtain⟨⟨y,k⟩,hy,e⟩:=K1.mp h;rw[GQ]at e;have e1:y=x:=eq_of_beq e.1;have e2:k=.cell:=eq_of_beq e.2;subst e1 e2;rcases eB _ _ _ hc with q|q
  ·exact absurd hy q.2
  ·exact Hs hC (Hs (J0 _) q.1)
 hd:=I.ok.hd
 frames:=I.ok.frames
 stk:=.inl rfl
 exf:=λb hb=>#[Hu (hex b hb).1,λx c h=>(ck.of h).elim (λq=>(hex b hb).2.1 x c q) λq z=>absurd (Hr (KS (hex b hb).1) q) (z ▸ HY _)]
 bs:=λb o e=>#[hk b o (I.bk b o e),(I.bs b o e).2]
 bsz:=Hs (Hs I.ok.bsz I.sz) hs
 noex:=λb o e hb=>(hex b hb).2.2.1 o e
 exfs:=λb hb=>(hex b hb).2.2.2
 funs:=I.stack.of_keeps λb o e _=>#[o,hk b o e,rfl]
 frf:=I.stkFree
structure BlockOk (X:Cx)(scope:JZ)(cl:GD (Hc×GU))(N:GD Hc)(tg elt:Hl)(ifs:GD Hl)(g:FG)(c:FT)(f:FE):Prop where
 tgt:∀C s0 H0 ex,GG (kE X scope cl C N s0 H0 ex) tg g
 tst:∀C s0 H0 ex J s Y H Q,Inv (kE X scope cl C N s0 H0 ex) J Y H s->tT (kE X scope cl C N s0 H0 ex) c Y H Q->
  wpAny (model X.prog X.w) X.A (forIn ifs true λc r=>if r=true then do let ok <- isTrue c (compEnvC scope (cellsFrom (C+1) scope.names cl) C X.env) (eval c (compEnvC scope (cellsFrom (C+1) scope.names cl) C X.env)); pure (IU ok)else pure (IU r)) (TP (kE X scope cl C N s0 H0 ex) J Y Q) (λ_ _=>Iq) s
 elt:∀C s0 H0 ex,GE (kE X scope cl C N s0 H0 ex) elt f
def mJ {prog:Hx}{w:HL}{B:HE}{s:GL}{E:GK->GL->Prop}{Q:GK->GL->Prop}{D:GU}{its:GD GK}{n:GP}{u:GK}(e:s.heap.get? D=gV { cls:=.type "list",data:=.seq its.toArray n })(hz:its.length < sizeLine)
  (h:∀h' n',h'.get? D=gV { cls:=.type "list",data:=.seq (its++[u]).toArray n' }->(∀b o,b≠D->s.heap.get? b=gV o->h'.get? b=gV o)->Q .none { s with heap:=h' }) :
  wpAny (model prog w) B (call (.builtin "list.append") [.ref D,u]) Q E s:=by
 show KW F.slot_list_append #[_,e,rfl] F.entry_list_append (F.args_list_append_2 _ _) (Nt D its.toArray n u (by rw[G9]; omega)) #[e,?_]
 have q:=NQ e (λa=>a.push u)
 have e2:its.toArray.push u=(its++[u]).toArray:=by simp
 rw[e2]at q;exact h _ _ q (λb o hb ho=>(Ic s.heap (IH λa=>a.push u) (Ne.symm hb)).trans ho)
def lu {scope:JZ}{cl:GD (Hc×GU)}{N:GD Hc}{cap:GD (GN GP)}{tg elt iter:Hl}{ifs:GD Hl}{g:FG}{c:FT}{f:FE}{pos:Jq}{A:GD GU}{Z:Fm}{S S':aa}{mi:MI}{n:GP}{ws:GD W}{E:GK->GL->Prop}
  {it:GU} {fp:GD GU} {tn:GP->HX->Prop} {tv:It} {RR:GK->GU->NM->GL->Prop}
  (I:Inv X J Y H s) (hc:X.calm=true) (er:EnvRel X.K A H Z Y) (so:StoreOk X.w X.K A H S) (ck:CompOk X scope cl N cap) (bk:BlockOk X scope cl N tg elt ifs g c f)
  (T:Turn X.prog X.w X.K tg tv fp it tn) (t0:tn 0 s.heap) (hfp:∀b∈fp,im X J H b) (mit:MIt X.w X.K mi tv A H) (e:bE mi g c f n 0 (eC cap Z) S=gV (ws,S')) (hz:ws.length<=sizeLine)
  (fin:∀D C s' H' A' vs m,s'.heap.Ns C m->H' D=td->D≠C->C≠X.env.locals->C∉X.fs->H' C=td->X.s₀.heap.objs.size<=C->(∀x c,X.env.cells.lookup x=gV c->c≠C)->(∀p∈X.pn++J,p.1≠C)->
   Inv X J Y (bM H' D (.lst vs)) s'->Ext X.K A H A' H'->StoreOk X.w X.K A' H' S'->RelL X.K A' H' ws vs->RR (.ref D) C (.ok .next) s') :
  wpAny (model X.prog X.w) X.A (newList []) (λacc s₃=>wpAny (model X.prog X.w) X.A (newFunctionEnv scope X.env.globals cl [] X.env.qual td .none (gV X.env)) (λcenv s₄=>
   codeAny (model X.prog X.w) X.A (.compStart (.ListComp elt [#[tg,iter,ifs,0]] scope pos) 0 (.ref it) acc { cenv with scope:=relabel scope X.env }) (RR acc cenv.locals) s₄) E s₃) E s:=by
 show HS (oh ?_);dsimp only;generalize hH2:s.heap.push { cls:=.type "list",dict:=td,data:=.seq ([]:GD GK).toArray }=h2;obtain⟨h₁,hh₁⟩ : ∃h₁,h₁=pushCells (h2.push { cls:=.type "dict",data:=.dict #[] }) scope.names:=#[_,rfl];rw[<- hh₁];have hns₁:=u4 (names:=scope.names) (h2:=h2);rw[<- hh₁]at hns₁;have hCs:h2.objs.size=s.heap.objs.size+1:=by rw[<- hH2,KR]
 have k2:∀b o,s.heap.get? b=gV o->h2.get? b=gV o:=λb o z=>hH2 ▸ GR _ z
 have lt2:∀b o,h2.get? b=gV o->b < h2.objs.size:=λb o z=>Hf z
 have k1:∀b o,h2.get? b=gV o->h₁.get? b=gV o:=λb o z=>hh₁ ▸ Mh _ _ b o (GR _ z)
 have hD2:h2.get? s.heap.objs.size=gV { cls:=.type "list",data:=.seq ([]:GD GK).toArray }:=hH2 ▸ He _ rfl;have hDC:s.heap.objs.size≠h2.objs.size:=by rw[hCs]; omega
 have fresh:∀a,s.heap.objs.size<=a->H a=td:=λa ha=>I.hok.fresh ha
 have cellLt:∀x c,X.env.cells.lookup x=gV c->c < s.heap.objs.size:=λx c z=>let ⟨_,q⟩:=I.cell x c z; q.lt
 have fpLt:∀b∈fp,b < s.heap.objs.size:=λb hb=>let ⟨_,q,_⟩:=T.obj 0 s.heap t0 b hb; Hf q
 have stkLt:∀b∈o5 X.stack,b < s.heap.objs.size:=λb hb=>let ⟨_,o,q,_⟩:=I.stack.mem hb; Hf q
 have baseLt:∀b o,X.base.get? b=gV o->b < s.heap.objs.size:=λb o z=>Hf (I.bk b o z)
 have fpStk:∀b∈fp,b∉o5 X.stack:=λb hb z=>by
  rcases Hn.mp (I.stkSub b z)with q|q
  ·exact(hfp b hb).2.1 q
  ·exact(hfp b hb).2.2.1 q
 have fpBase:∀b∈fp,∀o,X.base.get? b≠gV o:=λb hb o z=>by
  rcases(hfp b hb).2.2.2.1 with q|q
  ·exact I.ok.noex b o z q
  ·exact absurd (Hr (Hf (I.ok.bs b o z).1) q) (HY _)
 have ltD:∀ {b:GU},b < s.heap.objs.size->b < h2.objs.size:=λhb=>by rw[hCs]; exact KS hb
 have ltC:∀ {b:GU},b < s.heap.objs.size->b≠h2.objs.size:=λhb=>Hu (ltD hb)
 have ownNe:∀ {b c:GU},b<=s.heap.objs.size->h2.objs.size+1<=c->c≠b:=λhb hc=>JK (Lj hb (Hr (by rw[hCs]; omega:s.heap.objs.size < h2.objs.size+1) hc))
 let s3:GL:={ s with heap:=h2 }
 have ok':(kE X scope cl h2.objs.size N s3 H (fp++[s.heap.objs.size])).Ok:=by
  show BO I ck (show s.heap.objs.size<=h2.objs.size by rw[hCs]; omega) (G3 _) (λx c z=>KS (ltD (cellLt x c z))) k2 λb hb=>?_
  rcases Ht.mp hb with hb|hb
  ·exact#[ltD (fpLt b hb),(hfp b hb).2.2.2.2.1,fpBase b hb,fpStk b hb]
  ·have eb:b=s.heap.objs.size:=by simpa using hb
   subst eb;exact#[(by rw[hCs]; exact IZ _),λx c z=>Hu (cellLt x c z),λo z=>HY _ (baseLt _ o z),λz=>HY _ (stkLt _ z)]
 obtain⟨m0,hn0,hl0⟩:=I.loc;have I0:Inv (kE X scope cl h2.objs.size N s3 H (fp++[s.heap.objs.size])) [] (cap.map λo=>match o with|some j=>(Y[j]?).join|none=>td) H { s3 with heap:=h₁ }:=by
  show#[ok',rfl,I.bare,Un.kept k1,#[_,hns₁,λi x v e1 e2 e3=>?_],λx cc z=>?_,fresh _ (show s.heap.objs.size<=h2.objs.size by rw[hCs]; exact J0 _),λx cc z=>(ck.of z).elim (I.freeC x cc) λq=>fresh _ (show s.heap.objs.size<=cc by omega),λp hp=>absurd hp (by simp[kE]),(I.hok.kept k2).kept k1,by rw[GF]; exact ck.len]
  ·rw[GV]at e2;cases q:cap[i]? with
   | none=>rw[q]at e2; cases e2
   | some oj=>
    rw[q]at e2;cases oj with
    | none=>cases e2
    | some j=>
     obtain⟨z1,z2,z3,z4⟩:=ck.cap i j x q e1;have e2':(Y[j]?).join=gV v:=by simpa using e2
     have e2'':Y[j]?=gV (gV v):=by
      cases r:Y[j]? with
      | none=>rw[r]at e2'; cases e2'
      | some y=>rw[r]at e2'; exact congrArg gV e2'
     obtain⟨u,ru,lk⟩:=hl0 j x v z1 e2'' (by
      rcases z2 with z|z
      ·exact .inr (.inl z)
      ·exact .inr (.inr z))
     show#[u,ru,?_];rcases lk with⟨zk,_⟩|⟨_,cc,zc,zi⟩
     ·rcases z2 with z|z <;> (rw[zk]at z; cases z)
     ·obtain⟨c2,hc2⟩:=ck.has (h2.objs.size+1) x z3;have:=(eB _ _ _ hc2).elim (λq=>ck.sub x c2 q.1) λq=>absurd q.2.1 z4
      rw[zc]at this; cases this
      show .inr #[z3,cc,hc2,?_];obtain⟨o,ho,hd⟩:=zi;exact#[o,k1 _ _ (k2 _ _ ho),hd]
  ·rcases eB _ _ _ z with q|q
   ·obtain⟨v,o,ho,hd⟩:=I.cell x cc (ck.sub x cc q.1);exact#[v,o,k1 _ _ (k2 _ _ ho),hd]
   ·exact#[td,hh₁ ▸ q.2.2 _ (KR ..)]
 have er0:EnvRel X.K A H (eC cap Z) (cap.map λo=>match o with|some j=>(Y[j]?).join|none=>td):=by
  show#[by simp[eC],λi w q=>?_]
  unfold eC at q;rw[GV]at q ⊢;cases r:cap[i]? with
  | none=>rw[r]at q; cases q
  | some oj=>
   rw[r]at q;cases oj with
   | none=>cases q
   | some j=>
    have q':(Z[j]?).join=gV w:=by simpa using q
    have q'':Z[j]?=gV (gV w):=by
     cases z:Z[j]? with
     | none=>rw[z]at q'; cases q'
     | some y=>rw[z]at q'; exact congrArg gV q'
    obtain⟨v,z1,z2⟩:=er.2 j w q'';exact#[v,by simp[z1],z2]
 have t1:tn 0 h₁:=T.keep 0 s.heap h₁ t0 λb hb o z=>k1 b o (k2 b o z)
 have fpOk':∀ {H':Hp} {pp:GD (GU×IM)},(∀b∈fp,H' b=td)->(∀p∈pp,p.1=s.heap.objs.size)->∀b∈fp,im (kE X scope cl h2.objs.size N s3 H (fp++[s.heap.objs.size])) pp H' b:=λhn hp b hb=>
  #[hn b hb,ltC (fpLt b hb),fpStk b hb,.inl (Jk _ hb),λx cc z=>(ck.of z).elim (λq=>(hfp b hb).2.2.2.2.1 x cc q) (ownNe (KH (fpLt b hb))),λp hpp=>by
   rw[hp p (by simpa [kE]using hpp)]
   exact(Hu (fpLt b hb)).symm]
 have DinEx:s.heap.objs.size∈fp++[s.heap.objs.size]:=Hw _ (by simp)
 have cellD:∀x c,(cellsFrom (h2.objs.size+1) scope.names cl).lookup x=gV c->c≠s.heap.objs.size:=λx cc z=>(ck.of z).elim (λq=>Hu (cellLt x cc q)) (ownNe (G3 _))
 have fpD:∀b∈fp,b≠s.heap.objs.size:=λb hb=>Hu (fpLt b hb)
 have theEnd:∀s' Y' H' A' vs its nn,Inv (kE X scope cl h2.objs.size N s3 H (fp++[s.heap.objs.size])) [] Y' H' s'->s'.heap.get? s.heap.objs.size=gV { cls:=.type "list",data:=.seq its nn }->∀(hits:∃l:GD GK,its=l.toArray/\Vals vs l),H' s.heap.objs.size=td->Ext X.K A H A' H'->StoreOk X.w X.K A' H' S'->RelL X.K A' H' ws vs->
   RR (.ref s.heap.objs.size) h2.objs.size (.ok .next) s':=by
  intro s' Y' H' A' vs its nn I' hD hits hDn ex so' rl;obtain⟨l,rfl,rv⟩:=hits;obtain⟨m,hn,_⟩:=id I'.loc;have un:Un (o5 X.stack) (fp++[s.heap.objs.size]) H H' s.heap s'.heap:=(Un.kept k2).trans I'.base;have hch:∀b∈fp++[s.heap.objs.size],(b∈X.ex\/X.s₀.heap.objs.size<=b)/\b≠X.env.locals/\(∀x c,X.env.cells.lookup x=gV c->c≠b)/\∀p∈X.pn++J,p.1≠b:=λb hb=>by
   rcases Ht.mp hb with hb|hb
   ·exact#[(hfp b hb).2.2.2.1,(hfp b hb).2.1,(hfp b hb).2.2.2.2.1,(hfp b hb).2.2.2.2.2]
   ·have eb:b=s.heap.objs.size:=by simpa using hb
    subst eb;exact#[.inr I.sz,(Hu I.lt).symm,λx cc z=>Hu (cellLt x cc z),λp hp=>Hu (Hf (I.pin p hp).1)]
  have I2:Inv X J Y H' s':=I.call' (show s'.os=s.os from I'.os) un I'.hok I'.bare hch
  have I3:Inv X J Y (bM H' s.heap.objs.size (.lst vs)) s':=Inv.adopt I2 hDn (hch _ DinEx).1 (hch _ DinEx).2.1 (hch _ DinEx).2.2.1 (hch _ DinEx).2.2.2 #[by rw[<- rl.length]; exact hz,l,nn,rv,hD]
  have hCle:s.heap.objs.size<=h2.objs.size:=by rw[hCs]; exact J0 _
  exact fin _ _ s' H' A' vs m hn hDn hDC (JK (Hr I.lt hCle)) (I.nofs hCle) I'.free (Hs I.sz hCle) (λx cc z=>Hu (Hr (cellLt x cc z) hCle))
   (λp hp=>Hu (Hr (Hf (I.pin p hp).1) hCle)) I3 ex so' rl
 have loop:∀s4:GL,s4={ s3 with heap:=h₁ }->
   codeAny (model X.prog X.w) X.A (.compLoop (.ListComp elt [#[tg,iter,ifs,0]] scope pos) 0 (.ref it) (.ref s.heap.objs.size) (compEnvC scope (cellsFrom (h2.objs.size+1) scope.names cl) h2.objs.size X.env)) (RR (.ref s.heap.objs.size) h2.objs.size) s4:=by
  rintro s4 rfl;show gb (λk s5=>∃i Y5 H5 A5 Z5 S5 done its nn vs ys,Inv (kE X scope cl h2.objs.size N s3 H (fp++[s.heap.objs.size])) [] Y5 H5 s5/\tn i s5.heap/\(∀b∈fp,H5 b=td)/\s5.heap.get? s.heap.objs.size=gV { cls:=.type "list",data:=.seq (its:GD GK).toArray nn }/\H5 s.heap.objs.size=td/\Vals vs its/\
   Ext X.K A H A5 H5/\EnvRel X.K A5 H5 Z5 Y5/\StoreOk X.w X.K A5 H5 S5/\RelL X.K A5 H5 done vs/\ws=done++ys/\bE mi g c f k i Z5 S5=gV (ys,S')) ?_ n
   #[0,_,H,A,_,S,[],[],0,[],ws,I0,t1,λb hb=>(hfp b hb).1,k1 _ _ hD2,fresh _ (G3 _),.nil,.refl,er0,so,.nil,rfl,e]
  rintro k s5 ⟨i,Y5,H5,A5,Z5,S5,done,its,nn,vs,ys,I5,t5,f5,d5,n5,v5,e5,er5,so5,rl5,hw5,w5⟩;have pinD:Inv (kE X scope cl h2.objs.size N s3 H (fp++[s.heap.objs.size])) [(s.heap.objs.size,{ cls:=.type "list",data:=.seq its.toArray nn })] Y5 H5 s5:=I5.pins_of λp hp=>by
   have hp':p=(s.heap.objs.size,{ cls:=.type "list",data:=.seq its.toArray nn }):=by simpa using hp
   subst hp';exact#[d5,n5,hDC,λz=>HY _ (stkLt _ z),λv z=>by cases z]
  have oneD:∀p∈[(s.heap.objs.size,({ cls:=.type "list",data:=.seq its.toArray nn }:IM))],p.1=s.heap.objs.size:=λp hp=>by
   have hp':p=(s.heap.objs.size,{ cls:=.type "list",data:=.seq its.toArray nn }):=by simpa using hp
   rw[hp']
  cases k with
  | zero=>
   dsimp only[bE]at w5;split at w5
   ·rename_i hst;cases w5;rw[Iy]at hw5;subst hw5;show bm (T.done (kE X scope cl h2.objs.size N s3 H (fp++[s.heap.objs.size])) rfl rfl rfl hc i _ s5 Y5 H5 _ pinD (fpOk' f5 oneD) t5 (mit.stop A5 H5 _ i e5 so5 hst)) λr s6 #[hr,I6]=>?_
    subst hr;have p6:=I6.pin _ (Hw _ (G6.mpr rfl));exact theEnd s6 Y5 H5 A5 vs _ nn (I6.pins_of λp hp=>absurd hp (by simp)) p6.1 #[its,rfl,v5] n5 e5 so5 rl5
   ·cases w5
  | succ k=>
   dsimp only[bE]at w5;split at w5
   ·rename_i w hw;obtain⟨go,yl⟩:=mit.go A5 H5 S5 i w e5 so5 hw;show bm (T.item (kE X scope cl h2.objs.size N s3 H (fp++[s.heap.objs.size])) rfl rfl rfl hc i _ s5 Y5 H5 _ pinD (fpOk' f5 oneD) t5 go) λr s6 #[u,hr,h6]=>?_
    subst hr;show bm h6 λ_ s7 #[x,H7,I7,r7,y7,t7,f7]=>?_
    obtain⟨x1,x2,x3⟩:=yl x H7 y7;have I7':=I7.pinned (fpOk' f7 oneD) (T.obj _ _ t7);split at w5
    ·rename_i Z8 S8 h8;show bm (bk.tgt _ _ _ _ _ s7 Y5 H7 x u (λY' H'=>∃A',Ext X.K A5 H5 A' H'/\StoreOk X.w X.K A' H' S8/\EnvRel X.K A' H' Z8 Y') I7' r7 #[A5,Z5,S5,w,Z8,S8,er5.mono x1,x2,x3,h8,λY' H' A' q1 q2 q3=>#[A',x1.trans q1,q2,q3]]) λ_ s8 #[Y8,H8,I8,A8,e58,so8,er8]=>?_
     have e8:Ext X.K A H A8 H8:=e5.trans e58;have pD:∀ {Y':L2.St} {H':Hp} {s':GL},Inv (kE X scope cl h2.objs.size N s3 H (fp++[s.heap.objs.size])) ([(s.heap.objs.size,{ cls:=.type "list",data:=.seq its.toArray nn })]++io fp s7.heap) Y' H' s'->s'.heap.get? s.heap.objs.size=gV { cls:=.type "list",data:=.seq its.toArray nn }/\H' s.heap.objs.size=td:=λI'=>
      let q:=I'.pin _ (Hw _ (Jk _ (G6.mpr rfl)))
      #[q.1,q.2.1]
     have pF:∀ {Y':L2.St} {H':Hp} {s':GL},Inv (kE X scope cl h2.objs.size N s3 H (fp++[s.heap.objs.size])) ([(s.heap.objs.size,{ cls:=.type "list",data:=.seq its.toArray nn })]++io fp s7.heap) Y' H' s'->(∀b∈fp,H' b=td)/\∀b∈fp,∀o,s7.heap.get? b=gV o->s'.heap.get? b=gV o:=λI'=>
      #[λb hb=>by
       obtain⟨o,eo,_⟩:=T.obj _ _ t7 b hb;exact(I'.pin (b,o) (Hw _ (Hw _ (eP hb eo)))).2.1,
       λb hb o eo=>(I'.pin (b,o) (Hw _ (Hw _ (eP hb eo)))).1]
     split at w5
     ·rename_i S9 h9;show bm (bk.tst _ _ _ _ _ s8 Y8 H8 (λb H'=>b=true/\∃A',Ext X.K A8 H8 A' H'/\StoreOk X.w X.K A' H' S9) I8 #[A8,Z8,S8,true,S9,er8,so8,h9,λb H' #[z0,A',z1,z2]=>#[z0,A',z1,z2]]) λb s9 #[H9,I9,z0,A9,e9,so9]=>?_
      subst z0;rw[Ho rfl];split at w5
      ·rename_i y S10 h10;split at w5
       ·rename_i ys' S4 h11;cases w5;show bm (bk.elt _ _ _ _ _ s9 Y8 H9 (EndV X.w X.K A9 H9 S10 y) I9 #[A9,Z8,S9,y,S10,er8.mono e9,so9,h10,λ_ _ z=>z]) λu10 s10 #[v10,H10,I10,r10,A10,e10,so10,rl10]=>?_
        obtain⟨d10,n10⟩:=pD I10;obtain⟨f10,k10⟩:=pF I10;have hlen:its.length < sizeLine:=by
         have l1:=v5.length;have l2:=rl5.length;rw[hw5,GJ,HK]at hz;omega
        show mJ d10 hlen λh' n' hd' hk'=>?_
        have Ib:Inv (kE X scope cl h2.objs.size N s3 H (fp++[s.heap.objs.size])) [] Y8 H10 { s10 with heap:=h' }:=by
         have Ia:Inv (kE X scope cl h2.objs.size N s3 H (fp++[s.heap.objs.size])) [] Y8 H10 s10:=I10.pins_of λp hp=>absurd hp (by simp)
         exact Ia.turned (t':=s10.toks) (it:=s.heap.objs.size) hk' n10 hDC (.inl DinEx) cellD (λp hp=>absurd hp (by simp[kE]))
        show#[k,IZ k,i+1,Y8,H10,A10,Z8,S10,done++[y],its++[u10],n',vs++[v10],ys',Ib,?_,f10,hd',n10,v5.append #v[r10],(e8.trans e9).trans e10,(er8.mono e9).mono e10,so10,?_,?_,h11]
        ·exact T.keep (i+1) s7.heap h' t7 λb hb o eo=>hk' b o (fpD b hb) (k10 b hb o eo)
        ·exact(rl5.mono ((e58.trans e9).trans e10)).append #v[rl10]
        ·rw[hw5,KM]; rfl
       ·cases w5
      ·cases w5
     ·rename_i S9 h9;show bm (bk.tst _ _ _ _ _ s8 Y8 H8 (λb H'=>b=false/\∃A',Ext X.K A8 H8 A' H'/\StoreOk X.w X.K A' H' S9) I8 #[A8,Z8,S8,false,S9,er8,so8,h9,λb H' #[z0,A',z1,z2]=>#[z0,A',z1,z2]]) λb s9 #[H9,I9,z0,A9,e9,so9]=>?_
      subst z0;rw[HD Hb];obtain⟨d9,n9⟩:=pD I9;obtain⟨f9,k9⟩:=pF I9;show#[k,IZ k,i+1,Y8,H9,A9,Z8,S9,done,its,nn,vs,ys,I9.pins_of λp hp=>absurd hp (by simp),T.keep (i+1) s7.heap _ t7 k9,f9,d9,n9,v5,e8.trans e9,er8.mono e9,so9,rl5.mono (e58.trans e9),hw5,w5]
     ·cases w5
    ·cases w5
   ·cases w5
 exact codeAny_compStart_list (loop _ rfl) (T.self X.A 0 _ _ _ t1 (loop _ rfl))
def ol {fi:FI}{g:FG}{c:FT}{f:FE}{cap:GD (GN GP)}{Z:Fm}{S:aa}{w:W}{S':aa}(e:jP fi g c f cap Z S=gV (w,S')) :
  ∃mi S1 n ys S2,fi Z S=gV (mi,S1)/\mi.len S1=gV n/\bE mi g c f n 0 (eC cap Z) S1=gV (ys,S2)/\ys.length<=sizeLine/\w=.ref S2.length/\S'=S2++[.lst ys]:=by
 unfold jP at e;split at e
 ·rename_i mi S1 h1;split at e
  ·rename_i n h2;split at e
   ·rename_i ys S2 h3;obtain⟨h4,h5,h6⟩:=jn e;exact#[mi,S1,n,ys,S2,h1,h2,h3,h4,h5,h6]
   ·cases e
  ·cases e
 ·cases e
def yS {scope:JZ}{N:GD Hc}{cap:GD (GN GP)}{tg elt iter:Hl}{ifs:GD Hl}{fi:FI}{g:FG}{c:FT}{f:FE}{pos:Jq}(hc:X.calm=true)(hi:GI X tg iter fi)(hck:X.Ok->∃cl,CompOk X scope cl N cap/\BlockOk X scope cl N tg elt ifs g c f)
  (hs:∀x,foldedSetIterable iter X.env x=pure x):GE X (.ListComp elt [#[tg,iter,ifs,0]] scope pos) (jP fi g c f cap):=by
 intro J s Y H Q I ⟨A,Z,S,w,S',er,so,e,hq⟩;obtain⟨mi,S1,n,ys,S2,h1,h2,h3,h4,rfl,rfl⟩:=ol e;obtain⟨cl,ck,bk⟩:=hck I.ok;rw[eval_ListComp];show LH (use:=td) rfl hs ck.clos ck.kind ck.names (bm (hi J s Y H (λtv H'=>∃A',Ext X.K A H A' H'/\StoreOk X.w X.K A' H' S1/\MIt X.w X.K mi tv A' H') I #[A,Z,S,mi,S1,er,so,h1,λtv H' A' z1 z2 z3=>#[A',z1,z2,z3]]) λv s1 q1=>bm q1 λitv s2 q2=>?_)
 obtain⟨it,fp,tn,tv,H2,rfl,I2,T,t0,hfp,A2,e2,so2,mit⟩:=q2;show lu (RR:=λacc C=>compPost (model X.prog X.w) X.A X.xe td (EP X J Y Q) acc C) I2 hc (er.mono e2) so2 ck bk T t0 hfp mit h3 h4 ?_
 intro D C s' H' A' vs m hn hDn hDC hCL hCf hCn hCs hCc hCp I3 ex so3 rl;show#[m,hn,λh' hs'=>?_]
 have I4:Inv X J Y (bM H' D (.lst vs)) { s' with heap:=h' }:=I3.turned (t':=s'.toks) (it:=C) (λb o hb eo=>hs'.extBut b o hb eo) (by rw[aG (Ne.symm hDC)]; exact hCn) hCL (.inr hCs) hCc hCp
 exact#[.ref D,_,I4,rfl,hq _ _ (EndV.after (e2.trans ex) (.lst so3 rl hDn))]
def pH {scope:JZ}{N:GD Hc}{cap:GD (GN GP)}{tg elt iter:Hl}{ifs:GD Hl}{fi:FI}{g:FG}{c:FT}{f:FE}{pos py spos:Jq}{y:Hc}{i:GP}(hc:X.calm=true)(hi:GI X tg iter fi)(hck:X.Ok->∃cl,CompOk X scope cl N cap/\BlockOk X scope cl N tg elt ifs g c f)
  (hs:∀x,foldedSetIterable iter X.env x=pure x) (hsw:swapsWith (.ListComp elt [#[tg,iter,ifs,0]] scope pos) (gV (.Name y py)) spos.line X.env=pure true) (hN:X.N.Nodup) (hy:X.N[i]?=gV y) (hl:X.env.scope.names.lookup y=gV .local) :
  GS X (.Assign [.Name y py] (.ListComp elt [#[tg,iter,ifs,0]] scope pos) spos) (jN (jP fi g c f cap) (z5 i)):=by
 intro J s Y H Dd I ⟨A,Z,S,o,S',er,so,e,hd⟩;unfold jN at e;split at e
 ·rename_i w S0 h0;simp only[z5]at e;cases e;obtain⟨mi,S1,n,ys,S2,h1,h2,h3,h4,rfl,rfl⟩:=ol h0;obtain⟨cl,ck,bk⟩:=hck I.ok;rw[exec_Assign_Name_used _ _ _ _ hsw];show GH (Kr (GH ?_));change wpAny _ X.A (do let _ <- comprehension (.ListComp elt [⟨tg,iter,ifs,0⟩] scope pos) scope X.env _ (newList []) false (eval iter X.env) (gV (assign (.Name y py) X.env))) _ _ s
  show GH (IW (LH (use:=gV (assign (.Name y py) X.env)) (Q:=λ_ s'=>SP X J Dd .next s') rfl hs ck.clos ck.kind ck.names
   (bm (hi J s Y H (λtv H'=>∃A',Ext X.K A H A' H'/\StoreOk X.w X.K A' H' S1/\MIt X.w X.K mi tv A' H') I #[A,Z,S,mi,S1,er,so,h1,λtv H' A' z1 z2 z3=>#[A',z1,z2,z3]]) λv s1 q1=>bm q1 λitv s2 q2=>?_)) (λ_ s' hq=>GX (GX hq)) λ_ _ e=>e)
  obtain⟨it,fp,tn,tv,H2,rfl,I2,T,t0,hfp,A2,e2,so2,mit⟩:=q2;show lu (RR:=λacc C=>compPost (model X.prog X.w) X.A X.xe (gV (assign (.Name y py) X.env)) (λ_ s'=>SP X J Dd .next s') acc C) I2 hc (er.mono e2) so2 ck bk T t0 hfp mit h3 h4 ?_
  intro D C s' H' A' vs m hn hDn hDC hCL hCf hCn hCs hCc hCp I3 ex so3 rl;obtain⟨oC,esC,epC,hoC,hdC,hrC⟩:=id hn;have I3':Inv X (J++[(C,oC)]) Y (bM H' D (.lst vs)) s':=I3.pins_of λp hp=>by
   rcases Ht.mp hp with hp|hp
   ·exact I3.pin p (Hw _ hp)
   ·have hp':p=(C,oC):=by simpa using hp
    subst hp';exact#[hoC,by rw[aG (Ne.symm hDC)]; exact hCn,hCL,hCf,λv z=>by rw[hdC]at z; cases z]
  change wpAny _ X.A (assign (.Name y py) X.env (.ref D)) _ _ _;show Nk (dO I3' hN hy (.inl hl) (v:=.ref D) rfl (λs4 I4=>?_) (.inr hl))
  have pC:=I4.pin (C,oC) (Hw _ (Hw _ (G6.mpr rfl)));show#[m,#[oC,esC,epC,pC.1,hdC,hrC],λh' hs'=>?_]
  have I5:Inv X J (Y.set i (gV (.ref D))) (bM H' D (.lst vs)) s4:=I4.pins_of λp hp=>I4.pin p (Hw _ (Jk _ hp))
  have I6:Inv X J (Y.set i (gV (.ref D))) (bM H' D (.lst vs)) { s4 with heap:=h' }:=I5.turned (t':=s4.toks) (it:=C) (λb o hb eo=>hs'.extBut b o hb eo) (by rw[aG (Ne.symm hDC)]; exact hCn) hCL (.inr hCs) hCc hCp
  obtain⟨Af,f1,f2,f3⟩:=EndV.after (e2.trans ex) (EndV.lst so3 rl hDn);exact#[_,_,I6,hd.nx _ _ #[_,Af,rfl,f1,f2,(er.mono f1).set f3 i]]
 ·cases e
end
open PySem.Builtin.SmallTypes (nextOf)
section
variable{prog:Hx}{w:HL}
structure Zit (prog:Hx)(w:HL)(it:GU)(T:GP->HX->Prop)(C:HX->Prop)(i:GP)(Uq:GN (GK->Prop)):Prop where
 keep:∀j h h',T j h->(∀o,h.get? it=gV o->h'.get? it=gV o)->T j h'
 next:∀V,Uq=gV V->∀(B:HE) (s:GL) (Q:GK->GL->Prop) (E:GK->GL->Prop),T i s.heap->C s.heap->(∀u h' tk,V u->T (i+1) h'->JJ it s.heap h'->Q u { s with heap:=h',toks:=tk })->wpAny (model prog w) B (nextOf (.ref it)) Q E s
 stop:Uq=td->∀(B:HE) (s:GL) (Q:GK->GL->Prop) (E:GK->GL->Prop),B.handled=td->T i s.heap->C s.heap->(∀h' e,Mt it s.heap h'->(∃o,h'.get? e=gV o/\o.cls=.type "StopIteration")->E (.ref e) { s with heap:=h' })->wpAny (model prog w) B (nextOf (.ref it)) Q E s
variable{B:HE}{E:GK->GL->Prop}{s:GL}{z p q i1 i2:GU}{T1 T2:GP->HX->Prop}{C1 C2:HX->Prop}{i:GP}{a b:GK}
abbrev Zc (z q i1 i2:GU)(C:HX->Prop):Prop:=∀h h',C h->(∀c o,c≠z->c≠q->c≠i1->c≠i2->h.get? c=gV o->h'.get? c=gV o)->C h'
end
end Mi
namespace Mi
open PySem PySem.Spec PyProof.Rows L2
open PySem.Builtin.SmallTypes (nextOf)
abbrev pI (prog:Hx)(w:HL)(v:GK)(o:IM)(C:HX->Prop):Prop:=∀(B:HE) (s:GL) (Q:GK->GL->Prop) (E:GK->GL->Prop),C s.heap->Q (.ref s.heap.objs.size) { s with heap:=s.heap.push o }->wpAny (model prog w) B (pyIter v) Q E s
end Mi
namespace Mi
open PySem PySem.Spec PyProof.Rows L2
open PySem.Builtin.SmallTypes (nextOf)
section
variable{prog:Hx}{w:HL}{A:HE}{E:GK->GL->Prop}{s:GL}
def Dz {it t:GU}{i:GP}{items:HR GK}{x:GK}{Q:GK->GL->Prop}(hit:s.heap.IsTupleIter it t i)(ht:s.heap.IsTuple t items)(hx:items[i]?=gV x)
  (hQ:∀h',h'.IsTupleIter it t (i+1)->JJ it s.heap h'->Q x { s with heap:=h' }):wpAny (model prog w) A (nextOf (.ref it)) Q E s:=by
 obtain⟨o,ho,hc,hd⟩:=id hit;obtain⟨ot,hot,_,nt,hdt⟩:=ht;unfold Lq;show GH (Il (name:=IF "__next__") hit.typeIs F.slot_tuple_iterator_next (IA F.slot_tuple_iterator_next hit.typeIs F.entry_tuple_iterator_next ?_ (F.args_tuple_iterator_next_1 _)));change wpAny _ _ (field (.ref it) 0 >>= _) _ _ s;show GH (Jl ho hd (x:=.ref t) rfl ?_);change wpAny _ _ (if (HQ t==HZ)=true then _ else _) _ _ s
 rw[HD (show ¬ ((HQ t==HZ)=true)from Hb)]
 change wpAny _ _ (field (.ref it) 1 >>= _) _ _ s;show GH (Jl ho hd (x:=.int i 0) rfl (GH (Ki hot hdt ?_)));simp only[Ha,hx];show GH (Lg ho hd (by simp) (GX #[x,rfl,GX (hQ _ #[_,JD _ ho (Mo (KA hd _)),(NA ..).trans hc,?_] (Ko ..))]))
 rw[KA hd]; simp[rawInt]
def DA {it t:GU}{i:GP}{items:HR GK}{Q:GK->GL->Prop}(hh:A.handled=td)(hit:s.heap.IsTupleIter it t i)(ht:s.heap.IsTuple t items)(hx:items[i]?=td)
  (hE:∀h' e,Mt it s.heap h'->(∃o,h'.get? e=gV o/\o.cls=.type "StopIteration")->E (.ref e) { s with heap:=h' }):wpAny (model prog w) A (nextOf (.ref it)) Q E s:=by
 obtain⟨o,ho,hc,hd⟩:=id hit;obtain⟨ot,hot,_,nt,hdt⟩:=ht;unfold Lq;show GH (Il (name:=IF "__next__") hit.typeIs F.slot_tuple_iterator_next (IA F.slot_tuple_iterator_next hit.typeIs F.entry_tuple_iterator_next ?_ (F.args_tuple_iterator_next_1 _)));change wpAny _ _ (field (.ref it) 0 >>= _) _ _ s;show GH (Jl ho hd (x:=.ref t) rfl ?_);change wpAny _ _ (if (HQ t==HZ)=true then _ else _) _ _ s
 rw[HD (show ¬ ((HQ t==HZ)=true)from Hb)]
 change wpAny _ _ (field (.ref it) 1 >>= _) _ _ s;show GH (Jl ho hd (x:=.int i 0) rfl (GH (Ki hot hdt ?_)));simp only[Ha,hx];show GH (LU (GH (Lg ho hd (by simp) ?_)))
 change wpAny _ _ (newExc (.type "StopIteration") [] >>= _) _ _ _;show GH ?_;simp only[newExc,newTuple];show GH (HS ?_ (by size_fits))
 show GH (m:=firstArgMember _ _) (Mu (a:=HZ) (by first|rfl|(simp only[firstArgMember]; rfl)) (HS ?_ (by size_fits)))
 simp only[raiseNew];show GH (OO ?_)
 first|rw[show A.in1.handled=td from hh]|rw[hh]
 exact GH (GX (Pc (hE _ _ (((Ko ..).extBut.push _).push _) #[_,He _ rfl,rfl])))
end
inductive Zs where|tup (a:GU)|lst (a:GU)|txt (x:Hc)
abbrev Zs.T (it:GU):Zs->GP->HX->Prop
 | .tup a,i,h=>h.IsTupleIter it a i
 | .lst a,i,h=>h.IsListIter it a i
 | .txt x,i,h=>∃t,h.IsStrIter it "str_ascii_iterator" x t i\/h.IsStrIter it "str_iterator" x t i
abbrev Zs.at (K:G4)(H:Hp)(i:GP)(v:V):Zs->Prop
 | .tup a=>∃xs,SqT K H a xs/\xs[i]?=gV v
 | .lst a=>∃xs,SqL K H a xs/\xs[i]?=gV v
 | .txt x=>∃c,x.cps[i]?=gV c/\v=.str #[[c].toArray]
abbrev Zs.out (K:G4)(H:Hp)(i:GP):Zs->Prop
 | .tup a=>∃xs,SqT K H a xs/\xs.length<=i
 | .lst a=>∃xs,SqL K H a xs/\xs.length<=i
 | .txt x=>x.cps.size<=i
def Zs.keep {S:Zs}{it:GU}{j:GP}{h h':HX}(t:S.T it j h)(k:∀o,h.get? it=gV o->h'.get? it=gV o):S.T it j h':=by
 cases S with
 | tup a=>exact t.at k
 | lst a=>exact t.at k
 | txt x=>
  obtain⟨tk,t⟩:=t;exact#[tk,t.imp (λ#[o,e,r]=>#[o,k _ e,r]) λ#[o,e,r]=>#[o,k _ e,r]]
section
variable{X:Cx}{J:GD (GU×IM)}{Y:L2.St}{H:Hp}{s:GL}
def u5 (I:Inv X J Y H s){a b:GU}{o:IM}(h:X.K.lookup a=gV o)(f:im X J H b):a≠b:=λz=>by
 subst z;have hb:=I.ok.mod.kin a o h;rcases f.2.2.2.1 with q|q
 ·exact I.ok.noex a o hb q
 ·exact absurd (Hr (Hf (I.ok.bs a o hb).1) q) (HY _)
end
end Mi
namespace Mi
open PySem PySem.Spec PyProof.Rows L2
open PySem.Builtin.SmallTypes (nextOf)
section
variable{X:Cx}{J:GD (GU×IM)}{Y:L2.St}{H:Hp}{s:GL}{h':HX}
def u6 {a b:GU}{u:HO}(h:Rd H a u)(f:H b=td):a≠b:=λz=>by
 subst z;rcases h with h|⟨o,h⟩ <;> (rw[f]at h; cases h)
def Inv.turnedL {t':GP}{ch:GD GU}(I:Inv X J Y H s)(k:∀b o,b∉ch->s.heap.get? b=gV o->h'.get? b=gV o)(hf:∀b∈ch,im X J H b):Inv X J Y H { s with heap:=h',toks:=t' }:=by
 have nit:∀b u,H b=gV u->b∉ch:=λb u e z=>by have:=(hf b z).1; rw[e]at this; cases this
 show I.step (g':=s.gens) (d':=s.drawn) (ch:=ch) (λb hb=>?_) (λb o _ _ hc e _=>k b o hc e) (λb o _ _ hc e _=>#[o.slots,k b o hc e]) (λ_ _ _ _ n=>n) (λb o hc e=>#[o,k b o hc e]) (λ_ _ e=>e) (λ_ _ _ e=>e) (λb ps e=>#[#[],by rw[e]; simp]) (λm hm=>?_) (λb u e=>?_) I.bare
 ·obtain⟨_,f1,_,f3,f4,f5⟩:=hf b hb;exact#[f3,f1,f4,f5]
 ·obtain⟨o,es,ep,ho,r⟩:=hm;exact#[o,es,ep,k _ o (λz=>(hf _ z).2.1 rfl) ho,r]
 ·show(I.hok b u e).stay (λc v hc q=>k c v ?_ q) (λ_ q=>q) λ_ _ q=>q
  rcases hc with z|z
  ·rw[z]; exact nit b u e
  ·exact nit c _ z
def Zs.zit {S:Zs}{it z q i1 i2:GU}{i:GP}{Uq:GN V}(I:Inv X J Y H s)(hf:∀b∈[z,q,i1,i2],im X J H b)(g:match Uq with|some v=>S.at X.K H i v|none=>S.out X.K H i) :
  ∃C,Zit X.prog X.w it (S.T it) C i (Uq.map λv u=>RelV v u)/\C s.heap/\Zc z q i1 i2 C:=by
 have zc:∀(a:GU) (P:HX->Prop),(∀h h',P h->(∀o,h.get? a=gV o->h'.get? a=gV o)->P h')->(∀b∈[z,q,i1,i2],a≠b)->Zc z q i1 i2 P:=λa P hP hn h h' p k=>
  hP h h' p λo e=>k a o (hn z (by simp)) (hn q (by simp)) (hn i1 (by simp)) (hn i2 (by simp)) e
 have sep:∀ {a:GU} {u:HO} {o:IM} {b:GU},(Rd H a u\/X.K.lookup a=gV o)->b∈[z,q,i1,i2]->a≠b:=λh hb=>h.elim (λr=>u6 r (hf _ hb).1) λr=>u5 I r (hf _ hb)
 cases S with
 | tup a=>
  obtain⟨xs,hq,hx⟩ : ∃xs,SqT X.K H a xs/\(match Uq with|some v=>xs[i]?=gV v|none=>xs.length<=i):=by
   cases Uq <;> exact g
  obtain⟨its,rv,p,_⟩:=I.tuple hq;have hne:∀b∈[z,q,i1,i2],a≠b:=λb hb=>by
   rcases hq with r|⟨o,_,_,r,_⟩
   ·exact u6 r (hf b hb).1
   ·exact u5 I r (hf b hb)
  show#[λh=>h.IsTuple a its.toArray,#[λj h h' t k=>Zs.keep (S:=.tup a) t k,λV hV B s2 Q E t c hQ=>?_,λhU B s2 Q E hh t c hE=>?_],p,zc a _ (λh h' #[o,e,r] k=>#[o,k _ e,r]) hne]
  ·cases Uq with
   | none=>cases hV
   | some v=>
    cases hV;obtain⟨u,hu,ru⟩:=rv.get hx;exact Dz t c (x:=u) (by simpa using hu) λh' t' sb=>hQ u h' s2.toks ru t' sb
  ·cases Uq with
   | some v=>cases hU
   | none=>
    have:=L2.Vals.length rv;have hx':xs.length<=i:=hx;exact DA hh t c (by simp; omega) hE
 | lst a=>
  obtain⟨xs,hq,hx⟩ : ∃xs,SqL X.K H a xs/\(match Uq with|some v=>xs[i]?=gV v|none=>xs.length<=i):=by
   cases Uq <;> exact g
  obtain⟨its,rv,p,_⟩:=I.list hq;have hne:∀b∈[z,q,i1,i2],a≠b:=λb hb=>by
   rcases hq with r|⟨o,_,_,r,_⟩
   ·exact u6 r (hf b hb).1
   ·exact u5 I r (hf b hb)
  show#[λh=>h.IsList a its.toArray,#[λj h h' t k=>Zs.keep (S:=.lst a) t k,λV hV B s2 Q E t c hQ=>?_,λhU B s2 Q E hh t c hE=>?_],p.isList,zc a _ (λh h' #[o,e,r] k=>#[o,k _ e,r]) hne]
  ·cases Uq with
   | none=>cases hV
   | some v=>
    cases hV;obtain⟨u,hu,ru⟩:=rv.get hx;exact wpAny_nextOf_list_item t c (x:=u) (by simpa using hu) λh' t' sb=>hQ u h' s2.toks ru t' sb
  ·cases Uq with
   | some v=>cases hU
   | none=>
    have:=L2.Vals.length rv;have hx':xs.length<=i:=hx;exact wpAny_nextOf_list_end hh t c (by simp; omega) hE
 | txt x=>
  show#[λ_=>Oh,#[λj h h' t k=>Zs.keep (S:=.txt x) t k,λV hV B s2 Q E t _ hQ=>?_,λhU B s2 Q E hh t _ hE=>?_],trivial,λ_ _ _ _=>trivial]
  ·cases Uq with
   | none=>cases hV
   | some v=>
    cases hV;obtain⟨c,hc,rfl⟩ : ∃c,x.cps[i]?=gV c/\v=.str #[[c].toArray]:=g;obtain⟨tk,t|t⟩:=t
    ·exact wpAny_nextOf_ascii_item t hc λh' t' sb=>hQ _ h' _ #[_,rfl] #[tk,.inl t'] sb
    ·exact wpAny_nextOf_wide_item t hc λh' t' sb=>hQ _ h' _ #[_,rfl] #[tk,.inr t'] sb
  ·cases Uq with
   | some v=>cases hU
   | none=>
    have hx:x.cps[i]?=td:=by simpa using(show x.cps.size<=i from g)
    obtain⟨tk,t|t⟩:=t
    ·exact wpAny_nextOf_ascii_end hh t hx hE
    ·exact wpAny_nextOf_wide_end hh t hx hE
end
abbrev Zs.is (K:G4)(H:Hp)(i:GP)(v:V):Zs->Prop
 | .tup a=>∀xs,SqT K H a xs->xs[i]?=gV v
 | .lst a=>∀xs,SqL K H a xs->xs[i]?=gV v
 | .txt x=>∃c,x.cps[i]?=gV c/\v=.str #[[c].toArray]
def Zs.at_is {S:Zs}{X:Cx}{J:GD (GU×IM)}{Y:L2.St}{H:Hp}{s:GL}{i:GP}{v:V}(I:Inv X J Y H s)(h:S.at X.K H i v):S.is X.K H i v:=by
 cases S with
 | tup a=>obtain⟨xs,hq,hx⟩:=h; exact λys hy=>by rw[I.tuple_inj hy hq]; exact hx
 | lst a=>obtain⟨xs,hq,hx⟩:=h; exact λys hy=>by rw[I.list_inj hy hq]; exact hx
 | txt x=>exact h
end Mi
namespace Mi
open PySem PySem.Spec PyProof.Rows L2
abbrev EN:W->GN (GD W)
 | .tup xs=>gV xs
 | .str x=>gV (x.cps.toList.map λc=>.str #[[c].toArray])
 | _=>td
section
variable{X:Cx}{J:GD (GU×IM)}{Y:L2.St}{H:Hp}{s:GL}{A:GD GU}
abbrev ZRel (K:G4)(A:GD GU)(H:Hp)(xs:GD W):Zs->Prop
 | .tup a=>∃vs,SqT K H a vs/\RelL K A H xs vs
 | .lst a=>Iq
 | .txt x=>xs=x.cps.toList.map λc=>.str #[[c].toArray]
def ZRel.mono {K:G4}{A A':GD GU}{H H':Hp}{xs:GD W}{S:Zs}(e:Ext K A H A' H')(h:ZRel K A H xs S):ZRel K A' H' xs S:=by
 cases S with
 | tup a=>obtain⟨vs,h1,h2⟩:=h; exact#[vs,e.tp _ _ h1,h2.mono e]
 | lst a=>exact h
 | txt x=>exact h
def ZRel.at {K:G4}{xs:GD W}{S:Zs}{i:GP}{w:W}(h:ZRel K A H xs S)(hi:xs[i]?=gV w):∃v,S.at K H i v/\Rel K A H w v:=by
 cases S with
 | tup a=>obtain⟨vs,h1,h2⟩:=h; obtain⟨v,h3,h4⟩:=h2.get hi; exact#[v,#[vs,h1,h3],h4]
 | lst a=>exact h.elim
 | txt x=>
  have h:xs=x.cps.toList.map λc=>.str #[[c].toArray]:=h
  subst h;rw[GV,GM]at hi;obtain⟨c,hc,rfl⟩:=hi;exact#[.str #[[c].toArray],#[c,by rw[<- IN]; exact hc,rfl],.str]
def ZRel.is {K:G4}{xs:GD W}{S:Zs}{i:GP}{w:W}{v:V}(h:ZRel K A H xs S)(hi:xs[i]?=gV w)(z:S.is K H i v):Rel K A H w v:=by
 obtain⟨v',h1,h2⟩:=h.at hi;cases S with
 | tup a=>
  obtain⟨vs,q,e⟩:=h1;have:=z vs q;rw[e]at this; cases this
  exact h2
 | lst a=>exact h.elim
 | txt x=>
  obtain⟨c,e,rfl⟩:=h1;obtain⟨c',e',rfl⟩:=z;rw[e]at e'; cases e'
  exact h2
def ZRel.out {K:G4}{xs:GD W}{S:Zs}{i:GP}(h:ZRel K A H xs S)(hi:xs.length<=i):S.out K H i:=by
 cases S with
 | tup a=>obtain⟨vs,h1,h2⟩:=h; exact#[vs,h1,by rw[<- h2.length]; exact hi]
 | lst a=>exact h.elim
 | txt x=>
  have h:xs=x.cps.toList.map λc=>.str #[[c].toArray]:=h
  subst h;change x.cps.size<=i
  simpa using hi
def yT {x:W}{v:V}{u:GK}{xs:GD W}(I:Inv X J Y H s)(r:Rel X.K A H x v)(ru:RelV v u)(e:EN x=gV xs) :
  ∃(S:Zs) (o:IM) (C:HX->Prop),ZRel X.K A H xs S/\pI X.prog X.w u o C/\C s.heap/\(∀h o,C h->C (h.push o))/\o.isFreed=false/\∀it h,h.get? it=gV o->S.T it 0 h:=by
 cases r with
 | @tup ws a vs hq rl=>
  cases e;obtain⟨its,rv,p,_⟩:=I.tuple hq;obtain rfl:u=HQ a:=ru;exact#[.tup a,{ cls:=.type "tuple_iterator",data:=.fields [.ref a,.int 0 0].toArray },λh=>h.IsTuple a its.toArray,#[vs,hq,rl],λB s Q E c hQ=>Nc c hQ,p,λh o #[ot,e,r]=>#[ot,GR _ e,r],rfl,λit h e=>#[_,e,rfl,rfl]]
 | @str x=>
  cases e;obtain⟨t,rfl⟩:=ru;cases ha:x.cps.all (· < 128)with
  | false=>exact#[.txt x,{ cls:=.type "str_iterator",data:=.fields [.str x t,.int 0 0].toArray },λ_=>Oh,rfl,λB s Q E _ hQ=>wpAny_pyIter_wide ha hQ,trivial,λ_ _ _=>trivial,rfl,λit h e=>#[t,.inr #[_,e,rfl,rfl]]]
  | true=>exact#[.txt x,{ cls:=.type "str_ascii_iterator",data:=.fields [.str x t,.int 0 0].toArray },λ_=>Oh,rfl,λB s Q E _ hQ=>wpAny_pyIter_ascii ha hQ,trivial,λ_ _ _=>trivial,rfl,λit h e=>#[t,.inl #[_,e,rfl,rfl]]]
 | _=>cases e
end
open PySem.Builtin.SmallTypes (nextOf)
section
variable{prog:Hx}{w:HL}{B:HE}{E:GK->GL->Prop}{s:GL}{e it:GU}{T:GP->HX->Prop}{C:HX->Prop}{i:GP}{old:GK}
structure EnAt (h0 h:HX)(e it:GU)(fs:HR GK)(T:HX->Prop):Prop where
 here:h.get? e=gV { cls:=.type "enumerate",dict:=td,data:=.fields fs,slots:=#[] }
 turn:T h
 kept:∀b o,b≠e->b≠it->h0.get? b=gV o->h.get? b=gV o
def EnAt.put {h0:HX}{fs:HR GK}{T:HX->Prop}{k:GP}{v:GK}{Q:Unit->GL->Prop}(x:EnAt h0 s.heap e it fs T)(hne:e≠it)(kT:∀h h',T h->(∀o,h.get? it=gV o->h'.get? it=gV o)->T h')(hk:k < fs.size)
  (q:∀h',EnAt h0 h' e it (fs.setIfInBounds k v) T->JJ e s.heap h'->Q () { s with heap:=h' }):wpAny (model prog w) B (setField (.ref e) k v) Q E s:=
 wpAny_setField_rec x.here hk λh' y sb=>q h' #[y,kT _ _ x.turn λo z=>sb.extBut _ _ (Ne.symm hne) z,λb o h1 h2 z=>sb.extBut b o h1 (x.kept b o h1 h2 z)] sb
def lv {Uq:GN (GK->Prop)}{Q:GK->GL->Prop}(Zz:Zit prog w it T C i Uq)(hh:B.handled=td)(he:Pu s.heap e it (i:G0) old)(t:T i s.heap)(c:C s.heap)(hne:e≠it)
  (hI:∀V,Uq=gV V->∀u h' tk tk0,V u->IsEnumOut h' e it ((i:G0)+1) u s.heap.objs.size->T (i+1) h'->h'.get? s.heap.objs.size=gV { cls:=.type "tuple",data:=.seq [.int i tk0,u].toArray }->
   (∀b o,b≠e->b≠it->s.heap.get? b=gV o->h'.get? b=gV o)->Q (.ref s.heap.objs.size) { s with heap:=h',toks:=tk })
  (hE:Uq=td->∀h' x,Mt it s.heap h'->(∃o,h'.get? x=gV o/\o.cls=.type "StopIteration")->E (.ref x) { s with heap:=h' }) :
  wpAny (model prog w) B (LZ.«enumerate.__next__» #[[.ref e],[]]) (λfin s'=>∃v,fin=.done (.ret v)/\Q v s') E s:=by
 obtain⟨hp,g,d,tk,os⟩:=s;change wpAny _ _ (field (.ref e) 2 >>= _) _ _ _;show GH (Jl he rfl (x:=.ref it) rfl (GH ?_));cases Uq with
 | none=>exact Zz.stop rfl _ _ _ _ hh t c λh' x a b=>hE rfl h' x a b
 | some V=>
  show Zz.next V rfl _ _ _ _ t c λu ha tka hu ta sba=>?_
  have kT:=Zz.keep (i+1);have xa:EnAt hp ha e it [.none,.bool false,.ref it,rawInt i,.none,old].toArray (T (i+1)):=#[(sba.2 e hne).trans he,ta,λb o _ h2 z=>sba.extBut b o h2 z]
  have za:ha.objs.size=hp.objs.size:=sba.1;clear sba ta;change wpAny _ _ (field (.ref e) 3 >>= _) _ _ #[ha,g,d,tka,os];show GH (Jl xa.here rfl (x:=rawInt i) rfl ?_);change wpAny _ _ (field (.ref e) 4 >>= _) _ _ #[ha,g,d,tka,os];show GH (Jl xa.here rfl (x:=.none) rfl ?_);change wpAny _ _ (mkInt i >>= _) _ _ #[ha,g,d,tka,os];show GH (N3 (GH (xa.put (s:=#[ha,g,d,tka+1,os]) hne kT (by simp) λhb xb sb1=>GH (xb.put (s:=#[hb,g,d,tka+1,os]) hne kT (by simp) λhc xc sb2=>GH (Ox ?_)))))
  have zc:hc.objs.size=hp.objs.size:=by rw[sb2.1,<- za]; exact sb1.1
  have hel:hp.objs.size≠e:=JK (Hf he);have new:=He hc (o:={ cls:=.type "tuple",data:=.seq [.int i tka,u].toArray }) rfl;have xd:EnAt hp (hc.push { cls:=.type "tuple",data:=.seq [.int i tka,u].toArray }) e it [.none,.bool false,.ref it,rawInt ((i:G0)+1),.none,old].toArray (T (i+1)):=#[GR _ xc.here,kT _ _ xc.turn λo z=>GR _ z,λb o h1 h2 z=>GR _ (xc.kept b o h1 h2 z)]
  rw[zc]at new;change wpAny _ _ (Ku (.ref e) >>= _) _ _ #[hc.push _,g,d,tka+1,os];rw[zc];generalize hc.push { cls:=.type "tuple",data:=.seq [.int i tka,u].toArray }=hd at new xd ⊢;clear zc sb2 xc sb1 xb hb xa za;show GH ?_;unfold Ku;show GH (Jl xd.here rfl (x:=.none) rfl (GX ?_));simp only[J1];show GH (LU (GH (Jl xd.here rfl (x:=old) rfl (GH (xd.put (s:=#[hd,g,d,tka+1,os]) hne kT (by simp) λh1 x1 s1=>GH ?_)))))
  unfold MP;show GH (x1.put (s:=#[h1,g,d,tka+1,os]) hne kT (by simp) λh2 x2 s2=>x2.put (s:=#[h2,g,d,tka+1,os]) hne kT (by simp) λh3 x3 s3=>GH (K3 (GX #[_,rfl,hI V rfl u h3 (tka+1) tka hu x3.here x3.turn ?_ x3.kept])))
  exact s3.extBut _ _ hel (s2.extBut _ _ hel (s1.extBut _ _ hel new))
variable{v:GK}{o:IM}
def om (h1:pI prog w v o C) :
  MeetsIn prog w (LZ.«enumerate.__new__» #[[.type "enumerate",v],[]]) (λ_ R s=>C s.heap/\R (.ok (.ret (.ref (s.heap.push o).objs.size))) { s with heap:=(s.heap.push o).push { cls:=.type "enumerate",data:=.fields [.none,.bool false,.ref s.heap.objs.size,rawInt 0,.none,.none].toArray } }):=
 .of_wp λA R s h=>by
  obtain⟨hp,g,d,tk,os⟩:=s;obtain⟨c,h⟩:=h;have hsub:=sub_enumerate;have d1:∀(B:HE) (Q:GK->GL->Prop) (E:GK->GL->Prop),Q (.ref hp.objs.size) #[hp.push o,g,d,tk,os]->wpAny (model prog w) B (pyIter v) Q E #[hp,g,d,tk,os]:=λB Q E q=>h1 B #[hp,g,d,tk,os] Q E c q
  wp_walk
  show wpAny_stack_any λst=>GX ?_
  split
  ·rename_i c _ _ _ _ _;cases(c==Kg "enumerate")
   ·wp_walk using d1 _ _ _
    exact#[_,rfl,h]
   ·wp_walk using d1 _ _ _
    exact#[_,rfl,h]
  ·wp_walk using d1 _ _ _
   exact#[_,rfl,h]
def sx {Q:GK->GL->Prop}(h1:pI prog w v o C)(c:C s.heap)(n1:o.isFreed=false)
  (h:∀h',Pu h' (s.heap.objs.size+1) s.heap.objs.size 0 .none->h'.get? s.heap.objs.size=gV o->(∀b o,s.heap.get? b=gV o->h'.get? b=gV o)->Q (.ref (s.heap.objs.size+1)) { s with heap:=h' }) :
  wpAny (model prog w) B (call (.type "enumerate") [v]) Q E s:=by
 show callType_newIn F.called_enumerate #v[] (F.typeCall_enumerate_1 _) (F.newCall_enumerate_1 _) (λobj=>F.args_object_init_2 obj _) F.entry_enumerate_new (om h1) #[c,?_]
 have hz:(s.heap.push o).objs.size=s.heap.objs.size+1:=KR ..;change _/\_;rw[hz];have he:Pu ((s.heap.push o).push { cls:=.type "enumerate",data:=.fields [.none,.bool false,.ref s.heap.objs.size,rawInt 0,.none,.none].toArray }) (s.heap.objs.size+1) s.heap.objs.size 0 .none:=by
  have:=He (s.heap.push o) (o:={ cls:=.type "enumerate",data:=.fields [.none,.bool false,.ref s.heap.objs.size,rawInt 0,.none,.none].toArray }) rfl;rw[hz]at this; exact this
 exact#[#[_,he,rfl],h _ he (GR _ (He _ n1)) λb o x=>GR _ (GR _ x)]
end
abbrev Gd (K:G4)(S1:Zs):It:=
 #[λi H=>∃x,S1.at K H i x,λi H v H'=>∃p x,S1.is K H i x/\v=.ref p/\H p=td/\H'=bM H p (.tup [.int i,x]),λi H=>S1.out K H i]
def sy {P:Hx}{w:HL}{K:G4}{els:GD Hl}{k0:GP}{tp:Jq}{S1:Zs}{z i1:GU}(D:z≠i1) :
  Turn P w K (.Tuple els k0 tp) (Gd K S1) [z,i1] z (λi h=>(∃old,Pu h z i1 i old)/\S1.T i1 i h) where
 mem:=by simp
 obj:=λi h #[#[old,a],d] b' hb=>by
  have it:∀ {S:Zs} {it:GU},S.T it i h->∃o,h.get? it=gV o/\∀v,o.data≠.cell v:=λ{S it} t=>by
   cases S with
   | tup a=>obtain⟨o,e,_,d⟩:=t; exact#[o,e,λv z=>by rw[d]at z; cases z]
   | lst a=>obtain⟨o,e,_,d⟩:=t; exact#[o,e,λv z=>by rw[d]at z; cases z]
   | txt x=>obtain⟨tk,⟨o,e,_,d⟩|⟨o,e,_,d⟩⟩:=t <;> exact#[o,e,λv z=>by rw[d]at z; cases z]
  simp only[Hn,Ih,JX]at hb;rcases hb with rfl|rfl
  ·exact#[_,a,λv z=>by cases z]
  ·exact it d
 keep:=λi h h' #[#[old,a],d] k=>#[#[old,k z (by simp) _ a],Zs.keep d (k i1 (by simp))]
 item:=by
  intro X hP hw hK hc i J s Y H E I hf st hg;subst hP hw hK;obtain⟨x,g1⟩:=hg;obtain⟨⟨old,a⟩,d⟩:=st;have hf4:∀b∈[z,z,i1,i1],im X J H b:=λb hb=>hf b (by simp only[Hn,Ih,JX]at hb ⊢; rcases hb with h|h|h|h <;> simp[h])
  obtain⟨C1,Zq,c1,k1⟩:=Zs.zit (it:=i1) (Uq:=gV x) I hf4 g1;have hT:s.TypeIs (.ref z) "enumerate":=#[_,a,rfl];unfold pyNext;show GH (LF (Il (name:=IF "__next__") hT F.slot_enumerate_next (IA F.slot_enumerate_next hT F.entry_enumerate_next ?_ (F.args_enumerate_next_1 _))));show lv Zq (I.ok.hd hc) a d c1 D (λV e1 u g tk tk0 r1 zg t1 ng kp=>?_) (λz=>by cases z)
  cases e1;show GX #[_,rfl,?_];show wpAny_letOwnedTupleGo_enum (s:={ s with heap:=g,toks:=tk }) zg λg' zg' sb=>?_
  have N0:H s.heap.objs.size=td:=I.hok.fresh (G3 _);have lt:∀ {b:GU},b∈[z,i1]->s.heap.objs.size≠b:=λ{b} hb=>by
   have:∃o,s.heap.get? b=gV o:=by
    have it:∀ {S:Zs} {it:GU},S.T it i s.heap->∃o,s.heap.get? it=gV o:=λ{S it} t=>by
     cases S with
     | tup a=>obtain⟨o,e,_⟩:=t; exact#[o,e]
     | lst a=>obtain⟨o,e,_⟩:=t; exact#[o,e]
     | txt x=>obtain⟨tk,⟨o,e,_⟩|⟨o,e,_⟩⟩:=t <;> exact#[o,e]
    simp only[Hn,Ih,JX]at hb;rcases hb with rfl|rfl
    ·exact#[_,a]
    ·exact it d
   obtain⟨o,e⟩:=this;exact JK (Hf e)
  have up:∀b o,b∉[z,i1]->s.heap.get? b=gV o->g'.get? b=gV o:=λb o hb e=>by
   simp only[Hn,Ih,JX,OY]at hb;exact sb.extBut _ _ hb.1 (kp b o hb.1 hb.2 e)
  have I1:Inv X J Y H { s with heap:=g',toks:=tk }:=Mi.Inv.turnedL I up hf
  have ng':g'.get? s.heap.objs.size=gV { cls:=.type "tuple",data:=.seq [.int i tk0,u].toArray }:=sb.extBut _ _ (lt (by simp)) ng
  have I2:Inv X J Y (bM H s.heap.objs.size (.tup [.int i,x])) { s with heap:=g',toks:=tk }:=by
   show Mi.Inv.adopt I1 N0 (.inr I.sz) (JK I.lt) (λw c e=>?_) (λp hp=>?_) #[#[by change 2<=sizeLine; decide,#[_,ng',rfl]],[.int i tk0,u],.cons #[_,rfl] #v[r1],#[_,ng',rfl,0,rfl]]
   ·obtain⟨v,q⟩:=I.cell w c e;exact Hu q.lt
   ·exact Hu (Hf (I.pin p hp).1)
  show#[.ref s.heap.objs.size,_,I2,rfl,#[s.heap.objs.size,x,Zs.at_is I g1,rfl,N0,rfl],#[#[_,zg'],Zs.keep t1 λo e=>sb.extBut _ _ (Ne.symm D) e],λb hb=>?_]
  rw[aG (Ne.symm (lt hb))];exact(hf b hb).1
 done:=by
  intro X hP hw hK hc i J s Y H E I hf st hg;subst hP hw hK;obtain⟨⟨old,a⟩,d⟩:=st;have hf4:∀b∈[z,z,i1,i1],im X J H b:=λb hb=>hf b (by simp only[Hn,Ih,JX]at hb ⊢; rcases hb with h|h|h|h <;> simp[h])
  obtain⟨C1,Zq,c1,k1⟩:=Zs.zit (it:=i1) (Uq:=td) I hf4 hg;have hT:s.TypeIs (.ref z) "enumerate":=#[_,a,rfl];unfold pyNext;show GH (LF (Il (name:=IF "__next__") hT F.slot_enumerate_next (IA F.slot_enumerate_next hT F.entry_enumerate_next ?_ (F.args_enumerate_next_1 _))));show lv Zq (I.ok.hd hc) a d c1 D (λV e1=>by cases e1) λ_ h' e k #[o,ho,hc]=>?_
  exact GH (LM (T:="StopIteration") (b:=true) #[o,ho,hc] Ov (GX #[rfl,Mi.Inv.turnedL (t':=s.toks) I (λb o hb e=>by
    simp only[Hn,Ih,JX,OY]at hb;exact k b o hb.2 e) hf]))
 self:=λ_ _ _ _ _ st h=>by obtain⟨⟨old,a⟩,_⟩:=st; exact ND a h
abbrev iG (xs:GD W):GD W:=xs.zipIdx.map λp=>.tup [.int (p.2:GP),p.1]
def jQ {xs:GD W}{i:GP}{w:W}(h:(iG xs)[i]?=gV w):∃x,xs[i]?=gV x/\w=.tup [.int i,x]:=by
 unfold iG at h;rw[GV,List.getElem?_zipIdx,Option.map_map,GM]at h;obtain⟨x,h1,rfl⟩:=h;exact#[x,h1,by simp]
abbrev u7 (f:FA):FI:=λZ S=>match f Z S with
 | some ([x],S1)=>match EN x with
  | some xs=>gV (.its (iG xs),S1)
  | none=>td
 | _=>td
section
variable{X:Cx}{J:GD (GU×IM)}{Y:L2.St}{H:Hp}{s:GL}{A:GD GU}
def u8 {S1:Zs}{xs:GD W}(z1:ZRel X.K A H xs S1):MIt X.w X.K (.its (iG xs)) (Gd X.K S1) A H:=by
 show#[λA' H' S i w e so hi=>?_,λA' H' S i e so hi=>?_]
 ·simp only[MI.at,HV]at hi;obtain⟨x,e1,rfl⟩:=jQ hi;obtain⟨v,g1,r1⟩:=(z1.mono e).at e1;show#[#[v,g1],λp H2 #[a,v',q1,hp,hn,hH]=>?_]
  subst hp hH;have ex:Ext X.K A' H' A' (bM H' a (.tup [.int i,v'])):=dg (.inl hn);exact#[ex,so.lay hn,.tup (.of aY) #v[.int,((z1.mono e).is e1 q1).mono ex]]
 ·simp only[MI.at,HV,Jh,iG,GF,List.length_zipIdx]at hi;exact(z1.mono e).out hi
def sA:bootBuiltins "enumerate" = gV (.type "enumerate"):=rfl
def yU {els:GD Hl}{k0:GP}{tp:Jq}{a:Hl}{f:FA}{p pos:Jq}(hg:Gl X "enumerate")(hm:X.mg "enumerate" = td)(ha:GA X [a] f)(hs:starEach [a] X.env=[(false,eval a X.env)]) :
  GI X (.Tuple els k0 tp) (.Call (.Name "enumerate" p) [a] [] pos) (u7 f):=by
 intro J s Y H R I ⟨A,Z,S,mi,S',er,so,e,hq⟩;unfold u7 at e;split at e
 ·rename_i x S1 h1;split at e
  ·rename_i xs e1;cases e;show Call_ (ik I hg hm sA (Js (bm (ha pos J s Y H _ I #[A,Z,S,_,_,er,so,h1,λ_ _ z=>z]) λus s1 #[vs,H1,I1,r1,A1,z1,z2,z3]=>?_) (by rw[hs]; rfl) (by rfl)))
   cases z3 with
   | cons ra t=>
    cases t;cases r1 with
    | cons ua t=>
     cases t;obtain⟨Sa,oa,Ca,za,ia,ca,ka,na,ta⟩:=yT I1 ra ua e1;show sx ia ca na λh' hz g1 kp=>?_
     have I2:Inv X J Y H1 { s1 with heap:=h' }:=I1.kept (t':=s1.toks) kp
     show ND (s:={ s1 with heap:=h' }) hz ?_
     show#[s1.heap.objs.size+1,_,_,_,H1,rfl,I2,sy (S1:=Sa) (i1:=s1.heap.objs.size) (by simp),#[#[_,hz],ta _ _ g1],λb hb=>?_,hq _ _ A1 z1 z2 (u8 za)]
     have hb':s1.heap.objs.size<=b:=by
      simp only[Hn,Ih,JX]at hb;rcases hb with rfl|rfl
      ·exact Nat.le_add_right _ _
      ·exact G3 _
     exact I1.fpOk hb' (I1.hok.fresh hb')
  ·cases e
 ·cases e
end
end Mi
namespace Mi
open PySem PySem.Spec PyProof.Rows L2
abbrev BP (g1 g2:GD W->aa->GN (W×aa))(xs:GD W)(S:aa):GN (W×aa):=match g1 xs S with
 | some r=>gV r
 | none=>g2 xs S
def u9 {X:Cx}{f:GK}{g1 g2:GD W->aa->GN (W×aa)}(h1:LCall X f g1)(h2:LCall X f g2):LCall X f (BP g1 g2):=by
 intro J s Y H A S xs vs us w S' I so rl rv e;unfold BP at e;split at e
 ·rename_i r hr;cases e;exact h1 J s Y H A S xs vs us w S' I so rl rv hr
 ·exact h2 J s Y H A S xs vs us w S' I so rl rv e
inductive Bi where|len|str|list|tuple|int|sorted|range|all|min
 deriving Kf
abbrev Bi.fn:Bi->GD W->aa->GN (W×aa)
 | .len=>pv|.str=>yH|.list=>BP i5 jJ|.tuple=>jL|.int=>Dl|.sorted=>gX|.range=>mh|.all=>Bo|.min=>yj
abbrev Bi.name:Bi->Hc
 | .len=>"len"|.str=>"str"|.list=>"list"|.tuple=>"tuple"|.int=>"int"|.sorted=>"sorted"|.range=>"range"|.all=>"all"|.min=>"min"
inductive Me where|append|extend|pop|get|index
 deriving Kf
abbrev Me.fn:Me->W->GD W->aa->GN (W×aa)
 | .append=>gQ|.extend=>gR|.pop=>yc|.get=>uu|.index=>gS
abbrev Me.name:Me->Hc
 | .append=>"append"|.extend=>"extend"|.pop=>"pop"|.get=>"get"|.index=>"index"
abbrev Me.ty:Me->Iw
 | .append=>"list"|.extend=>"list"|.pop=>"list"|.get=>"dict"|.index=>"tuple"
inductive Tg where
 | nm (i:GP)|tp (is:GD GP)
set_option genSizeOf false in
set_option genInjectivity false in
mutual
inductive E where
 | c (w:W)|v (i:GP)
 | op (o:BOp) (a b:E)
 | cmp (o:COp) (a b:E)
 | and (a b:E)|or (a b:E)|not (a:E)
 | own (f:Hc) (n:GP) (es:Es)|bi (b:Bi) (es:Es)|me (m:Me) (o:E) (es:Es)
 | ix (a b:E)|sl (a:E) (lo hi:Ep)|tup (es:Es)|lst (es:Es)
 | isi (c:Iw) (a:E)
 | neg (a:E)|dnew|disp (es:Es)|chn (o o':COp) (a b d:E)|ite (t a b:E)
 | comp (elt:E) (tg:Tg) (it:Ie) (cs:Es) (cap:GD (GN GP))
inductive Es where
 | nil|cons (e:E) (es:Es)
inductive Ep where
 | no|yes (e:E)
inductive Ie where
 | seq (e:E)|rng (es:Es)|rng2 (es:Es)|enu (es:Es)
end
set_option genSizeOf false in
set_option genInjectivity false in
mutual
inductive Sm where
 | set (i:GP) (e:E)|asg (is:GD GP) (e:E)|par (i j:GP) (es:Es)|pr3 (i j l:GP) (es:Es)|put (o k e:E)
 | ex (e:E)|ret (e:E)|pass
 | ite (t:E) (a b:Ss)|whl (t:E) (b:Ss)|loop (tg:Tg) (it:Ie) (b:Ss)
inductive Ss where
 | nil|cons (s:Sm) (ss:Ss)
end
abbrev fq:Tg->FG
 | .nm i=>z5 i
 | .tp is=>CF is
section
variable (M:Hc->FF)
mutual
def aA:E->FE
 | .c w=>fC w
 | .v i=>fV i
 | .op o a b=>yk (ij o) (aA a) (aA b)
 | .cmp o a b=>ym o (aA a) (aA b)
 | .and a b=>qI (aA a) (aA b)
 | .or a b=>yq (aA a) (aA b)
 | .not a=>qJ (aA a)
 | .own f n es=>n0 n (M f) (cL es)
 | .bi b es=>i7 b.fn (cL es)
 | .me m o es=>CD m.ty m.fn (aA o) (cL es)
 | .ix a b=>FB (aA a) (aA b)
 | .sl a lo hi=>Ds (aA a) (qO lo) (qO hi)
 | .tup es=>uO (cL es)
 | .lst es=>uP (cL es)
 | .isi c a=>uX c (aA a)
 | .neg a=>uI (aA a)
 | .dnew=>z6
 | .disp es=>og (cL es)
 | .chn o o' a b d=>fF o o' (aA a) (aA b) (aA d)
 | .ite t a b=>yr (cK t) (aA a) (aA b)
 | .comp elt tg it cs cap=>jP (jk it) (fq tg) (yV cs) (aA elt) cap
def cK:E->FT
 | .cmp o a b=>nX (ym o (aA a) (aA b))
 | .and a b=>uM (cK a) (cK b)
 | .or a b=>Dp (cK a) (cK b)
 | .not a=>yn (cK a)
 | .c w=>ga (fC w)
 | .v i=>ga (fV i)
 | .op o a b=>ga (yk (ij o) (aA a) (aA b))
 | .own f n es=>ga (n0 n (M f) (cL es))
 | .bi b es=>ga (i7 b.fn (cL es))
 | .me m o es=>ga (CD m.ty m.fn (aA o) (cL es))
 | .ix a b=>ga (FB (aA a) (aA b))
 | .sl a lo hi=>ga (Ds (aA a) (qO lo) (qO hi))
 | .tup es=>ga (uO (cL es))
 | .lst es=>ga (uP (cL es))
 | .isi c a=>ga (uX c (aA a))
 | .neg a=>ga (uI (aA a))
 | .dnew=>λ_ _=>td
 | .disp _=>λ_ _=>td
 | .chn o o' a b d=>nX (fF o o' (aA a) (aA b) (aA d))
 | .ite _ _ _=>λ_ _=>td
 | .comp _ _ _ _ _=>λ_ _=>td
def cL:Es->FA
 | .nil=>gY
 | .cons e es=>dz (aA e) (cL es)
def yV:Es->FT
 | .nil=>z7
 | .cons e .nil=>cK e
 | .cons _ (.cons _ _)=>λ_ _=>td
def qO:Ep->FO
 | .no=>BA
 | .yes e=>qL (aA e)
def jk:Ie->FI
 | .seq e=>ff (aA e)
 | .rng es=>pB (cL es)
 | .rng2 es=>iRng2 (cL es)
 | .enu es=>u7 (cL es)
end
variable (fuel:GP)
mutual
def fj:Sm->FS
 | .set i e=>jN (aA M e) (z5 i)
 | .asg is e=>jN (aA M e) (CF is)
 | .par i j es=>yF i j (cL M es)
 | .pr3 i j l es=>yG i j l (cL M es)
 | .put o k e=>jN (aA M e) (yE (aA M o) (aA M k))
 | .ex e=>yA (aA M e)
 | .ret e=>yC (aA M e)
 | .pass=>uT
 | .ite t a b=>yD (cK M t) (fH a) (fH b)
 | .whl t b=>mI (cK M t) (fH b) fuel
 | .loop tg it b=>uV (jk M it) (fq tg) (fH b)
def fH:Ss->FS
 | .nil=>λZ S=>gV (.nx Z,S)
 | .cons s ss=>yz (fj s) (fH ss)
end
end
structure Gam where
 sc:GD (Hc×IE)
 N:GD Hc
 fns:GD (Hc×GP)
 blt:GD Hc
 dfn:Hj
 own:GD Hc
abbrev BQ:GN IE->Hj
 | some .local=>true|some .cell=>true|some .free=>true|_=>false
abbrev yW:GN IE->Hj
 | some .cell=>true|some .free=>true|_=>false
abbrev fI (names outer:GD (Hc×IE)):GD (Hc×IE):=names.map λ(n,k)=>if (k==.free&&outer.lookup n==gV .cell)then(n,.cell)else(n,k)
abbrev slot (Γ:Gam)(x:Hc):GN GP:=if BQ (Γ.sc.lookup x) && !(x==("__debug__" : Hc)) && !(x==("__classdict__" : Hc))then Γ.N.findIdx? (· == x)else td
abbrev qP:Nm->GN BOp
 | .Add=>gV .add|.Sub=>gV .sub|.Mult=>gV .mul|.FloorDiv=>gV .fdiv|.Mod=>gV .mod|.Pow=>gV .pow|_=>td
abbrev i8:N1->GN COp
 | .Eq=>gV .eq|.NotEq=>gV .ne|.Lt=>gV .lt|.LtE=>gV .le|.Gt=>gV .gt|.GtE=>gV .ge|.In=>gV .isin|.NotIn=>gV .notin|.Is=>gV .is|.IsNot=>gV .isnot
abbrev yX (x:Hc):GN Bi:=[Bi.len,.str,.list,.tuple,.int,.sorted,.range,.all,.min].find? λb=>b.name==x
abbrev yY (x:Hc):GN Me:=[Me.append,.extend,.pop,.get,.index].find? λb=>b.name==x
abbrev DB (Γ:Gam)(x:Hc):Hj:=Γ.sc.lookup x==gV .globalImplicit && !(x==("__debug__" : Hc))
abbrev vc (x:Hc):GN Iw:=if x==("bool" : Hc)then gV "bool" else if x==("int" : Hc)then gV "int" else if x==("str" : Hc)then gV "str" else if x==("tuple" : Hc)then gV "tuple" else if x==("list" : Hc)then gV "list" else if x==("dict" : Hc)then gV "dict" else td
abbrev qQ:GD (GN Hl)->GD Hl->GD Hl
 | some k::ks,v::vs=>k::v::qQ ks vs
 | _,_=>[]
abbrev yZ (Γ:Gam)(f:Hl->GN E):GD Hl->GN E
 | [a,.Name c _]=>if DB Γ c&&Γ.blt.contains c then match vc c,f a with
  | some cs,gV a'=>gV (.isi cs a')
  | _,_=>td
  else td
 | _=>td
abbrev fT:Hl->Hj
 | .Name _ _=>true|.Constant _ _ _=>true|.Subscript _ _ _=>true|_=>false
abbrev kJ (Γ:Gam)(x:Hc):Hj:=Γ.sc.lookup x==gV .globalImplicit && !(x==("__debug__" : Hc))
abbrev cY (Γ:Gam)(x:Hc):GN GP:=if (Γ.sc.lookup x==gV .local)||((Γ.dfn||Γ.own.contains x)&&Γ.sc.lookup x==gV .cell)then Γ.N.findIdx? (· == x)else td
abbrev cA (f:Hl->GN E)(es:GD Hl):GN Es:=es.foldr (λe acc=>match f e,acc with|some e',gV es'=>gV (.cons e' es')|_,_=>td) (gV .nil)
abbrev cB (f:Hl->GN E)(op:Ps):GD Hl->GN E
 | []=>td
 | [a]=>f a
 | a::b::cx=>match f a,cB f op (b::cx)with
  | some a',gV b'=>gV (match op with|.And=>.and a' b'|.Or=>.or a' b')
  | _,_=>td
abbrev cP (f:Hl->GN E):GN Hl->GN Ep
 | none=>gV .no
 | some e=>(f e).map .yes
abbrev isTup:Hl->Hj
 | .Tuple _ _ _=>true
 | _=>false
abbrev cI (Γ:Gam)(f:Hl->GN E)(tg:Hl):Hl->GN Ie
 | .Call (.Name x p) [a] [] q=>if x==("range" : Hc)&&kJ Γ x&&Γ.blt.contains x then(cA f [a]).map .rng else if x==("enumerate" : Hc)&&kJ Γ x&&Γ.blt.contains x&&isTup tg then(cA f [a]).map .enu else(f (.Call (.Name x p) [a] [] q)).map .seq
 | .Call (.Name x p) [a,b] [] q=>if x==("range" : Hc)&&kJ Γ x&&Γ.blt.contains x then(cA f [a,b]).map .rng2 else(f (.Call (.Name x p) [a,b] [] q)).map .seq
 | e=>(f e).map .seq
abbrev BR (Γ:Gam):GD Hl->GN (GD GP)
 | []=>gV []
 | .Name x _::ts=>match cY Γ x,BR Γ ts with
  | some i,gV is=>gV (i::is)
  | _,_=>td
 | _::_=>td
abbrev cT (Γ:Gam):Hl->GN Tg
 | .Name x _=>(cY Γ x).map .nm
 | .Tuple ts _ _=>(BR Γ ts).map .tp
 | _=>td
abbrev gx (names:GD (Hc×IE)):GD Hc:=(names.filter λp=>p.2==.local||p.2==.cell||p.2==.free).map (·.1)
abbrev fU (Γ:Gam)(names:GD (Hc×IE)):GD (GN GP):=(gx names).map λx=>if names.lookup x==gV .local||names.lookup x==gV .cell then td else Γ.N.findIdx? (· == x)
abbrev vd (Γ:Gam)(scope:JZ):Hj:=
 (scope.kind==.function)&&scope.names.all (λy=>!(y.2==.local)||scope.names.lookup y.1==gV .local)&&scope.names.all (λy=>!(y.2==.cell)||scope.names.lookup y.1==gV .cell) &&
 scope.names.all (λy=>!(y.2==.free)||(yW (Γ.sc.lookup y.1)&&scope.names.lookup y.1==gV .free&&(Γ.N.findIdx? (· == y.1)).isSome))&&decide (gx scope.names).Nodup
abbrev gy (Γ:Gam)(scope:JZ):Gam:={ Γ with sc:=fI scope.names Γ.sc,N:=gx scope.names,dfn:=false,own:=(scope.names.filter λp=>p.2==.cell).map (·.1) }
abbrev ve (f:Hl->GN E)(keys:GD (GN Hl))(values:GD Hl):GN E:=
 if keys.isEmpty&&values.isEmpty then gV .dnew
 else if keys.all (·.isSome)&&decide (keys.length=values.length)&&decide (keys.length<=15)then(cA f (qQ keys values)).map .disp else td
abbrev cE:GP->Gam->Hl->GN E
 | 0,_,_=>td
 | n+1,Γ,e=>match e with
  | .Constant (.int i) _ _=>gV (.c (.int i))
  | .Constant (.str x) _ _=>gV (.c (.str x))
  | .Constant (.bool b) _ _=>gV (.c (.bl b))
  | .Constant .none _ _=>gV (.c .non)
  | .Name x _=>match slot Γ x with
   | some i=>gV (.v i)
   | none=>td
  | .BinOp a op b _=>match qP op,cE n Γ a,cE n Γ b with
   | some o,gV a',gV b'=>gV (.op o a' b')
   | _,_,_=>td
  | .UnaryOp .Not a _=>(cE n Γ a).map .not
  | .UnaryOp .USub a _=>(cE n Γ a).map .neg
  | .BoolOp op vs _=>cB (cE n Γ) op vs
  | .Compare a [op] [b] _=>match i8 op,cE n Γ a,cE n Γ b with
   | some o,gV a',gV b'=>gV (.cmp o a' b')
   | _,_,_=>td
  | .Compare a [op,op'] [b,d] _=>match i8 op,i8 op',cE n Γ a,cE n Γ b,cE n Γ d with
   | some o,gV o',gV a',gV b',gV d'=>gV (.chn o o' a' b' d')
   | _,_,_,_,_=>td
  | .IfExp t a b _=>match cE n Γ t,cE n Γ a,cE n Γ b with
   | some t',gV a',gV b'=>gV (.ite t' a' b')
   | _,_,_=>td
  | .Call (.Name f _) args [] _=>if kJ Γ f then match Γ.fns.lookup f with
    | some k=>(cA (cE n Γ) args).map (.own f k)
    | none=>if f==("isinstance" : Hc)then(if Γ.blt.contains f then yZ Γ (cE n Γ) args else td)else match yX f,args with
     | some b,a::as=>if Γ.blt.contains f then(cA (cE n Γ) (a::as)).map (.bi b)else td
     | _,_=>td
   else td
  | .Call (.Attribute o m apos) (a::as) [] cpos=>match yY m,cE n Γ o,cA (cE n Γ) (a::as)with
   | some m',gV o',gV es=>if fT o&&(apos.endLine==cpos.line)&&decide ((a::as).length < 29)then gV (.me m' o' es)else td
   | _,_,_=>td
  | .Subscript a (.Slice lo hi td _) _=>match cE n Γ a,cP (cE n Γ) lo,cP (cE n Γ) hi with
   | some a',gV lo',gV hi'=>gV (.sl a' lo' hi')
   | _,_,_=>td
  | .Subscript a b _=>match cE n Γ a,cE n Γ b with
   | some a',gV b'=>gV (.ix a' b')
   | _,_=>td
  | .Tuple es _ _=>(cA (cE n Γ) es).map .tup
  | .List es _=>(cA (cE n Γ) es).map .lst
  | .Dict keys values _=>ve (cE n Γ) keys values
  | .ListComp elt [#[tg,iter,ifs,asy]] scope _=>if (asy==0)&&(vd Γ scope&&decide (ifs.length<=1))then
    match cI Γ (cE n Γ) tg iter,cT (gy Γ scope) tg,cA (cE n (gy Γ scope)) ifs,cE n (gy Γ scope) elt with
    | some it,gV t,gV cs,gV el=>gV (.comp el t it cs (fU Γ scope.names))
    | _,_,_,_=>td
   else td
  | _=>td
structure CtxOk (M:Hc->FF)(X:Cx)(Γ:Gam):Prop where
 names:X.env.scope.names=Γ.sc
 kind:X.env.scope.kind=.function
 N:X.N=Γ.N
 nd:Γ.N.Nodup
 calm:X.calm=true
 xe:X.xe=λ_ _=>Iq
 un:X.A.units+fB < cLine
 dfn:Γ.dfn=true->∀x,X.fn x=true
 own:∀x∈Γ.own,X.fn x=true
 blt:∀x∈Γ.blt,X.mg x=td
 fns:∀f n,Γ.fns.lookup f=gV n->∃k fa fd ps,FnOk X.prog X.w X.K X.mg X.base sW k fa fd ps (spF X.w X.K n (M f))/\Room k X.A/\X.mg f=gV (.ref fa)/\Iz X.K (.ref fa)=true/\Binds X.K fd ps []
def aH {α:Type}{x:α}{P:Prop}(h:(td:GN α)=gV x):P:=nomatch h
abbrev fJ:Hl->Hj
 | .Starred _ _=>false
 | _=>true
def aC {e:Hl}{es:GD Hl}{env:MR}(h:fJ e=true):starEach (e::es) env=(false,eval e env)::starEach es env:=by
 cases e <;> first|rfl|cases h
def aZ {env:MR}{pos:Jq}:∀ {es:GD Hl},es.all fJ=true->(backTo pos (starEach es env)).any (·.1)=false
 | [],_=>rfl
 | e::es,h=>by
  rw[HF,GQ]at h;rw[aC h.1];show(false||(backTo pos (starEach es env)).any (·.1))=false
  rw[aZ h.2];rfl
def on {env:MR}{pos:Jq}:∀ {es:GD Hl},es.all fJ=true->(backTo pos (starEach es env)).all (λx=>!x.1)=true
 | [],_=>rfl
 | e::es,h=>by
  rw[HF,GQ]at h;rw[aC h.1];show(true&&(backTo pos (starEach es env)).all (λx=>!x.1))=true
  rw[on h.2];rfl
def iH {n:GP}{Γ:Gam}{e:Hl}{e':E}(h:cE n Γ e=gV e'):fJ e=true:=by
 cases n with
 | zero=>cases h
 | succ n=>cases e <;> first|rfl|(exact aH h)
def gZ {f:Hl->GN E}{e:Hl}{es:GD Hl}{r:Es}(h:cA f (e::es)=gV r):∃e' es',f e=gV e'/\cA f es=gV es'/\r=.cons e' es':=by
 simp only[cA,Oc]at h;split at h
 ·rename_i e' es' h1 h2;cases h;exact#[e',es',h1,h2,rfl]
 ·cases h
def b6 {n:GP}{Γ:Gam}:∀ {es:GD Hl} {r:Es},cA (cE n Γ) es=gV r->es.all fJ=true
 | [],_,_=>rfl
 | e::es,r,h=>by
  obtain⟨e',es',h1,h2,_⟩:=gZ h;rw[HF,iH h1,b6 h2];rfl
def bI {N:GD Hc}{x:Hc}{i:GP}(h:N.findIdx? (· == x)=gV i):N[i]?=gV x:=by
 obtain⟨hl,h1,_⟩:=JF.mp h;rw[G1 hl];exact congrArg gV (eq_of_beq h1)
section
variable{M:Hc->FF}{X:Cx}{Γ:Gam}
def jq {e:Hl}:GT X e (λ_ _=>td):=λJ s Y H Q I #[A,Z,S,k,S',er,so,e1,hq]=>by cases e1
def vf {x:Hc}(h:BQ (X.env.scope.names.lookup x)=true):EU X.env.scope x:=by
 unfold BQ at h;split at h
 ·exact .inl (by assumption)
 ·exact .inr (.inl (by assumption))
 ·exact .inr (.inr (by assumption))
 ·cases h
def vg (K:CtxOk M X Γ){x:Hc}{pos:Jq}{i:GP}(h:slot Γ x=gV i):GE X (.Name x pos) (fV i):=by
 unfold slot at h;split at h
 ·rename_i hc;rw[GQ,GQ]at hc;obtain⟨⟨h1,h2⟩,h3⟩:=hc;show Fz (AA (by rw[K.N]; exact bI h) (vf (by rw[K.names]; exact h1)) (by simpa using h2) (by simpa using h3))
 ·cases h
def jR (K:CtxOk M X Γ){x:Hc}(h:kJ Γ x=true):Gl X x/\(x==("__debug__" : Hc))=false:=by
 unfold kJ at h;rw[GQ]at h;show#[?_,by simpa using h.2]
 change X.env.scope.names.lookup x=_;rw[K.names];exact eq_of_beq h.1
def jS {o:N1}{c:COp}(h:i8 o=gV c):c.py=o:=by
 cases o <;> (simp only[i8,HV]at h; subst h; rfl)
def vh {o:Nm}{c:BOp}(h:qP o=gV c):c.py=o:=by
 cases o <;> simp only[qP,HV]at h <;> first|(subst h; rfl)|cases h
def sB {x:Hc}{b:Bi}(h:yX x=gV b):b.name=x:=by
 have:=Mj h;exact eq_of_beq this
def sC {x:Hc}{b:Me}(h:yY x=gV b):b.name=x:=by
 have:=Mj h;exact eq_of_beq this
def cZ {n:GP}(ih:∀ {e:Hl} {e':E},cE n Γ e=gV e'->GE X e (aA M e')):∀ {es:GD Hl} {r:Es},cA (cE n Γ) es=gV r->GA X es (cL M r)
 | [],r,h=>by cases h; exact Bz
 | e::es,r,h=>by
  obtain⟨e',es',h1,h2,rfl⟩:=gZ h;exact yt (ih h1) (cZ ih h2) (aC (iH h1))
def DC (K:CtxOk M X Γ){n:GP}{f:Hc}{p pos:Jq}{args:GD Hl}{k:GP}{r:Es}(hg:kJ Γ f=true)(hf:Γ.fns.lookup f=gV k)(ha:cA (cE n Γ) args=gV r)(h:GA X args (cL M r)):GE X (.Call (.Name f p) args [] pos) (n0 k (M f) (cL M r)):=by
 obtain⟨d,fa,fd,ps,F,hr,hm,hk,hb⟩:=K.fns f k hf;obtain⟨g1,g2⟩:=jR K hg;cases args with
 | nil=>cases ha; exact yw F hr g1 hm hk hb g2
 | cons a as=>
  have ns:=b6 ha;rw[HF,GQ]at ns;exact BC F hr g1 hm hk hb h g2 (aC ns.1) (aZ ns.2)
def FH (K:CtxOk M X Γ){n:GP}{f:Hc}{p pos:Jq}{a:Hl}{as:GD Hl}{b:Bi}{r:Es}(hg:kJ Γ f=true)(hb:yX f=gV b)(hc:Γ.blt.contains f=true)(ha:cA (cE n Γ) (a::as)=gV r)(h:GA X (a::as) (cL M r)):GE X (.Call (.Name f p) (a::as) [] pos) (i7 b.fn (cL M r)):=by
 obtain⟨g1,g2⟩:=jR K hg;have hm:X.mg f=td:=K.blt f (by simpa using hc)
 have ns:=b6 ha;rw[HF,GQ]at ns;have e:=sB hb;subst e;have hu:X.A.units+12 < cLine:=by have:=K.un; have:fB=20:=rfl; omega
 have calm:∀ {f:GK} {g:GD W->aa->GN (W×aa)},(X.A.handled=td->LCall X f g)->LCall X f g:=λh J s Y H A S xs vs us w S' I=>h (I.ok.hd K.calm) J s Y H A S xs vs us w S' I
 cases b with
 | len=>exact qK pG g1 hm PySem.boot_len h #v[] g2 (aC ns.1) (aZ ns.2)
 | list=>exact nY (calm λhh=>u9 (nH hh) (nV hh)) g1 hm rfl h #v[] g2 (aC ns.1) (aZ ns.2)
 | tuple=>exact nY (calm mG) g1 hm rfl h #v[] g2 (aC ns.1) (aZ ns.2)
 | str=>exact nY sn g1 hm rfl h #v[] g2 (aC ns.1) (aZ ns.2)
 | int=>exact nY rY g1 hm rfl h #v[] g2 (aC ns.1) (aZ ns.2)
 | sorted=>exact qK (calm λhh=>mF hh hu) g1 hm rfl h #v[] g2 (aC ns.1) (aZ ns.2)
 | range=>exact nY nG g1 hm rfl h #v[] g2 (aC ns.1) (aZ ns.2)
 | all=>exact qK (calm si) g1 hm rfl h #v[] g2 (aC ns.1) (aZ ns.2)
 | min=>exact qK (calm λhh=>sg hh hu) g1 hm rfl h #v[] g2 (aC ns.1) (aZ ns.2)
def vk {x:Hc}{c:Iw}(h:vc x=gV c):bootBuiltins x=gV (.type c)/\x≠"__name__":=by
 unfold vc at h;split at h
 ·rename_i e; cases h; rw[eq_of_beq e]; exact#[rfl,#v[]]
 ·split at h
  ·rename_i e; cases h; rw[eq_of_beq e]; exact#[rfl,#v[]]
  ·split at h
   ·rename_i e; cases h; rw[eq_of_beq e]; exact#[rfl,#v[]]
   ·split at h
    ·rename_i e; cases h; rw[eq_of_beq e]; exact#[rfl,#v[]]
    ·split at h
     ·rename_i e; cases h; rw[eq_of_beq e]; exact#[rfl,#v[]]
     ·split at h
      ·rename_i e; cases h; rw[eq_of_beq e]; exact#[rfl,#v[]]
      ·cases h
def DD (K:CtxOk M X Γ){n:GP}{f:Hc}{p pos:Jq}{args:GD Hl}{r:E}(hg:kJ Γ f=true)(hb:(f==("isinstance" : Hc))=true)(hc:Γ.blt.contains f=true)(ih:∀ {e:Hl} {e':E},cE n Γ e=gV e'->GE X e (aA M e'))(h:yZ Γ (cE n Γ) args=gV r) :
  GE X (.Call (.Name f p) args [] pos) (aA M r)/\∃a c,r=.isi c a:=by
 obtain⟨g1,g2⟩:=jR K hg;have hm:X.mg f=td:=K.blt f (by simpa using hc)
 have e:=eq_of_beq hb;subst e;unfold yZ at h;split at h
 ·rename_i a c q;split at h
  ·rename_i hcc;rw[GQ]at hcc;obtain⟨g3,g4⟩:=jR K (x:=c) hcc.1;have hm2:X.mg c=td:=K.blt c (by simpa using hcc.2)
   split at h
   ·rename_i cs a' h1 h2;cases h;obtain⟨b1,b2⟩:=vk h1;exact#[BN g1 hm g3 hm2 b1 b2 g4 (ih h2) (aC (iH h2)),a',cs,rfl]
   ·cases h
  ·cases h
 ·cases h
def eE {o:Hl}{name:Hc}{env:MR}(h:fT o=true):attributeBase o name env (eval o env)=eval o env:=by
 cases o <;> first|rfl|cases h
def qR {n:GP}{pos:Jq}(ih:∀ {e:Hl} {e':E},cE n Γ e=gV e'->GE X e (aA M e')):∀(keys:GD (GN Hl)) (values:GD Hl) {r:Es},keys.all (·.isSome)=true->keys.length=values.length->cA (cE n Γ) (qQ keys values)=gV r->Dy X pos keys values (cL M r)
 | [],[],r,_,_,h=>by cases h; exact yO
 | [],_::_,r,_,hl,_=>by cases hl
 | _::_,[],r,_,hl,_=>by cases hl
 | none::_,_::_,r,ha,_,_=>by cases ha
 | some k::ks,v::vs,r,ha,hl,h=>by
  dsimp only[qQ]at h;obtain⟨e1,es1,h1,h2,rfl⟩:=gZ h;obtain⟨e2,es2,h3,h4,rfl⟩:=gZ h2;rw[HF,GQ]at ha;exact uY (ih h1) (ih h3) (qR ih ks vs ha.2 (by simpa using hl) h4)
def FJ (K:CtxOk M X Γ){n:GP}{m:Hc}{apos cpos:Jq}{o a:Hl}{as:GD Hl}{b:Me}{o':E}{r:Es}(hm:yY m=gV b)(hr:fT o=true)(hl:(apos.endLine==cpos.line)=true)(hn:(a::as).length < 29)(ho:GE X o (aA M o'))(ha:cA (cE n Γ) (a::as)=gV r)(h:GA X (a::as) (cL M r)) :
  GE X (.Call (.Attribute o m apos) (a::as) [] cpos) (CD b.ty b.fn (aA M o') (cL M r)):=by
 have ns:=b6 ha;have ns':=ns;rw[HF,GQ]at ns;have lE:((backTo cpos (starEach (a::as) X.env)).all (λx=>!x.1)&&(backToKw cpos (keywordEach [] X.env)).all (λx=>x.1.isSome)&&decide ((a::as).length+([]:GD ML).length+(if ([]:GD ML).isEmpty then 0 else 1) < 30))=true:=by
  rw[on ns',Kv,GQ];exact#[rfl,Iu (by simp only[IT,List.isEmpty_nil,J1]; omega)]
 have e:=sC hm;subst e;cases b with
 | append=>exact nZ KG PySem.F.slot_list_append PySem.F.type_list_append ma ho h (eE hr) lE hl (aC ns.1) (aZ ns.2)
 | extend=>exact nZ KG PySem.F.slot_list_extend PySem.F.type_list_extend md ho h (eE hr) lE hl (aC ns.1) (aZ ns.2)
 | pop=>exact nZ KG PySem.F.slot_list_pop PySem.F.type_list_pop rZ ho h (eE hr) lE hl (aC ns.1) (aZ ns.2)
 | get=>exact nZ PySem.F.plainAttrs_dict Ml PySem.F.type_dict_get (pk (by have:=K.un; have:fB=20:=rfl; omega)) ho h (eE hr) lE hl (aC ns.1) (aZ ns.2)
 | index=>exact nZ PySem.F.plainAttrs_tuple LC PySem.F.type_tuple_index nD ho h (eE hr) lE hl (aC ns.1) (aZ ns.2)
def g5 {n:GP}{Γ:Gam}{e:Hl}{e':E}{op:N1}(h:cE n Γ e=gV e'):behindInMarks op e=false:=by
 cases n with
 | zero=>cases h
 | succ n=>cases e <;> first|rfl|(exact aH h)
def pJ {n:GP}{Γ:Gam}{e:Hl}{e':E}(h:cE n Γ e=gV e'):lW e:=by
 cases n with
 | zero=>cases h
 | succ n=>cases e <;> first|(intro o i; rfl)|(exact aH h)
def mK {n:GP}{Γ:Gam}{f:Hl->GN E}{e:Hl}{i:Ie}{env:MR}{tg:Hl}(hf:∀el k p,f (.Set el k p)=td)(h:cI Γ f tg e=gV i):∀x,foldedSetIterable e env x=pure x:=by
 intro x;cases e <;> first|rfl|(simp[cI,hf]at h)
def mL {n:GP}{op:Ps}{pos:Jq}(ih:∀ {e:Hl} {e':E},cE n Γ e=gV e'->GE X e (aA M e')):∀ {vs:GD Hl} {r:E},cB (cE n Γ) op vs=gV r->GE X (.BoolOp op vs pos) (aA M r)
 | [],r,h=>by cases h
 | [a],r,h=>Bv (ih h)
 | a::b::cx,r,h=>by
  simp only[cB]at h;split at h
  ·rename_i a' b' h1 h2;cases h;cases op with
   | And=>exact Bw (ih h1) (mL ih h2)
   | Or=>exact Dr (ih h1) (mL ih h2)
  ·cases h
def mM {n:GP}{op:Ps}{pos:Jq}(ih:∀ {e:Hl} {e':E},cE n Γ e=gV e'->GT X e (cK M e')):∀ {vs:GD Hl} {r:E},cB (cE n Γ) op vs=gV r->GW X (.BoolOp op vs pos) (cK M r)
 | [],r,h=>by cases h
 | [a],r,h=>by
  cases op with
  | And=>exact yp (ih h)
  | Or=>exact Bs (ih h)
 | a::b::cx,r,h=>by
  simp only[cB]at h;split at h
  ·rename_i a' b' h1 h2;cases h;cases op with
   | And=>exact Bt (ih h1) (mM ih h2)
   | Or=>exact Dq (ih h1) (mM ih h2)
  ·cases h
def vm {n:GP}(ih:∀ {e:Hl} {e':E},cE n Γ e=gV e'->GE X e (aA M e')){o:GN Hl}{p:Ep}(h:cP (cE n Γ) o=gV p):GO X o (qO M p):=by
 cases o with
 | none=>cases h; exact yu
 | some e=>
  simp only[cP,GM]at h;obtain⟨e',h1,rfl⟩:=h;exact yv (ih h1)
def pK (K:CtxOk M X Γ){n:GP}(ih:∀ {e:Hl} {e':E},cE n Γ e=gV e'->GE X e (aA M e')){tg e:Hl}{i:Ie}(h:cI Γ (cE n Γ) tg e=gV i):GI X tg e (jk M i):=by
 have gen:(cE n Γ e).map Ie.seq=gV i->GI X tg e (jk M i):=λh=>by
  rw[GM]at h;obtain⟨e',h1,rfl⟩:=h;exact yR (ih h1)
 unfold cI at h;split at h
 ·rename_i x p a pos;split at h
  ·rename_i hc;rw[GQ,GQ]at hc;obtain⟨⟨h1,h2⟩,h3⟩:=hc;have hx:=eq_of_beq h1;subst hx;rw[GM]at h;obtain⟨r,hr,rfl⟩:=h;have ns:=b6 hr;rw[HF,GQ]at ns;exact yL (jR K h2).1 (K.blt _ (by simpa using h3)) (cZ ih hr) (aC ns.1)
  ·split at h
   ·rename_i hc;rw[GQ,GQ,GQ]at hc;obtain⟨⟨⟨h1,h2⟩,h3⟩,h4⟩:=hc;have hx:=eq_of_beq h1;subst hx;rw[GM]at h;obtain⟨r,hr,rfl⟩:=h;have ns:=b6 hr;rw[HF,GQ]at ns;cases tg with
    | Tuple els k0 tp=>exact yU (jR K h2).1 (K.blt _ (by simpa using h3)) (cZ ih hr) (aC ns.1)
    | _=>cases h4
   ·exact gen h
 ·rename_i x p a b pos;split at h
  ·rename_i hc;rw[GQ,GQ]at hc;obtain⟨⟨h1,h2⟩,h3⟩:=hc;have hx:=eq_of_beq h1;subst hx;rw[GM]at h;obtain⟨r,hr,rfl⟩:=h;have ns:=b6 hr;rw[HF,HF,GQ,GQ]at ns;exact yM (jR K h2).1 (K.blt _ (by simpa using h3)) (cZ ih hr) (by rw[aC ns.1,aC ns.2.1]; rfl) (aC ns.2.1)
  ·exact gen h
 ·exact gen h
def mN (K:CtxOk M X Γ){x:Hc}{i:GP}(h:cY Γ x=gV i):X.N[i]?=gV x/\xo X.env.scope x/\(X.fn x=true\/X.env.scope.names.lookup x=gV .local):=by
 unfold cY at h;split at h
 ·rename_i hc;show#[by rw[K.N]; exact bI h,?_]
  unfold L2.xo;rw[K.names];rw[IK,GQ]at hc;rcases hc with hc|⟨hd,hc⟩
  ·have:=eq_of_beq hc;exact#[.inl this,.inr this]
  ·rw[IK]at hd;exact#[.inr (eq_of_beq hc),.inl (hd.elim (λhd=>K.dfn hd x) λhd=>K.own x (by simpa using hd))]
 ·cases h
def oo (K:CtxOk M X Γ):∀ {ts:GD Hl} {is:GD GP},BR Γ ts=gV is->(∀x∈ts,∃y p,x=MM y p)/\LR (λ(t:Hl) (i:GP)=>∃x p,t=MM x p/\X.N[i]?=gV x/\xo X.env.scope x/\(X.fn x=true\/X.env.scope.names.lookup x=gV .local)) ts is
 | [],is,h=>by cases h; exact#[λx hx=>by simp at hx,.nil]
 | t::ts,is,h=>by
  cases t with
  | Name x p=>
   dsimp only[BR]at h;split at h
   ·rename_i i is' h1 h2;cases h;obtain⟨a,b⟩:=oo K h2;exact#[λy hy=>(Hn.mp hy).elim (λe=>#[x,p,e]) (a y),.cons #[x,p,rfl,mN K h1] b]
   ·cases h
  | _=>cases h
def gE {env:MR}:∀ {ts:GD Hl},(∀x∈ts,∃y p,x=MM y p)->(assignEach ts env).length=ts.length/\(assignEach ts env).findIdx? (·.1)=td
 | [],_=>#[rfl,rfl]
 | t::ts,h=>by
  obtain⟨y,p,rfl⟩:=h t HH;obtain⟨a,b⟩:=gE (env:=env) λx hx=>h x (Hv _ hx)
  show#[by show(assignEach ts env).length+1=ts.length+1; rw[a],?_]
  change List.findIdx? (·.1) ((false,assign (.Name y p) env)::assignEach ts env)=td
  rw[List.findIdx?_cons,b];rfl
def oq (K:CtxOk M X Γ){tg:Hl}{t:Tg}(h:cT Γ tg=gV t):GG X tg (fq t):=by
 have hN:X.N.Nodup:=by rw[K.N]; exact K.nd
 cases tg with
 | Name x p=>
  dsimp only[cT]at h; simp only[GM]at h
  obtain⟨i,h1,rfl⟩:=h;obtain⟨a,b,c⟩:=mN K h1;exact qM hN a b c
 | Tuple ts k p=>
  dsimp only[cT]at h; simp only[GM]at h
  obtain⟨is,h1,rfl⟩:=h;obtain⟨a,b⟩:=oo K h1;exact BG K.calm a b hN (gE a).1 (gE a).2
 | _=>cases h
end
abbrev ef (env:MR):GD (Hc×IE)->GD (Hc×GU)->GD (Hc×GU)
 | [],cs=>cs
 | (n,k)::r,cs=>ef env r (if k==.free then(n,(env.cells.lookup n).getD 0)::cs else cs)
def iI {env:MR}:∀(names:GD (Hc×IE)) (cs:GD (Hc×GU)),(∀y∈names,y.2=.free->(env.cells.lookup y.1).isSome=true)->
  (forIn names cs λx r=>match x with|(name,kind)=>if (kind==Kw)=true then do let a <- cellOf env name; pure (IU ((name,a)::r))else pure (IU r):O4 (GD (Hc×GU)))=pure (ef env names cs)
 | [],cs,_=>by rw[My]; rfl
 | (n,k)::r,cs,h=>by
  rw[Ma];have hr:=λy hy=>h y (Hv _ hy)
  by_cases hk:(k==Kw)=true
  ·obtain⟨c,hc⟩:=Ig.mp (h (n,k) HH (eq_of_beq hk));have e1:cellOf env n=pure c:=by unfold cellOf; rw[hc]
   simp only[hk,J1,e1,pure_bind];rw[iI r _ hr];simp only[ef,hk,J1,hc,LO]
  ·have hk':(k==Kw)=false:=by simpa using hk
   simp only[hk',Ix,JL,pure_bind];rw[iI r _ hr];simp only[ef,hk',Ix,JL]
def jl {scope:JZ}{env:MR}(h:∀y∈scope.names,y.2=.free->(env.cells.lookup y.1).isSome=true):closureFor scope env=pure (ef env scope.names []):=by
 have:=iI scope.names [] h;unfold closureFor;simp only[this,pure_bind]
def jT {env:MR}:∀(names:GD (Hc×IE)) (cs:GD (Hc×GU)),(∀y∈names,y.2=.free->(env.cells.lookup y.1).isSome=true)->(∀x c,cs.lookup x=gV c->env.cells.lookup x=gV c)->
  ∀x c,(ef env names cs).lookup x=gV c->env.cells.lookup x=gV c
 | [],cs,_,h,x,c,e=>h x c e
 | (n,k)::r,cs,hn,h,x,c,e=>by
  show jT r _ (λy hy=>hn y (Hv _ hy)) (λx c e=>?_) x c e
  split at e
  ·rename_i hk;rw[Ii]at e;split at e
   ·rename_i hx;cases e;have:=eq_of_beq hx;subst this;obtain⟨c,hc⟩:=Ig.mp (hn (x,k) HH (eq_of_beq hk));rw[hc]; rfl
   ·exact h x c e
  ·exact h x c e
def i9 {env:MR}{x:Hc}:∀(names:GD (Hc×IE)) (cs:GD (Hc×GU)),(∃c,cs.lookup x=gV c)->∃c,(ef env names cs).lookup x=gV c
 | [],cs,h=>h
 | (n,k)::r,cs,h=>by
  show i9 r _ ?_;split
  ·rw[Ii];split
   ·exact#[_,rfl]
   ·exact h
  ·exact h
def jU {env:MR}{x:Hc}:∀(names:GD (Hc×IE)) (cs:GD (Hc×GU)),(x,Kw)∈names->∃c,(ef env names cs).lookup x=gV c
 | [],cs,h=>by simp at h
 | (n,k)::r,cs,h=>by
  rcases Hn.mp h with e|h
  ·cases e;show i9 r _ ?_;simp[Ii]
  ·exact jU r _ h
def jV {x:Hc}{k:IE}:∀ {l:GD (Hc×IE)},l.lookup x=gV k->(x,k)∈l
 | [],h=>by simp at h
 | (n,j)::r,h=>by
  rw[Ii]at h;split at h
  ·rename_i hx;cases h;have:=eq_of_beq hx;subst this;exact HH
  ·exact Hv _ (jV h)
def eh {X:Cx}{M:Hc->FF}{Γ:Gam}(K:CtxOk M X Γ)(scope:JZ):(relabel scope X.env).names=fI scope.names Γ.sc:=by
 unfold relabel fI KB;rw[K.kind,K.names];show Im λ#[n,k] _=>?_
 have e:(Nd==Nd)=true:=rfl;simp only[e,LD]
def dU {outer:GD (Hc×IE)}{x:Hc}:∀ {names:GD (Hc×IE)},(fI names outer).lookup x=(names.lookup x).map λk=>if (k==.free&&outer.lookup x==gV .cell)then .cell else k
 | []=>rfl
 | (n,k)::r=>by
  have ih:=dU (outer:=outer) (x:=x) (names:=r);change List.lookup x ((if (k==Kw&&outer.lookup n==gV .cell)=true then(n,J9)else(n,k))::fI r outer)=_
  cases hx:x==n with
  | true=>
   have:=eq_of_beq hx;subst this;simp only[Ii,Ip,HA];split <;> simp[Ii]
  | false=>
   simp only[Ii,hx];split <;> (simp only[Ii,hx]; exact ih)
section
variable{M:Hc->FF}{X:Cx}{Γ:Gam}
structure ScOk (Γ:Gam)(scope:JZ):Prop where
 kind:scope.kind=.function
 names:∀y∈scope.names,y.2=.local->scope.names.lookup y.1=gV .local
 cell:∀y∈scope.names,y.2=.cell->scope.names.lookup y.1=gV .cell
 free:∀y∈scope.names,y.2=.free->yW (Γ.sc.lookup y.1)=true/\scope.names.lookup y.1=gV .free/\(Γ.N.findIdx? (· == y.1)).isSome=true
 nd:(gx scope.names).Nodup
def qS {scope:JZ}(h:vd Γ scope=true):ScOk Γ scope:=by
 unfold vd at h;rw[GQ,GQ,GQ,GQ]at h;obtain⟨⟨⟨⟨h1,h2⟩,h3⟩,h4⟩,h5⟩:=h;show#[eq_of_beq h1,λy hy e=>?_,λy hy e=>?_,λy hy e=>?_,Ij h5]
 ·have:=Hk.mp h2 y hy;rw[e]at this
  simpa using this
 ·have:=Hk.mp h3 y hy;rw[e]at this
  simpa using this
 ·have:=Hk.mp h4 y hy;rw[e]at this;simp only[Ip,MV,MW,GQ]at this;exact#[this.1.1,eq_of_beq this.1.2,this.2]
def qT {o:GN IE}(h:yW o=true):o=gV .cell\/o=gV .free:=by
 unfold yW at h;split at h
 ·exact .inl rfl
 ·exact .inr rfl
 ·cases h
def lA (K:CtxOk M X Γ)(ok:X.Ok){scope:JZ}(sc:ScOk Γ scope):CompOk X scope (ef X.env scope.names []) (gx scope.names) (fU Γ scope.names):=by
 have cells:∀y∈scope.names,y.2=.free->(X.env.cells.lookup y.1).isSome=true:=λy hy e=>by
  have hk:=qT (sc.free y hy e).1;obtain⟨c,hc⟩:=ok.has y.1 (by unfold KB; rw[K.names]; exact hk)
  rw[hc]; rfl
 have relab:∀x,((relabel scope X.env).names.lookup x=gV .cell\/(relabel scope X.env).names.lookup x=gV .free)->(x,J9)∈scope.names\/(x,Kw)∈scope.names:=λx h=>by
  rw[eh K,dU]at h;cases q:scope.names.lookup x with
  | none=>rw[q]at h; rcases h with h|h <;> cases h
  | some k=>
   rw[q]at h;have hm:=jV q;cases k with
   | free=>exact .inr hm
   | cell=>exact .inl hm
   | _=>rcases h with h|h <;> simp at h
 show#[jl cells,sc.kind,sc.names,jT _ _ cells (λx c e=>by cases e),λm x h=>iF _ _ _ ((relab x h).imp id λz=>jU _ _ z),by simp[fU],λi j x hi hx=>?_]
 unfold fU at hi;rw[GV,hx]at hi;simp only[HA,HV]at hi;split at hi
 ·cases hi
 ·rename_i hl;have hx2:x∈gx scope.names:=G7 hx;unfold gx at hx2;obtain⟨⟨x',k⟩,hf,e⟩:=Hi.mp hx2;obtain⟨hm,hk⟩:=IR.mp hf;have e':x'=x:=e;subst e';have hkf:k=.free:=by
   simp only[IK]at hk;rcases hk with(hk|hk)|hk
   ·have:k=.local:=eq_of_beq hk;subst this;have:=sc.names (x',.local) hm rfl;rw[this]at hl;simp at hl
   ·have:k=.cell:=eq_of_beq hk;subst this;have:=sc.cell (x',.cell) hm rfl;rw[this]at hl;simp at hl
   ·exact eq_of_beq hk
  subst hkf;obtain⟨f1,f2,f3⟩:=sc.free _ hm rfl;show#[by rw[K.N]; exact bI hi,by unfold KB; rw[K.names]; exact qT f1,?_,λz=>by rw[sc.cell _ z rfl]at f2; cases f2]
  rw[eh K,dU,f2];simp only[HA,HV,Ip,Kv];split
  ·exact .inl rfl
  ·exact .inr rfl
def eF (K:CtxOk M X Γ){scope:JZ}(sc:ScOk Γ scope)(C:GU)(s0:GL)(H0:Hp)(ex:GD GU):CtxOk M (kE X scope (ef X.env scope.names []) C (gx scope.names) s0 H0 ex) (gy Γ scope) where
 names:=eh K scope
 kind:=sc.kind
 N:=rfl
 nd:=sc.nd
 calm:=K.calm
 xe:=rfl
 un:=K.un
 dfn:=λh=>by cases h
 own:=λx h=>by
  obtain⟨⟨y,k⟩,hy,e⟩:=Hi.mp h;obtain⟨hm,hk⟩:=IR.mp hy;have e':y=x:=e;subst e';exact K1.mpr #[(y,k),hm,by simpa using hk]
 blt:=K.blt
 fns:=K.fns
def ou {cs:Es}{n:GP}{ifs:GD Hl}{Γ:Gam}(hl:ifs.length<=1)(hc:cA (cE n Γ) ifs=gV cs){Yq:Cx}(ih:∀ {e:Hl} {e':E},cE n Γ e=gV e'->GT Yq e (cK M e'))(hx:Yq.xe=λ_ _=>Iq) :
  ∀J s Y H Q,Inv Yq J Y H s->tT Yq (yV M cs) Y H Q->
  wpAny (model Yq.prog Yq.w) Yq.A (forIn ifs true λc r=>if r=true then do let ok <- isTrue c Yq.env (eval c Yq.env); pure (IU ok)else pure (IU r)) (TP Yq J Y Q) (λ_ _=>Iq) s:=by
 intro J s Y H Q I h
 match ifs,hl,hc with
 | [],_,hc=>
  cases hc;obtain⟨A,Z,S,k,S',er,so,e,hq⟩:=h;cases e;exact wpAny_tests_nil #[H,I,hq _ _ #[rfl,A,.refl,so]]
 | [c],_,hc=>
  obtain⟨e',es',h1,h2,rfl⟩:=gZ hc;cases h2;have:=ih h1 J s Y H Q I h;rw[hx]at this;exact wpAny_tests_one this
def bA:∀(n:GP) {Γ:Gam} {X:Cx} {e:Hl} {e':E},CtxOk M X Γ->cE n Γ e=gV e'->GE X e (aA M e')/\GT X e (cK M e'):=by
 intro n
 induction n with
 | zero=>intro Γ X e e' K h; cases h
 | succ n ih=>
  intro Γ X e e' K h;have ihE:∀ {e:Hl} {e':E},cE n Γ e=gV e'->GE X e (aA M e'):=λq=>(ih K q).1
  have ihT:∀ {e:Hl} {e':E},cE n Γ e=gV e'->GT X e (cK M e'):=λq=>(ih K q).2
  have hu10:X.A.units+10 < cLine:=by have:=K.un; have:fB=20:=rfl; omega
  cases e with
  | Constant c k p=>
   cases c <;> cases h
   all_goals first
    | exact#[nW sZ (λ_ _=>.non),cz (nW sZ (λ_ _=>.non)) λ_=>rfl]
    | exact#[nW zT (λ_ _=>.bl),cz (nW zT (λ_ _=>.bl)) λ_=>rfl]
    | exact#[nW sY (λ_ _=>.int),cz (nW sY (λ_ _=>.int)) λ_=>rfl]
    | exact#[nW tf (λ_ _=>.str),cz (nW tf (λ_ _=>.str)) λ_=>rfl]
  | Name x p=>
   replace h:(match slot Γ x with|some i=>gV (E.v i)|none=>td)=gV e':=h
   split at h
   ·rename_i i h1;cases h;exact#[vg K h1,cz (vg K h1) λ_=>rfl]
   ·cases h
  | BinOp a op b p=>
   replace h:(match qP op,cE n Γ a,cE n Γ b with|some o,gV a',gV b'=>gV (E.op o a' b')|_,_,_=>td)=gV e':=h
   split at h
   ·rename_i o a' b' h1 h2 h3;cases h;have e:=vh h1;subst e;exact#[zZ (qv o) (ihE h2) (ihE h3),cz (zZ (qv o) (ihE h2) (ihE h3)) λ_=>rfl]
   ·cases h
  | UnaryOp op a p=>
   cases op with
   | Not=>
    replace h:(cE n Γ a).map E.not=gV e':=h;rw[GM]at h;obtain⟨a',h1,rfl⟩:=h;exact#[Bx (ihE h1),Bu (ihT h1)]
   | USub=>
    replace h:(cE n Γ a).map E.neg=gV e':=h;rw[GM]at h;obtain⟨a',h1,rfl⟩:=h;exact#[uJ (ihE h1),cz (uJ (ihE h1)) λ_=>rfl]
   | _=>exact aH h
  | BoolOp op vs p=>
   replace h:cB (cE n Γ) op vs=gV e':=h;exact#[mL ihE h,(mM ihT h).pt]
  | Compare a ops cs p=>
   match ops,cs,h with
   | [op],[b],h=>
    replace h:(match i8 op,cE n Γ a,cE n Γ b with|some o,gV a',gV b'=>gV (E.cmp o a' b')|_,_,_=>td)=gV e':=h
    split at h
    ·rename_i o a' b' h1 h2 h3;cases h;have e:=jS h1;subst e;exact#[Bq K.un (ihE h2) (ihE h3) (g5 h3),Br K.un (ihE h2) (ihE h3) (g5 h3)]
    ·cases h
   | [],_,h=>exact aH h
   | [_],[],h=>exact aH h
   | [_],_::_::_,h=>exact aH h
   | [op,op'],[b,d],h=>
    replace h:(match i8 op,i8 op',cE n Γ a,cE n Γ b,cE n Γ d with|some o,gV o',gV a',gV b',gV d'=>gV (E.chn o o' a' b' d')|_,_,_,_,_=>td)=gV e':=h
    split at h
    ·rename_i o o' a' b' d' h1 h2 h3 h4 h5;cases h;have e:=jS h1;subst e;have e:=jS h2;subst e;exact#[uK K.un (ihE h3) (ihE h4) (ihE h5) (g5 h5),uL K.un (ihE h3) (ihE h4) (ihE h5) (g5 h5)]
    ·cases h
   | [_,_],[],h=>exact aH h
   | [_,_],[_],h=>exact aH h
   | [_,_],_::_::_::_,h=>exact aH h
   | _::_::_::_,_,h=>exact aH h
  | IfExp t a b p=>
   replace h:(match cE n Γ t,cE n Γ a,cE n Γ b with|some t',gV a',gV b'=>gV (E.ite t' a' b')|_,_,_=>td)=gV e':=h
   split at h
   ·rename_i t' a' b' h1 h2 h3;cases h;exact#[By (ihT h1) (ihE h2) (ihE h3),jq]
   ·cases h
  | Call f args kws p=>
   cases kws with
   | cons _ _=>cases f <;> first|(exact aH h)|(cases args <;> (exact aH h))
   | nil=>
    cases f with
    | Name x q=>
     replace h:(if kJ Γ x then match Γ.fns.lookup x with|some k=>(cA (cE n Γ) args).map (E.own x k)|none=>if x==("isinstance" : Hc)then(if Γ.blt.contains x then yZ Γ (cE n Γ) args else td)else match (generalizing:=false) yX x,args with|some b,a::as=>if Γ.blt.contains x then(cA (cE n Γ) (a::as)).map (E.bi b)else td|_,_=>td else td)=gV e':=h
     split at h
     ·rename_i hg;split at h
      ·rename_i k hk;rw[GM]at h;obtain⟨r,hr,rfl⟩:=h;have g:=DC (pos:=p) (p:=q) K hg hk hr (cZ ihE hr);exact#[g,cz g λ_=>rfl]
      ·split at h
       ·rename_i his;split at h
        ·rename_i hc;obtain⟨g,a',c',rfl⟩:=DD (pos:=p) (p:=q) K hg his hc ihE h;exact#[g,cz g λ_=>rfl]
        ·cases h
       ·split at h
        ·rename_i bb a as hb;split at h
         ·rename_i hc;rw[GM]at h;obtain⟨r,hr,rfl⟩:=h;have g:=FH (pos:=p) (p:=q) K hg hb hc hr (cZ ihE hr);exact#[g,cz g λ_=>rfl]
         ·cases h
        ·cases h
     ·cases h
    | Attribute o m q=>
     cases args with
     | nil=>exact aH h
     | cons a as=>
      replace h:(match yY m,cE n Γ o,cA (cE n Γ) (a::as)with|some m',gV o',gV es=>if fT o&&(q.endLine==p.line)&&decide ((a::as).length < 29)then gV (E.me m' o' es)else td|_,_,_=>td)=gV e':=h
      split at h
      ·rename_i m' o' es h1 h2 h3;split at h
       ·rename_i hc;rw[GQ,GQ,Hy]at hc;cases h;have g:=FJ K (cpos:=p) (apos:=q) h1 hc.1.1 hc.1.2 hc.2 (ihE h2) h3 (cZ ihE h3);exact#[g,cz g λ_=>rfl]
       ·cases h
      ·cases h
    | _=>exact aH h
  | Subscript a b p=>
   have plain:(match cE n Γ a,cE n Γ b with|some a',gV b'=>gV (E.ix a' b')|_,_=>td)=gV e'->GE X (.Subscript a b p) (aA M e')/\GT X (.Subscript a b p) (cK M e'):=λh=>by
    split at h
    ·rename_i a' b' h1 h2;cases h;have g:=Dt (pos:=p) hu10 (ihE h1) (ihE h2) (pJ h2);exact#[g,cz g λ_=>rfl]
    ·cases h
   cases b with
   | Slice lo hi st q=>
    cases st with
    | none=>
     replace h:(match cE n Γ a,cP (cE n Γ) lo,cP (cE n Γ) hi with|some a',gV lo',gV hi'=>gV (E.sl a' lo' hi')|_,_,_=>td)=gV e':=h
     split at h
     ·rename_i a' lo' hi' h1 h2 h3;cases h;have g:=Du (pos:=p) (p2:=q) (ihE h1) (vm ihE h2) (vm ihE h3);exact#[g,cz g λ_=>rfl]
     ·cases h
    | some z=>exact plain h
   | _=>exact plain h
  | Tuple es k p=>
   replace h:(cA (cE n Γ) es).map E.tup=gV e':=h;rw[GM]at h;obtain⟨r,h1,rfl⟩:=h;exact#[uQ (cZ ihE h1),cz (uQ (cZ ihE h1)) λ_=>rfl]
  | List es p=>
   replace h:(cA (cE n Γ) es).map E.lst=gV e':=h;rw[GM]at h;obtain⟨r,h1,rfl⟩:=h;exact#[uR (cZ ihE h1),cz (uR (cZ ihE h1)) λ_=>rfl]
  | Dict keys values p=>
   replace h:ve (cE n Γ) keys values=gV e':=h;unfold ve at h;split at h
   ·rename_i hc;cases h;rw[GQ]at hc;have k0:keys=[]:=LP.mp hc.1;have v0:values=[]:=LP.mp hc.2;subst k0 v0;exact#[yP,jq]
   ·rename_i hc0;split at h
    ·rename_i hc;rw[GQ,GQ,Hy,Hy]at hc;rw[GM]at h;obtain⟨r,hr,rfl⟩:=h;have h0:keys≠[]:=λz=>by
      subst z;have v0:values=[]:=JY.mp hc.1.2.symm;subst v0;exact hc0 rfl
     exact#[yQ (pos:=p) hu10 (qR ihE keys values hc.1.1 hc.1.2 hr) hc.1.1 hc.1.2 h0 hc.2,jq]
    ·cases h
  | ListComp elt gens scope p=>
   match gens,h with
   | [#[tg,iter,ifs,asy]],h=>
    replace h:(if (asy==0)&&(vd Γ scope&&decide (ifs.length<=1))then match cI Γ (cE n Γ) tg iter,cT (gy Γ scope) tg,cA (cE n (gy Γ scope)) ifs,cE n (gy Γ scope) elt with|some it,gV t,gV cs,gV el=>gV (E.comp el t it cs (fU Γ scope.names))|_,_,_,_=>td else td)=gV e':=h
    split at h
    ·rename_i hc;rw[GQ,GQ,Hy]at hc;have e0:asy=0:=eq_of_beq hc.1;subst e0;replace hc:=hc.2;split at h
     ·rename_i it t cs el h1 h2 h3 h4;cases h;have sc:=qS hc.1;show#[yS K.calm (pK K ihE h1) (λok=>#[_,lA K ok sc,?_]) (mK (n:=n) (λel k p=>by cases n <;> rfl) h1),jq]
      show#[λC s0 H0 ex=>oq (eF K sc C s0 H0 ex) h2,λC s0 H0 ex J s Y H Q I q=>?_,λC s0 H0 ex=>(ih (eF K sc C s0 H0 ex) h4).1]
      exact ou hc.2 h3 (λz=>(ih (eF K sc C s0 H0 ex) z).2) rfl J s Y H Q I q
     ·cases h
    ·cases h
   | [],h=>exact aH h
   | #[_,_,_,_]::_::_,h=>exact aH h
  | _=>exact aH h
end
noncomputable abbrev bF:GP:=30
abbrev z8:Hl->Hj
 | .Constant (.str _) _ _=>true
 | _=>false
abbrev iJ:Hl->Hj
 | .ListComp _ _ _ _=>true
 | _=>false
abbrev qU:Hl->Hj
 | .Slice _ _ _ _=>true
 | _=>false
abbrev qV (f:JR->GN Sm)(ss:GD JR):GN Ss:=ss.foldr (λs acc=>match f s,acc with|some s',gV ss'=>gV (.cons s' ss')|_,_=>td) (gV .nil)
abbrev DE (Γ:Gam):GD Hl->Hl->GN Sm
 | [.Name x px,.Name y py],.Tuple [a,b] _ _=>match Γ.N.findIdx? (· == x),Γ.N.findIdx? (· == y),cA (cE bF Γ) [a,b]with
  | some i,gV j,gV es=>if !(i==j)&&(Γ.sc.lookup x==gV .local)&&(Γ.sc.lookup y==gV .local)&&(py.line==px.line) && !([a,b].all (foldedForSure 8)) && !([a,b].all (constantsAlone 8))then gV (.par i j es)else td
  | _,_,_=>td
 | _,_=>td
abbrev DF (Γ:Gam):GD Hl->Hl->GN Sm
 | [.Name x px,.Name y py,.Name z pz],.Tuple [a,b,c] _ _=>match Γ.N.findIdx? (· == x),Γ.N.findIdx? (· == y),Γ.N.findIdx? (· == z),cA (cE bF Γ) [a,b,c]with
  | some i,gV j,gV l,gV es=>if !(i==j) && !(i==l) && !(j==l)&&(Γ.sc.lookup x==gV .local)&&(Γ.sc.lookup y==gV .local)&&(Γ.sc.lookup z==gV .local)&&(py.line==px.line)&&(pz.line==px.line) && !([a,b,c].all (foldedForSure 8)) && !([a,b,c].all (constantsAlone 8))then gV (.pr3 i j l es)else td
  | _,_,_,_=>td
 | _,_=>td
abbrev BS:Hl->Hj
 | .Tuple vs _ _=>vs.all (foldedForSure 8)
 | _=>false
abbrev BU (Γ:Gam)(ts:GD Hl)(e:Hl):GN Sm:=if BS e then(match BR Γ ts,cE bF Γ e with
 | some is,gV e'=>gV (.asg is e')
 | _,_=>td)else if ts.length=3 then DF Γ ts e else DE Γ ts e
abbrev cS:GP->Gam->JR->GN Sm
 | 0,_,_=>td
 | n+1,Γ,st=>match st with
  | .Assign [.Name x _] e _=>match cY Γ x,cE bF Γ e with
   | some i,gV e'=>gV (.set i e')
   | _,_=>td
  | .Assign [.Tuple ts _ _] e _=>if isTup e then BU Γ ts e else if iJ e then td else match BR Γ ts,cE bF Γ e with
   | some is,gV e'=>gV (.asg is e')
   | _,_=>td
  | .Assign [.Subscript o k _] e _=>if qU k then td else match cE bF Γ o,cE bF Γ k,cE bF Γ e with
   | some o',gV k',gV e'=>gV (.put o' k' e')
   | _,_,_=>td
  | .Expr e _=>if z8 e then gV .pass else if iJ e then td else(cE bF Γ e).map .ex
  | .Return (gV e) _=>(cE bF Γ e).map .ret
  | .Pass _=>gV .pass
  | .If t a b _=>match cE bF Γ t,qV (cS n Γ) a,qV (cS n Γ) b with
   | some t',gV a',gV b'=>gV (.ite t' a' b')
   | _,_,_=>td
  | .While t b [] _=>match cE bF Γ t,qV (cS n Γ) b with
   | some t',gV b'=>gV (.whl t' b')
   | _,_=>td
  | .For tg it b [] _=>match cT Γ tg,cI Γ (cE bF Γ) tg it,qV (cS n Γ) b with
   | some t,gV i,gV b'=>gV (.loop t i b')
   | _,_,_=>td
  | _=>td
section
variable{M:Hc->FF}{X:Cx}{Γ:Gam}{fuel:GP}
def vn {f:JR->GN Sm}{s:JR}{ss:GD JR}{r:Ss}(h:qV f (s::ss)=gV r):∃s' ss',f s=gV s'/\qV f ss=gV ss'/\r=.cons s' ss':=by
 simp only[qV,Oc]at h;split at h
 ·rename_i e' es' h1 h2;cases h;exact#[e',es',h1,h2,rfl]
 ·cases h
def fW {n:GP}(ih:∀ {st:JR} {s':Sm},cS n Γ st=gV s'->GS X st (fj M fuel s')):∀ {ss:GD JR} {r:Ss},qV (cS n Γ) ss=gV r->GSs X ss (fH M fuel r)
 | [],r,h=>by cases h; exact yy
 | s::ss,r,h=>by
  obtain⟨s',ss',h1,h2,rfl⟩:=vn h;exact uS (ih h1) (fW ih h2)
def jW {e:Hl}{t:GN Hl}{l:GP}{env:MR}(h:iJ e=false)(n:GP){Γ:Gam}{e':E}(hc:cE n Γ e=gV e'):swapsWith e t l env=pure false:=by
 cases n with
 | zero=>cases hc
 | succ n=>cases e <;> first|(exfalso; exact aH hc)|rfl|cases h
def pL (K:CtxOk M X Γ){n:GP}{elt:Hl}{gens:GD Comprehension}{scope:JZ}{p:Jq}{e':E}(h:cE (n+1) Γ (.ListComp elt gens scope p)=gV e') :
  ∃tg iter ifs fi g c f cap,gens=[#[tg,iter,ifs,0]]/\aA M e'=jP fi g c f cap/\GI X tg iter fi/\(X.Ok->∃cl,CompOk X scope cl (gx scope.names) cap/\BlockOk X scope cl (gx scope.names) tg elt ifs g c f)/\∀x,foldedSetIterable iter X.env x=pure x:=by
 match gens,h with
 | [#[tg,iter,ifs,asy]],h=>
  replace h:(if (asy==0)&&(vd Γ scope&&decide (ifs.length<=1))then match cI Γ (cE n Γ) tg iter,cT (gy Γ scope) tg,cA (cE n (gy Γ scope)) ifs,cE n (gy Γ scope) elt with|some it,gV t,gV cs,gV el=>gV (E.comp el t it cs (fU Γ scope.names))|_,_,_,_=>td else td)=gV e':=h
  split at h
  ·rename_i hc;rw[GQ,GQ,Hy]at hc;have e0:asy=0:=eq_of_beq hc.1;subst e0;replace hc:=hc.2;split at h
   ·rename_i it t cs el h1 h2 h3 h4;cases h;have sc:=qS hc.1;show#[tg,iter,ifs,_,_,_,_,_,rfl,rfl,pK K (λz=>(bA n K z).1) h1,λok=>#[_,lA K ok sc,?_],mK (n:=n) (λel k p=>by cases n <;> rfl) h1]
    show#[λC s0 H0 ex=>oq (eF K sc C s0 H0 ex) h2,λC s0 H0 ex J s Y H Q I q=>?_,λC s0 H0 ex=>(bA n (eF K sc C s0 H0 ex) h4).1]
    exact ou hc.2 h3 (λz=>(bA n (eF K sc C s0 H0 ex) z).2) rfl J s Y H Q I q
   ·cases h
  ·cases h
 | [],h=>exact aH h
 | #[_,_,_,_]::_::_,h=>exact aH h
def DH (K:CtxOk M X Γ){x:Hc}{px pos:Jq}{e:Hl}{i:GP}{e':E}(hi:cY Γ x=gV i)(he:cE bF Γ e=gV e'):GS X (.Assign [.Name x px] e pos) (jN (aA M e') (z5 i)):=by
 obtain⟨a,b,c⟩:=mN K hi;have hN:X.N.Nodup:=by rw[K.N]; exact K.nd
 have plain:swapsWith e (gV (.Name x px)) pos.line X.env=pure false->GS X (.Assign [.Name x px] e pos) (jN (aA M e') (z5 i)):=λhs=>mH (bA _ K he).1 (qM hN a b c) hs (by cases e <;> rfl) rfl
 cases hc:iJ e with
 | false=>exact plain (jW hc _ he)
 | true=>
  cases e with
  | ListComp elt gens scope p=>
   cases hsw:(X.env.blockKind==.function&&X.env.kindOf x==gV .local&&px.line==p.line && !(scope.names.any λ(n,k)=>n==x&&(k==.local||k==.cell)))with
   | false=>
    show plain ?_;show(pure (X.env.blockKind==.function&&X.env.kindOf x==gV .local&&px.line==p.line && !(scope.names.any λ(n,k)=>n==x&&(k==.local||k==.cell))):O4 Hj)=pure false
    rw[hsw]
   | true=>
    have hsw':swapsWith (.ListComp elt gens scope p) (gV (.Name x px)) pos.line X.env=pure true:=by
     show(pure (X.env.blockKind==.function&&X.env.kindOf x==gV .local&&px.line==p.line && !(scope.names.any λ(n,k)=>n==x&&(k==.local||k==.cell))):O4 Hj)=pure true
     rw[hsw]
    rw[GQ,GQ,GQ]at hsw;have hl:X.env.scope.names.lookup x=gV .local:=eq_of_beq hsw.1.1.2;obtain⟨tg,iter,ifs,fi,g,c',f,cap,rfl,e2,gi,hck,hs⟩:=pL K he;rw[e2];exact pH K.calm gi hck hs hsw' hN a hl
  | _=>cases hc
def ow (K:CtxOk M X Γ){x y:Hc}{px py pt pt2:Jq}{kt k2:GP}{a b:Hl}(hxy:x≠y)(hx:Γ.sc.lookup x=gV .local)(hy:Γ.sc.lookup y=gV .local)(hl:(py.line==px.line)=true)(h1:[a,b].all (foldedForSure 8)=false)(h2:[a,b].all (constantsAlone 8)=false)(hs:fJ a=true)(hs2:fJ b=true) :
  swappedStores [.Tuple [.Name x px,.Name y py] kt pt] (.Tuple [a,b] k2 pt2) X.env=pure (gV [x,y]):=by
 have kx:(X.env.kindOf x==gV .local)=true:=by unfold KB; rw[K.names,hx]; rfl
 have ky:(X.env.kindOf y==gV .local)=true:=by unfold KB; rw[K.names,hy]; rfl
 have bk:(X.env.blockKind != .function)=false:=by
  unfold OQ;rw[K.kind];rfl
 have hp:(px.line==px.line)=true:=by simp
 have ed:([x,y].eraseDups.length != [x,y].length)=false:=by
  have:(y==x)=false:=by simpa using Ne.symm hxy
  simp[K8,this]
 have kx':X.env.kindOf x=gV .local:=eq_of_beq kx;have ky':X.env.kindOf y=gV .local:=eq_of_beq ky;have hl':py.line=px.line:=eq_of_beq hl;have bk':X.env.blockKind=.function:=by simpa using bk
 have yx:(y==x)=false:=by simpa using Ne.symm hxy
 have h1':(foldedForSure 8 a&&foldedForSure 8 b)=false:=by simpa using h1
 have h2':(constantsAlone 8 a&&constantsAlone 8 b)=false:=by simpa using h2
 unfold swappedStores;simp only[Jw,OZ,MU,JS,Nf,kx',ky',bk',Od,HA,LO,HK,IT,HF,O0,LD,h1',h2'];show Eq.trans (HD ?_) (Eq.trans (HD ?_) ?_)
 ·decide
 ·rw[IK];rintro(hh|hh)
  ·clear h1 h2 h1' h2';cases a <;> first|(cases hh; done)|(cases hs; done)
  ·clear h1 h2 h1' h2';cases b <;> first|(cases hh; done)|(cases hs2; done)
 ·dsimp only[PQ]; simp[hl',yx,K8]
def ox (K:CtxOk M X Γ){x y z:Hc}{px py pz pt pt2:Jq}{kt k2:GP}{a b c:Hl}(hxy:x≠y)(hxz:x≠z)(hyz:y≠z)(hx:Γ.sc.lookup x=gV .local)(hy:Γ.sc.lookup y=gV .local)(hz:Γ.sc.lookup z=gV .local)(hl:(py.line==px.line)=true)(hm:(pz.line==px.line)=true)(h1:[a,b,c].all (foldedForSure 8)=false)(h2:[a,b,c].all (constantsAlone 8)=false)(hs:[a,b,c].all fJ=true) :
  swappedStores [.Tuple [.Name x px,.Name y py,.Name z pz] kt pt] (.Tuple [a,b,c] k2 pt2) X.env=pure (gV [x,y,z]):=by
 have kx':X.env.kindOf x=gV .local:=by unfold KB; rw[K.names,hx]
 have ky':X.env.kindOf y=gV .local:=by unfold KB; rw[K.names,hy]
 have kz':X.env.kindOf z=gV .local:=by unfold KB; rw[K.names,hz]
 have bk':X.env.blockKind=.function:=by
  unfold OQ;rw[K.kind];rfl
 have hl':py.line=px.line:=eq_of_beq hl;have hm':pz.line=px.line:=eq_of_beq hm;have yx:(y==x)=false:=by simpa using Ne.symm hxy
 have zx:(z==x)=false:=by simpa using Ne.symm hxz
 have zy:(z==y)=false:=by simpa using Ne.symm hyz
 have h1':(foldedForSure 8 a&&(foldedForSure 8 b&&foldedForSure 8 c))=false:=by simpa [Ms]using h1
 have h2':(constantsAlone 8 a&&(constantsAlone 8 b&&constantsAlone 8 c))=false:=by simpa [Ms]using h2
 rw[HF,HF,HF,GQ,GQ,GQ]at hs;obtain⟨hs1,hs2,hs3,_⟩:=hs;unfold swappedStores;simp only[Jw,OZ,MU,JS,Nf,kx',ky',kz',bk',Od,HA,LO,HK,IT,HF,O0,LD,h1',h2'];show Eq.trans (HD ?_) (Eq.trans (HD ?_) ?_)
 ·decide
 ·rw[IK,IK];rintro(hh|hh|hh)
  ·clear h1 h2 h1' h2';cases a <;> first|(cases hh; done)|(cases hs1; done)
  ·clear h1 h2 h1' h2';cases b <;> first|(cases hh; done)|(cases hs2; done)
  ·clear h1 h2 h1' h2';cases c <;> first|(cases hh; done)|(cases hs3; done)
 ·dsimp only[PQ]; simp[hl',hm',yx,zx,zy,K8]
def y4 (fuel:GP)(K:CtxOk M X Γ):∀(n:GP) {st:JR} {s':Sm},cS n Γ st=gV s'->GS X st (fj M fuel s'):=by
 have hN:X.N.Nodup:=by rw[K.N]; exact K.nd
 have own:MK (model X.prog X.w) X.A X.env X.xe:=by rw[K.xe]; exact PK
 intro n
 induction n with
 | zero=>intro st s' h; cases h
 | succ n ih=>
  intro st s' h;cases st with
  | Expr e p=>
   replace h:(if z8 e then gV Sm.pass else if iJ e then td else(cE bF Γ e).map Sm.ex)=gV s':=h
   split at h
   ·rename_i hd;cases h;cases e with
    | Constant c k q=>
     cases c with
     | str x=>exact BE
     | _=>cases hd
    | _=>cases hd
   ·split at h
    ·cases h
    ·rename_i hd hc;rw[GM]at h;obtain⟨e',h1,rfl⟩:=h;exact Dv (bA _ K h1).1 (jW (by simpa using hc) _ h1)
  | Return o p=>
   cases o with
   | none=>cases h
   | some e=>
    replace h:(cE bF Γ e).map Sm.ret=gV s':=h;rw[GM]at h;obtain⟨e',h1,rfl⟩:=h;exact BF (bA _ K h1).1
  | Pass p=>cases h; exact yB
  | If t a b p=>
   replace h:(match cE bF Γ t,qV (cS n Γ) a,qV (cS n Γ) b with|some t',gV a',gV b'=>gV (Sm.ite t' a' b')|_,_,_=>td)=gV s':=h
   split at h
   ·rename_i t' a' b' h1 h2 h3;cases h;exact Dw (bA _ K h1).2 (fW ih h2) (fW ih h3)
   ·cases h
  | While t b o p=>
   cases o with
   | cons _ _=>exact aH h
   | nil=>
    replace h:(match cE bF Γ t,qV (cS n Γ) b with|some t',gV b'=>gV (Sm.whl t' b')|_,_=>td)=gV s':=h
    split at h
    ·rename_i t' b' h1 h2;cases h;exact uU fuel own (bA _ K h1).2 (fW ih h2)
    ·cases h
  | For tg it b o p=>
   cases o with
   | cons _ _=>exact aH h
   | nil=>
    replace h:(match cT Γ tg,cI Γ (cE bF Γ) tg it,qV (cS n Γ) b with|some t,gV i,gV b'=>gV (Sm.loop t i b')|_,_,_=>td)=gV s':=h
    split at h
    ·rename_i t i b' h1 h2 h3;cases h;exact BM own K.calm (pK K (λz=>(bA _ K z).1) h2) (oq K h1) (fW ih h3) (mK (n:=bF) (λel k p=>rfl) h2)
    ·cases h
  | Assign ts e p=>
   match ts,h with
   | [],h=>exact aH h
   | a::_::_,h=>cases a <;> exact aH h
   | [t],h=>
    cases t with
    | Name x px=>
     replace h:(match cY Γ x,cE bF Γ e with|some i,gV e'=>gV (Sm.set i e')|_,_=>td)=gV s':=h
     split at h
     ·rename_i i e' h1 h2;cases h;exact DH K h1 h2
     ·cases h
    | Subscript o k q=>
     replace h:(if qU k then td else match cE bF Γ o,cE bF Γ k,cE bF Γ e with|some o',gV k',gV e'=>gV (Sm.put o' k' e')|_,_,_=>td)=gV s':=h
     split at h
     ·cases h
     ·rename_i hc;split at h
      ·rename_i o' k' e' h1 h2 h3;cases h;show mH (bA _ K h3).1 (BH (by have:=K.un; have:fB=20:=rfl; omega) (bA _ K h1).1 (bA _ K h2).1 ?_) (by cases e <;> rfl) (by cases e <;> rfl) rfl
       intro v;cases k <;> first|rfl|exact absurd rfl hc
      ·cases h
    | Tuple ts' k q=>
     have par:∀ {x y:Hc} {px py:Jq} {a b:Pw} {k2:GP} {q2:Jq},(match Γ.N.findIdx? (· == x),Γ.N.findIdx? (· == y),cA (cE bF Γ) [a,b]with
       | some i,gV j,gV es=>if !(i==j)&&(Γ.sc.lookup x==gV .local)&&(Γ.sc.lookup y==gV .local)&&(py.line==px.line) && !([a,b].all (foldedForSure 8)) && !([a,b].all (constantsAlone 8))then gV (Sm.par i j es)else td
       | _,_,_=>td)=gV s'->GS X (.Assign [.Tuple [.Name x px,.Name y py] k q] (.Tuple [a,b] k2 q2) p) (fj M fuel s'):=λ{x y px py a b k2 q2} h=>by
      split at h
      ·rename_i i j es h1 h2 h3;split at h
       ·rename_i hc;cases h;rw[GQ,GQ,GQ,GQ,GQ]at hc;obtain⟨⟨⟨⟨⟨c1,c2⟩,c3⟩,c4⟩,c5⟩,c6⟩:=hc;have hij:i≠j:=by simpa using c1
        have ns:=b6 h3;rw[HF,HF,GQ,GQ]at ns;have hi:X.N[i]?=gV x:=by rw[K.N]; exact bI h1
        have hj:X.N[j]?=gV y:=by rw[K.N]; exact bI h2
        show BI K.calm hN hi hj hij (by rw[K.names]; exact eq_of_beq c2) (by rw[K.names]; exact eq_of_beq c3) (cZ (λz=>(bA _ K z).1) h3) (ow K ?_ (eq_of_beq c2) (eq_of_beq c3) c4 (by rw[<- Jc]; exact c5) (by rw[<- Jc]; exact c6) ns.1 ns.2.1) rfl
        rintro rfl;rw[h1]at h2;cases h2;exact hij rfl
       ·cases h
      ·cases h
     replace h:(if isTup e then BU Γ ts' e else if iJ e then td else match BR Γ ts',cE bF Γ e with|some is,gV e'=>gV (Sm.asg is e')|_,_=>td)=gV s':=h
     have pr3:∀ {x y z:Hc} {px py pz:Jq} {a b c:Pw} {k2:GP} {q2:Jq},(match Γ.N.findIdx? (· == x),Γ.N.findIdx? (· == y),Γ.N.findIdx? (· == z),cA (cE bF Γ) [a,b,c]with
       | some i,gV j,gV l,gV es=>if !(i==j) && !(i==l) && !(j==l)&&(Γ.sc.lookup x==gV .local)&&(Γ.sc.lookup y==gV .local)&&(Γ.sc.lookup z==gV .local)&&(py.line==px.line)&&(pz.line==px.line) && !([a,b,c].all (foldedForSure 8)) && !([a,b,c].all (constantsAlone 8))then gV (Sm.pr3 i j l es)else td
       | _,_,_,_=>td)=gV s'->GS X (.Assign [.Tuple [.Name x px,.Name y py,.Name z pz] k q] (.Tuple [a,b,c] k2 q2) p) (fj M fuel s'):=λ{x y z px py pz a b c k2 q2} h=>by
      split at h
      ·rename_i i j l es h1 h2 h3 h4;split at h
       ·rename_i hc;cases h;rw[GQ,GQ,GQ,GQ,GQ,GQ,GQ,GQ,GQ]at hc;obtain⟨⟨⟨⟨⟨⟨⟨⟨⟨c1,c2⟩,c3⟩,c4⟩,c5⟩,c6⟩,c7⟩,c8⟩,c9⟩,c10⟩:=hc;have hij:i≠j:=by simpa using c1
        have hil:i≠l:=by simpa using c2
        have hjl:j≠l:=by simpa using c3
        show BK K.calm hN (by rw[K.N]; exact bI h1) (by rw[K.N]; exact bI h2) (by rw[K.N]; exact bI h3) hij hil hjl (by rw[K.names]; exact eq_of_beq c4) (by rw[K.names]; exact eq_of_beq c5) (by rw[K.names]; exact eq_of_beq c6) (cZ (λz=>(bA _ K z).1) h4)
         (ox K ?_ ?_ ?_ (eq_of_beq c4) (eq_of_beq c5) (eq_of_beq c6) c7 c8 (by rw[<- Jc]; exact c9) (by rw[<- Jc]; exact c10) (b6 h4)) rfl
        ·rintro rfl; rw[h1]at h2; cases h2; exact hij rfl
        ·rintro rfl; rw[h1]at h3; cases h3; exact hil rfl
        ·rintro rfl; rw[h2]at h3; cases h3; exact hjl rfl
       ·cases h
      ·cases h
     split at h
     ·rename_i ht;unfold BU at h;split at h
      ·rename_i hf;split at h
       ·rename_i is e' h1 h2;cases h;cases e with
        | Tuple vs k2 q2=>
         exact mH (bA _ K h2).1 (oq (tg:=.Tuple ts' k q) (t:=.tp is) K (by(dsimp only[cT]; simp[h1]))) rfl (jO hf) rfl
        | _=>cases ht
       ·cases h
      ·split at h
       ·unfold DF at h;split at h
        ·exact pr3 h
        ·cases h
       ·unfold DE at h;split at h
        ·exact par h
        ·cases h
     ·split at h
      ·cases h
      ·rename_i hc1 hc2;split at h
       ·rename_i is e' h1 h2;cases h;show mH (bA _ K h2).1 (oq (tg:=.Tuple ts' k q) (t:=.tp is) K (by(dsimp only[cT]; simp[h1]))) (jW (t:=gV (.Tuple ts' k q)) (l:=p.line) (env:=X.env) (by simpa using hc2) _ h2) ?_ rfl
        cases e <;> first|rfl|exact absurd rfl hc1
       ·cases h
    | _=>exact aH h
  | _=>exact aH h
end
structure Df where
 ps:GD Hc
 N:GD Hc
 body:Ss
abbrev eQ (N:GD Hc)(ws:GD W):Fm:=ws.map gV++HU (N.length - ws.length) td
abbrev am (defs:GD (Hc×Df))(fuel:GP):GP->Hc->FF
 | 0,_,_,_=>td
 | d+1,f,ws,S=>match defs.lookup f with
  | some df=>if ws.length=df.ps.length then match fH (am defs fuel d) fuel df.body (eQ df.N ws) S with
    | some (.rt w,S')=>gV (w,S')
    | some (.nx _,S')=>gV (.non,S')
    | _=>td
   else td
  | none=>td
structure Md where
 fns:GD (Hc×GP)
 blt:GD Hc
abbrev vo (Mqa:Md)(st:JR)(N:GD Hc):Gam:={ sc:=(aR st).names,N:=N,fns:=Mqa.fns,blt:=Mqa.blt,dfn:=true,own:=[] }
abbrev DI (Mqa:Md)(st:JR)(df:Df):Prop:=qV (cS 20 (vo Mqa st df.N)) (cr st)=gV df.body
def lB {K:G4}{A:GD GU}{H:Hp}{ws:GD W}{vs:GD V}{N:GD Hc}(r:RelL K A H ws vs):EnvRel K A H (eQ N ws) (fu N vs):=by
 show#[by simp[eQ,L2.fu,r.length],λi w h=>?_]
 unfold eQ at h;unfold L2.fu
 by_cases hi:i < ws.length
 ·rw[HC (by simpa using hi),GV]at h
  rw[HC (by rw[GF,<- r.length]; exact hi),GV]
  cases q:ws[i]? with
  | none=>rw[q]at h; cases h
  | some w'=>
   rw[q]at h;simp only[HA,HV]at h;subst h;obtain⟨v,h1,h2⟩:=r.get q;exact#[v,by rw[h1]; rfl,h2]
 ·rw[HN (by simpa using hi)]at h
  have:=G7 h;simp at this
section
variable{P:Hx}{w:HL}{K:G4}{mg:Hc->GN GK}{base:HX}
abbrev z9 (P:Hx)(w:HL)(K:G4)(mg:Hc->GN GK)(base:HX)(Mqa:Md)(defs:GD (Hc×Df))(fuel d:GP):Prop:=
 ∀f n,Mqa.fns.lookup f=gV n->∃fa fd ps,FnOk P w K mg base sW d fa fd ps (spF w K n (am defs fuel d f))/\mg f=gV (.ref fa)/\Iz K (.ref fa)=true/\Binds K fd ps []
structure MdOk (w:HL)(K:G4)(mg:Hc->GN GK)(Mqa:Md):Prop where
 blt:∀y∈Mqa.blt,mg y=td
def Aa {Mqa:Md}{defs:GD (Hc×Df)}{fuel d:GP}{x qual:Hc}{st:JR}{f:GU}{fd:Jz}{df:Df}(F:Fun K x qual st f fd)(S:FnScope df.N df.ps (aR st))(hd:defs.lookup x=gV df)(hc:DI Mqa st df)
  (hb:MdOk w K mg Mqa) (prev:z9 P w K mg base Mqa defs fuel d):FnOk P w K mg base sW (d+1) f fd df.ps (spF w K df.ps.length (am defs fuel (d+1) x)):=by
 show F.ok S (λvs H Q E h=>?_) (λcdv A outer s H vs Q E hr h=>?_)
 ·obtain⟨A,S,ws,w',S',_,rl,hl,_⟩:=h;rw[<- rl.length]; exact hl
 ·obtain⟨A',St,ws,w',S',so,rl,hl,e,hq⟩:=h;have K':CtxOk (am defs fuel d) (pc sW P w K mg base df.N qual (aR st) f cdv A outer s H E).nox (vo Mqa st df.N):=by
   show#[rfl,S.kind,rfl,S.nd,rfl,rfl,?_,λ_ _=>rfl,λ_ h=>(nomatch h),hb.blt,λg n hg=>?_]
   ·have:=hr.un;show(A.deeper _).units+20 < cLine;omega
   ·obtain⟨fa,fd',ps',h1,h2,h3,h4⟩:=prev g n hg;exact#[d,fa,fd',ps',h1,hr,h2,h3,h4]
  show#[tS _ (fH (am defs fuel d) fuel df.body),fW (λz=>y4 fuel K' 20 z) hc,?_]
  (dsimp only[am]at e; simp only[hd]at e)
  rw[Ho hl]at e;split at e
  ·rename_i w1 S1 h1;cases e;show#[A',eQ df.N ws,St,_,_,lB rl,so,h1,#[λY' H' #[_,_,z,_,_,_]=>(by cases z),λv H' #[w2,A2,z0,z1,z2,z3]=>?_,λY' H' #[_,_,z,_,_,_]=>(by cases z),λY' H' #[_,_,z,_,_,_]=>(by cases z)]]
   cases z0;exact hq v H' #[A2,z1,z2,z3]
  ·rename_i Z1 S1 h1;cases e;show#[A',eQ df.N ws,St,_,_,lB rl,so,h1,#[λY' H' #[w2,A2,z0,z1,z2,z3]=>?_,λY' H' #[_,_,z,_,_,_]=>(by cases z),λY' H' #[_,_,z,_,_,_]=>(by cases z),λY' H' #[_,_,z,_,_,_]=>(by cases z)]]
   exact hq _ H' #[A2,z1,z2,.non]
  ·cases e
def sD {H:Hp}{a:GU}{ns:GD G0}(hO:t8 H)(hS:SqL K H a (ns.map V.int)):StoreOk w K [a] H [.fro (ns.map W.int)]/\RelL K [a] H [.ref 0] [.ref a]:=by
 have rl:∀ns:GD G0,RelL K [a] H (ns.map W.int) (ns.map V.int):=by
  intro ns
  induction ns with
  | nil=>exact .nil
  | cons n ns ih=>exact .cons .int ih
 have fr:FroL K H a (ns.map V.int):=by
  rcases hS with(h|⟨o,h⟩)|h
  ·rcases hO a with z|⟨o,xs,z⟩ <;> (rw[z]at h; cases h)
  ·exact .inl #[o,h]
  ·exact .inr h
 show#[#[rfl,λi j b o u e1 m1 e2 m2 _ _=>?_,λi o b e1 e2=>?_],.cons (.ref rfl) .nil]
 ·cases i with
  | zero=>simp at e1; subst e1; cases m1
  | succ i=>simp at e1
 ·cases i with
  | zero=>
   simp at e1 e2;subst e1 e2;exact#[_,fr,rl ns]
  | succ i=>simp at e1
def BV {g:FF}{H:Hp}{a:GU}{ns:GD G0}(h:∃S',g [.ref 0] [.fro (ns.map W.int)]=gV (.bl true,S'))(hO:t8 H)(hS:SqL K H a (ns.map V.int)):spF w K 1 g [.ref a] H (λv _=>v=.bl true) λ_ _ _=>Iq:=by
 obtain⟨S',e⟩:=h;obtain⟨so,rl⟩:=sD hO hS;exact#[[a],_,_,_,S',so,rl,rfl,e,λv H' #[A',z1,z2,z3]=>by cases z3; rfl]
end
abbrev Wp {α:Type}(o:GN α)(Q:α->Prop):Prop:=∃a,o=gV a/\Q a
def af {α:Type}{a:α}{Q:α->Prop}:Wp (gV a) Q↔Q a:=#[λ#[b,e,h]=>(by cases e; exact h),λh=>#[a,rfl,h]]
def ah {α:Type}{Q:α->Prop}:Wp (td:GN α) Q↔Iq:=#[λ#[b,e,h]=>(by cases e),λh=>h.elim]
def Wp.mono {α:Type}{o:GN α}{Q Q':α->Prop}(h:Wp o Q)(k:∀a,Q a->Q' a):Wp o Q':=let ⟨a,e,q⟩:=h; #[a,e,k a q]
section
variable{M:Hc->FF}{fuel:GP}{Z:Fm}{S:aa}
noncomputable abbrev QW:=W×aa->Prop
def Gw {w:W}{Q:QW}:Wp (aA M (.c w) Z S) Q↔Q (w,S):=by(dsimp only[aA]; simp[fC,af,ah])
def Ge {i:GP}{Q:QW}:Wp (aA M (.v i) Z S) Q↔∃w,Z[i]?=gV (gV w)/\Q (w,S):=by
 (dsimp only[aA]; simp only[fV])
 rcases h:Z[i]? with _|_|w <;> simp[af,ah]
def vp {g:W->W->aa->GN (W×aa)}{a b:FE}{Q:QW}:Wp (yk g a b Z S) Q↔Wp (a Z S) λp=>Wp (b Z p.2) λq=>Wp (g p.1 q.1 q.2) Q:=by
 unfold yk;rcases h:a Z S with _|⟨x,S1⟩
 ·simp[af,ah]
 ·rcases h2:b Z S1 with _|⟨y,S2⟩ <;> simp[af,ah,h2]
def FK {o:BOp}{a b:E}{Q:QW}:Wp (aA M (.op o a b) Z S) Q↔Wp (aA M a Z S) λp=>Wp (aA M b Z p.2) λq=>Wp (ij o p.1 q.1 q.2) Q:=by dsimp only[aA]; exact vp
def Ab {o:COp}{a b:E}{Q:QW}:Wp (aA M (.cmp o a b) Z S) Q↔Wp (aA M a Z S) λp=>Wp (aA M b Z p.2) λq=>Wp (aJ o p.1 q.1 q.2) Q:=by dsimp only[aA]; exact vp
def FL {a b:E}{Q:QW}:Wp (aA M (.ix a b) Z S) Q↔Wp (aA M a Z S) λp=>Wp (aA M b Z p.2) λq=>Wp (gW p.1 q.1 q.2) Q:=by dsimp only[aA]; exact vp
def DJ {a b:E}{Q:QW}:Wp (aA M (.and a b) Z S) Q↔Wp (aA M a Z S) λp=>∃k,p.1=.bl k/\(k=true->Wp (aA M b Z p.2) Q)/\(k=false->Q (.bl false,p.2)):=by
 (dsimp only[aA]; dsimp only[qI])
 rcases h:aA M a Z S with _|⟨x,S1⟩
 ·simp[af,ah]
 ·cases x <;> simp[af,ah]
  rename_i b; cases b <;> simp[af,ah]
def FM {a b:E}{Q:QW}:Wp (aA M (.or a b) Z S) Q↔Wp (aA M a Z S) λp=>∃k,p.1=.bl k/\(k=true->Q (.bl true,p.2))/\(k=false->Wp (aA M b Z p.2) Q):=by
 (dsimp only[aA]; dsimp only[yq])
 rcases h:aA M a Z S with _|⟨x,S1⟩
 ·simp[af,ah]
 ·cases x <;> simp[af,ah]
  rename_i b; cases b <;> simp[af,ah]
def DK {a:E}{Q:QW}:Wp (aA M (.not a) Z S) Q↔Wp (aA M a Z S) λp=>∃k,p.1=.bl k/\Q (.bl (!k),p.2):=by
 (dsimp only[aA]; dsimp only[qJ])
 rcases h:aA M a Z S with _|⟨x,S1⟩
 ·simp[af,ah]
 ·cases x <;> simp[af,ah]
  rename_i k; cases k <;> simp
def DL {t a b:E}{Q:QW}:Wp (aA M (.ite t a b) Z S) Q↔Wp (cK M t Z S) λp=>(p.1=true->Wp (aA M a Z p.2) Q)/\(p.1=false->Wp (aA M b Z p.2) Q):=by
 (dsimp only[aA]; simp only[yr])
 rcases h:cK M t Z S with _|⟨x,S1⟩
 ·simp[af,ah]
 ·cases x <;> simp[af,ah]
def Ac {f:Hc}{n:GP}{es:Es}{Q:QW}:Wp (aA M (.own f n es) Z S) Q↔Wp (cL M es Z S) λp=>p.1.length=n/\Wp (M f p.1 p.2) Q:=by
 (dsimp only[aA]; dsimp only[n0])
 rcases h:cL M es Z S with _|⟨x,S1⟩
 ·simp[af,ah]
 ·by_cases hl:x.length=n <;> simp[af,ah,hl]
def DM {b:Bi}{es:Es}{Q:QW}:Wp (aA M (.bi b es) Z S) Q↔Wp (cL M es Z S) λp=>Wp (b.fn p.1 p.2) Q:=by
 (dsimp only[aA]; dsimp only[i7])
 rcases h:cL M es Z S with _|⟨x,S1⟩ <;> simp[af,ah]
def FN {m:Me}{o:E}{es:Es}{Q:QW}:Wp (aA M (.me m o es) Z S) Q↔Wp (aA M o Z S) λp=>tyOk m.ty p.2 p.1=true/\Wp (cL M es Z p.2) λq=>Wp (m.fn p.1 q.1 q.2) Q:=by
 (dsimp only[aA]; dsimp only[CD])
 rcases h:aA M o Z S with _|⟨x,S1⟩
 ·simp[af,ah]
 ·by_cases ht:tyOk m.ty S1 x=true
  ·rcases h2:cL M es Z S1 with _|⟨y,S2⟩ <;> simp[af,ah,ht,h2]
  ·simp[af,ah,ht]
def FP {a:E}{lo hi:Ep}{Q:QW}:Wp (aA M (.sl a lo hi) Z S) Q↔Wp (aA M a Z S) λp=>Wp (qO M lo Z p.2) λq=>Wp (qO M hi Z q.2) λr=>Wp (fR p.1 q.1 r.1 r.2) Q:=by
 (dsimp only[aA]; dsimp only[Ds])
 rcases h:aA M a Z S with _|⟨x,S1⟩
 ·simp[af,ah]
 ·rcases h2:qO M lo Z S1 with _|⟨y,S2⟩
  ·simp[af,ah,h2]
  ·rcases h3:qO M hi Z S2 with _|⟨z,S3⟩ <;> simp[af,ah,h2,h3]
def FQ {Q:GN G0×aa->Prop}:Wp (qO M .no Z S) Q↔Q (td,S):=by(dsimp only[qO]; simp[BA,af,ah])
def DN {a:E}{Q:GN G0×aa->Prop}:Wp (qO M (.yes a) Z S) Q↔Wp (aA M a Z S) λp=>∃i,p.1=.int i/\Q (gV i,p.2):=by
 (dsimp only[qO]; simp only[qL])
 rcases h:aA M a Z S with _|⟨x,S1⟩
 ·simp[af,ah]
 ·cases x <;> simp[af,ah]
def DO {es:Es}{Q:QW}:Wp (aA M (.tup es) Z S) Q↔Wp (cL M es Z S) λp=>p.1.length<=sizeLine/\Q (.tup p.1,p.2):=by
 (dsimp only[aA]; (dsimp only[uO]; simp only[ph]))
 rcases h:cL M es Z S with _|⟨x,S1⟩
 ·simp[af,ah]
 ·by_cases hl:x.length<=sizeLine <;> simp[af,ah,hl]
def DP {es:Es}{Q:QW}:Wp (aA M (.lst es) Z S) Q↔Wp (cL M es Z S) λp=>p.1.length<=sizeLine/\Q (.ref p.2.length,p.2++[.lst p.1]):=by
 (dsimp only[aA]; (dsimp only[uP]; simp only[kG]))
 rcases h:cL M es Z S with _|⟨x,S1⟩
 ·simp[af,ah]
 ·by_cases hl:x.length<=sizeLine <;> simp[af,ah,hl]
def Ad {c:Iw}{a:E}{Q:QW}:Wp (aA M (.isi c a) Z S) Q↔Wp (aA M a Z S) λp=>∃k,sv p.2 p.1 c=gV k/\Q (.bl k,p.2):=by
 (dsimp only[aA]; simp only[uX])
 rcases h:aA M a Z S with _|⟨x,S1⟩
 ·simp[af,ah]
 ·cases h2:sv S1 x c <;> simp[af,ah,h2]
  rename_i k; cases k <;> simp
def DQ {a:E}{Q:QW}:Wp (aA M (.neg a) Z S) Q↔Wp (aA M a Z S) λp=>∃i,p.1=.int i/\Q (.int (-i),p.2):=by
 (dsimp only[aA]; simp only[uI])
 rcases h:aA M a Z S with _|⟨x,S1⟩
 ·simp[af,ah]
 ·cases x <;> simp[af,ah]
def BW {es:Es}{Q:QW}:Wp (aA M (.disp es) Z S) Q↔Wp (cL M es Z (S++[.dic []])) λp=>p.2[S.length]?=gV (.dic [])/\∃U,gD [] p.1=gV U/\Q (.ref S.length,p.2.set S.length (.dic U)):=by
 have e:aA M (.disp es) Z S=og (cL M es) Z S:=by dsimp only[aA]
 rw[e];unfold og;cases cL M es Z (S++[.dic []])with
 | none=>simp[ah]
 | some p=>
  obtain⟨x,S1⟩:=p;simp only[af];cases h2:S1[S.length]? with
  | none=>simp[ah]
  | some o=>
   cases o with
   | lst _=>simp[ah]
   | fro _=>simp[ah]
   | frd _=>simp[ah]
   | rng _ _=>simp[ah]
   | dic U=>
    cases U with
    | nil=>cases h3:gD [] x <;> simp[af,ah]
    | cons a b=>simp[ah]
def Ae {o o':COp}{a b d:E}{Q:QW}(h:Wp (aA M a Z S) λp=>Wp (aA M b Z p.2) λq=>∃k,rT o p.1 q.1 q.2=gV k/\(k=true->Wp (aA M d Z q.2) λr=>Wp (dB o' q.1 r.1 r.2) Q)/\(k=false->Q (.bl false,q.2))):Wp (aA M (.chn o o' a b d) Z S) Q:=by
 obtain⟨⟨x,S1⟩,e1,⟨y,S2⟩,e2,k,e3,h1,h2⟩:=h;have e:aA M (.chn o o' a b d) Z S=fF o o' (aA M a) (aA M b) (aA M d) Z S:=by dsimp only[aA]
 rw[e];unfold fF;rw[e1];dsimp only;rw[e2];dsimp only;rw[e3];cases k with
 | false=>exact#[_,rfl,h2 rfl]
 | true=>
  obtain⟨⟨z,S3⟩,e4,⟨r,e5,q⟩⟩:=h1 rfl;dsimp only;rw[e4];exact#[_,e5,q]
def DR {Q:GD W×aa->Prop}:Wp (cL M .nil Z S) Q↔Q ([],S):=by(dsimp only[cL]; (dsimp only[gY]; simp[af,ah]))
def BX {e:E}{es:Es}{Q:GD W×aa->Prop}:Wp (cL M (.cons e es) Z S) Q↔Wp (aA M e Z S) λp=>Wp (cL M es Z p.2) λq=>Q (p.1::q.1,q.2):=by
 (dsimp only[cL]; dsimp only[dz])
 rcases h:aA M e Z S with _|⟨x,S1⟩
 ·simp[af,ah]
 ·rcases h2:cL M es Z S1 with _|⟨y,S2⟩ <;> simp[af,ah,h2]
noncomputable abbrev QB:=Hj×aa->Prop
def Ag {f:FE}{Q:QB}:Wp (nX f Z S) Q↔Wp (f Z S) λp=>∃k,p.1=.bl k/\Q (k,p.2):=by
 unfold nX;rcases h:f Z S with _|⟨x,S1⟩
 ·simp[af,ah]
 ·cases x <;> simp[af,ah]
  rename_i k; cases k <;> simp
def qW {f:FE}{Q:QB}:Wp (ga f Z S) Q↔Wp (f Z S) λp=>∃k,cX p.2 p.1=gV k/\Q (k,p.2):=by
 unfold ga;rcases h:f Z S with _|⟨x,S1⟩
 ·simp[af,ah]
 ·cases h2:cX S1 x <;> simp[af,ah,h2]
  rename_i k; cases k <;> simp
def DS {o:COp}{a b:E}{Q:QB}:Wp (cK M (.cmp o a b) Z S) Q↔Wp (aA M (.cmp o a b) Z S) λp=>∃k,p.1=.bl k/\Q (k,p.2):=by dsimp only[cK,aA]; exact Ag
def DT {o o':COp}{a b d:E}{Q:QB}:Wp (cK M (.chn o o' a b d) Z S) Q↔Wp (aA M (.chn o o' a b d) Z S) λp=>∃k,p.1=.bl k/\Q (k,p.2):=by dsimp only[cK,aA]; exact Ag
def DU {a b:E}{Q:QB}:Wp (cK M (.and a b) Z S) Q↔Wp (cK M a Z S) λp=>(p.1=true->Wp (cK M b Z p.2) Q)/\(p.1=false->Q (false,p.2)):=by
 (dsimp only[cK]; simp only[uM])
 rcases h:cK M a Z S with _|⟨x,S1⟩
 ·simp[af,ah]
 ·cases x <;> simp[af,ah]
def FR {a b:E}{Q:QB}:Wp (cK M (.or a b) Z S) Q↔Wp (cK M a Z S) λp=>(p.1=true->Q (true,p.2))/\(p.1=false->Wp (cK M b Z p.2) Q):=by
 (dsimp only[cK]; simp only[Dp])
 rcases h:cK M a Z S with _|⟨x,S1⟩
 ·simp[af,ah]
 ·cases x <;> simp[af,ah]
def DV {a:E}{Q:QB}:Wp (cK M (.not a) Z S) Q↔Wp (cK M a Z S) λp=>Q (!p.1,p.2):=by
 (dsimp only[cK]; simp only[yn])
 rcases h:cK M a Z S with _|⟨x,S1⟩ <;> simp[af,ah]
def Gx {i:GP}{Q:QB}:Wp (cK M (.v i) Z S) Q↔Wp (aA M (.v i) Z S) λp=>∃k,cX p.2 p.1=gV k/\Q (k,p.2):=by dsimp only[cK,aA]; exact qW
def DW {f:Hc}{n:GP}{es:Es}{Q:QB}:Wp (cK M (.own f n es) Z S) Q↔Wp (aA M (.own f n es) Z S) λp=>∃k,cX p.2 p.1=gV k/\Q (k,p.2):=by dsimp only[cK,aA]; exact qW
def FU {b:Bi}{es:Es}{Q:QB}:Wp (cK M (.bi b es) Z S) Q↔Wp (aA M (.bi b es) Z S) λp=>∃k,cX p.2 p.1=gV k/\Q (k,p.2):=by dsimp only[cK,aA]; exact qW
def DX {c:Iw}{a:E}{Q:QB}:Wp (cK M (.isi c a) Z S) Q↔Wp (aA M (.isi c a) Z S) λp=>∃k,cX p.2 p.1=gV k/\Q (k,p.2):=by dsimp only[cK,aA]; exact qW
noncomputable abbrev QO:=Out×aa->Prop
def DY {Q:QO}:Wp (fH M fuel .nil Z S) Q↔Q (.nx Z,S):=by(dsimp only[fH]; simp[af,ah])
def BY {s:Sm}{ss:Ss}{Q:QO}:Wp (fH M fuel (.cons s ss) Z S) Q↔Wp (fj M fuel s Z S) λp=>(∀Z',p.1=.nx Z'->Wp (fH M fuel ss Z' p.2) Q)/\((∀Z',p.1≠.nx Z')->Q p):=by
 (dsimp only[fH]; simp only[yz])
 rcases h:fj M fuel s Z S with _|⟨o,S1⟩
 ·simp[af,ah]
 ·cases o <;> simp[af,ah]
def vt {f:FE}{g:FG}{Q:QO}:Wp (jN f g Z S) Q↔Wp (f Z S) λp=>Wp (g p.1 Z p.2) λq=>Q (.nx q.1,q.2):=by
 unfold jN;rcases h:f Z S with _|⟨x,S1⟩
 ·simp[af,ah]
 ·rcases h2:g x Z S1 with _|⟨y,S2⟩ <;> simp[af,ah,h2]
def BZ {i:GP}{e:E}{Q:QO}:Wp (fj M fuel (.set i e) Z S) Q↔Wp (aA M e Z S) λp=>Q (.nx (Z.set i (gV p.1)),p.2):=by
 dsimp only[fj]; rw[vt]; simp[z5,af,ah]
def B0 {is:GD GP}{e:E}{Q:QO}:Wp (fj M fuel (.asg is e) Z S) Q↔Wp (aA M e Z S) λp=>∃ws Z',p.1=.tup ws/\cC is ws Z=gV Z'/\Q (.nx Z',p.2):=by
 dsimp only[fj]; rw[vt]
 constructor
 ·show λh=>h.mono λp hp=>?_
  obtain⟨w,S1⟩:=p;obtain⟨q,h1,h2⟩:=hp;cases w with
  | tup ws=>
   simp only[CF,GM]at h1;obtain⟨Z',h3,rfl⟩:=h1;exact#[ws,Z',rfl,h3,h2]
  | _=>cases h1
 ·show λh=>h.mono λp hp=>?_
  obtain⟨w,S1⟩:=p;obtain⟨ws,Z',h0,h1,h2⟩:=hp;subst h0;exact#[(Z',S1),by simp[CF,h1],h2]
def B1 {i j:GP}{es:Es}{Q:QO}:Wp (fj M fuel (.par i j es) Z S) Q↔Wp (cL M es Z S) λp=>∃x y,p.1=[x,y]/\Q (.nx ((Z.set i (gV x)).set j (gV y)),p.2):=by
 (dsimp only[fj]; dsimp only[yF])
 rcases h:cL M es Z S with _|⟨x,S1⟩
 ·simp[ah]
 ·match x with
  | []=>simp[af,ah]
  | [_]=>simp[af,ah]
  | [a,b]=>
   simp only[af];exact#[λh=>#[a,b,rfl,h],λ#[x,y,e,h]=>by cases e; exact h]
  | _::_::_::_=>simp[af,ah]
def B2 {i j l:GP}{es:Es}{Q:QO}(h:Wp (cL M es Z S) λp=>∃x y z,p.1=[x,y,z]/\Q (.nx (((Z.set i (gV x)).set j (gV y)).set l (gV z)),p.2)):Wp (fj M fuel (.pr3 i j l es) Z S) Q:=by
 obtain⟨⟨ws,S1⟩,e,x,y,z,rfl,q⟩:=h;exact#[_,by dsimp only[fj,yG]; rw[e],q]
def B3 {o k e:E}{Q:QO}:Wp (fj M fuel (.put o k e) Z S) Q↔Wp (aA M e Z S) λp=>Wp (aA M o Z p.2) λq=>Wp (aA M k Z q.2) λr=>∃S',jj q.1 r.1 p.1 r.2=gV S'/\Q (.nx Z,S'):=by
 dsimp only[fj]; rw[vt]
 rcases h:aA M e Z S with _|⟨x,S1⟩
 ·simp[af,ah]
 ·simp only[af];unfold yE;rcases h2:aA M o Z S1 with _|⟨y,S2⟩
  ·simp[af,ah]
  ·rcases h3:aA M k Z S2 with _|⟨z,S3⟩
   ·simp[af,ah,h3]
   ·cases h4:jj y z x S3 <;> simp[af,ah,h3,h4]
def DZ {e:E}{Q:QO}:Wp (fj M fuel (.ex e) Z S) Q↔Wp (aA M e Z S) λp=>Q (.nx Z,p.2):=by
 (dsimp only[fj]; simp only[yA])
 rcases h:aA M e Z S with _|⟨x,S1⟩ <;> simp[af,ah]
def B4 {e:E}{Q:QO}:Wp (fj M fuel (.ret e) Z S) Q↔Wp (aA M e Z S) λp=>Q (.rt p.1,p.2):=by
 (dsimp only[fj]; simp only[yC])
 rcases h:aA M e Z S with _|⟨x,S1⟩ <;> simp[af,ah]
def B5 {t:E}{a b:Ss}{Q:QO}:Wp (fj M fuel (.ite t a b) Z S) Q↔Wp (cK M t Z S) λp=>(p.1=true->Wp (fH M fuel a Z p.2) Q)/\(p.1=false->Wp (fH M fuel b Z p.2) Q):=by
 (dsimp only[fj]; simp only[yD])
 rcases h:cK M t Z S with _|⟨x,S1⟩
 ·simp[af,ah]
 ·cases x <;> simp[af,ah]
abbrev vw (I:Fm->aa->Prop)(Q:QO)(o:Out×aa):Prop:=match o.1 with
 | .nx Z'=>I Z' o.2
 | .ct Z'=>I Z' o.2
 | .bk Z'=>Q (.nx Z',o.2)
 | .rt w=>Q (.rt w,o.2)
def iK {mi:MI}{g:FG}{b:FS}{xs:GD W}{Q:QO}(I:GP->Fm->aa->Prop)(hat:∀i Z S,I i Z S->mi.at S i=gV xs[i]?)
  (hstep:∀i w Z S,xs[i]?=gV w->I i Z S->Wp (g w Z S) λq=>Wp (b q.1 q.2) (vw (I (i+1)) Q)) (hend:∀Z S,I xs.length Z S->Q (.nx Z,S)):∀(n i:GP) (Z:Fm) (S:aa),i+n=xs.length->I i Z S->Wp (fG mi g b n i Z S) Q
 | 0,i,Z,S,hl,hI=>by
  have e:mi.at S i=gV td:=by rw[hat i Z S hI,JE ∅]
  simp only[fG,e];have hi:i=xs.length:=∅
  exact af.mpr (hend Z S (hi ▸ hI))
 | n+1,i,Z,S,hl,hI=>by
  have hi:i < xs.length:=∅
  have e:mi.at S i=gV (gV xs[i]):=by rw[hat i Z S hI,G1 hi]
  obtain⟨⟨Z1,S1⟩,h1,⟨o,S2⟩,h2,h3⟩:=hstep i xs[i] Z S (G1 hi) hI;simp only[fG,e,h1,h2];cases o with
  | nx Z2=>exact iK I hat hstep hend n (i+1) Z2 S2 ∅ h3
  | ct Z2=>exact iK I hat hstep hend n (i+1) Z2 S2 ∅ h3
  | bk Z2=>exact af.mpr h3
  | rt w=>exact af.mpr h3
def D0 {fi:FI}{g:FG}{b:FS}{Q:QO}:Wp (uV fi g b Z S) Q↔Wp (fi Z S) λp=>∃n,p.1.len p.2=gV n/\Wp (fG p.1 g b n 0 Z p.2) Q:=by
 unfold uV;rcases h:fi Z S with _|⟨mi,S1⟩
 ·simp[ah]
 ·cases h2:mi.len S1 <;> simp[af,ah,h2]
def dC {mi:MI}{g:FG}{c:FT}{f:FE}{xs:GD W}{Q:GD W×aa->Prop}(I:GP->GD W->Fm->aa->Prop)(hat:∀i ys Z S,I i ys Z S->mi.at S i=gV xs[i]?)
  (hstep:∀i w ys Z S,xs[i]?=gV w->I i ys Z S->Wp (g w Z S) λq=>Wp (c q.1 q.2) λk=>(k.1=true->Wp (f q.1 k.2) λy=>I (i+1) (ys++[y.1]) q.1 y.2)/\(k.1=false->I (i+1) ys q.1 k.2))
  (hend:∀ys Z S,I xs.length ys Z S->Q (ys,S)):∀(n i:GP) (ys:GD W) (Z:Fm) (S:aa),i+n=xs.length->I i ys Z S->Wp (bE mi g c f n i Z S) λp=>Q (ys++p.1,p.2)
 | 0,i,ys,Z,S,hl,hI=>by
  have e:mi.at S i=gV td:=by rw[hat i ys Z S hI,JE ∅]
  simp only[bE,e];show af.mpr ?_;have:i=xs.length:=∅
  simpa using hend ys Z S (this ▸ hI)
 | n+1,i,ys,Z,S,hl,hI=>by
  have hi:i < xs.length:=∅
  have e:mi.at S i=gV (gV xs[i]):=by rw[hat i ys Z S hI,G1 hi]
  obtain⟨⟨Z1,S1⟩,h1,⟨k,S2⟩,h2,h3,h4⟩:=hstep i xs[i] ys Z S (G1 hi) hI;simp only[bE,e,h1,h2];cases k with
  | true=>
   obtain⟨⟨y,S3⟩,h5,h6⟩:=h3 rfl;simp only[h5];obtain⟨⟨zs,S4⟩,h7,h8⟩:=dC I hat hstep hend n (i+1) (ys++[y]) Z1 S3 ∅ h6
   simp only[h7];exact af.mpr (by simpa using h8)
  | false=>exact dC I hat hstep hend n (i+1) ys Z1 S2 ∅ (h4 rfl)
def vx {elt:E}{tg:Tg}{it:Ie}{cs:Es}{cap:GD (GN GP)}{Q:QW}:Wp (aA M (.comp elt tg it cs cap) Z S) Q↔Wp (jk M it Z S) λp=>∃n,p.1.len p.2=gV n/\Wp (bE p.1 (fq tg) (yV M cs) (aA M elt) n 0 (eC cap Z) p.2) λq=>q.1.length<=sizeLine/\Q (.ref q.2.length,q.2++[.lst q.1]):=by
 (dsimp only[aA]; simp only[jP,kG])
 rcases h:jk M it Z S with _|⟨mi,S1⟩
 ·simp[ah]
 ·rcases h2:mi.len S1 with _|n
  ·simp[af,ah,h2]
  ·rcases h3:bE mi (fq tg) (yV M cs) (aA M elt) n 0 (eC cap Z) S1 with _|⟨ys,S2⟩
   ·simp[af,ah,h2,h3]
   ·by_cases hl:ys.length<=sizeLine <;> simp[af,ah,h2,h3,hl]
def D1 {Q:QB}:Wp (yV M .nil Z S) Q↔Q (true,S):=by(dsimp only[yV]; simp[z7,af])
def D2 {e:E}{Q:QB}:Wp (yV M #v[e] Z S) Q↔Wp (cK M e Z S) Q:=by dsimp only[yV]; exact Iff.rfl
def jX {c:FT}{b:FS}{Q:QO}(I:GP->Fm->aa->Prop)(hstep:∀m Z S,I m Z S->Wp (c Z S) λk=>(k.1=true->∃m',m=m'+1/\Wp (b Z k.2) (vw (I m') Q))/\(k.1=false->Q (.nx Z,k.2))) :
  ∀(n m:GP) (Z:Fm) (S:aa),m < n->I m Z S->Wp (mI c b n Z S) Q
 | 0,m,Z,S,h,_=>∅
 | n+1,m,Z,S,h,hI=>by
  obtain⟨⟨k,S1⟩,h1,h2,h3⟩:=hstep m Z S hI;simp only[mI,h1];cases k with
  | false=>exact af.mpr (h3 rfl)
  | true=>
   obtain⟨m',rfl,⟨o,S2⟩,h5,h6⟩:=h2 rfl;simp only[h5];cases o with
   | nx Z2=>exact jX I hstep n m' Z2 S2 ∅ h6
   | ct Z2=>exact jX I hstep n m' Z2 S2 ∅ h6
   | bk Z2=>exact af.mpr h6
   | rt w=>exact af.mpr h6
def sE {defs:GD (Hc×Df)}{d:GP}{f:Hc}{ws:GD W}{df:Df}{Q:QW}(h:defs.lookup f=gV df)(hl:ws.length=df.ps.length)
  (hb:Wp (fH (am defs fuel d) fuel df.body (eQ df.N ws) S) λp=>match p.1 with|.rt w=>Q (w,p.2)|.nx _=>Q (.non,p.2)|_=>Iq):Wp (am defs fuel (d+1) f ws S) Q:=by
 obtain⟨⟨o,S1⟩,h1,h2⟩:=hb;simp only[am,h,Ho hl,h1];cases o with
 | rt w=>exact af.mpr h2
 | nx Z=>exact af.mpr h2
 | bk _=>exact h2.elim
 | ct _=>exact h2.elim
end
section
variable{S:aa}{Q:QW}
def cM {a b:G0}:ij .add (.int a) (.int b) S=gV (.int (a+b),S):=rfl
def ja {a b:G0}:ij .sub (.int a) (.int b) S=gV (.int (a - b),S):=rfl
def mO {c:G0->G0->Hj}{f:G0->G0->G0}{i j:G0}(h:c i j=true):xj c f (.int i) (.int j) S=gV (.int (f i j),S):=by
 unfold xj;dsimp only;rw[Ho h]
def vy {a b:G0}(h : -(2 ^ 64) < b)(h2:b < 2 ^ 64):ij .mul (.int a) (.int b) S=gV (.int (a*b),S):=mO (c:=rR) (f:=(· * ·)) (by
 unfold rR;simp only[IK,GQ,Hy];exact .inr #[h,h2])
def oy {a b:G0}(h:0 < b):ij .mod (.int a) (.int b) S=gV (.int (a % b),S):=mO (c:=λ_ j=>decide (0 < j)) (f:=(· % ·)) (Iu h)
def B6 {a b:G0}(h:0 < b)(h2:b < 1073741824):ij .fdiv (.int a) (.int b) S=gV (.int (a / b),S):=mO (c:=λ_ j=>xO j) (f:=(· / ·)) (by
 unfold xO;simp only[GQ,Hy];exact#[h,h2])
def B7:ij .pow (.int 10) (.int 18) S=gV (.int 1000000000000000000,S):=rfl
def aP {xs ys:GD W}(h:(xs++ys).length<=sizeLine):ij .add (.tup xs) (.tup ys) S=gV (.tup (xs++ys),S):=by simp only[ij,ug,ph]; rw[Ho h]
def jY {i j:GP}{xs ys:GD W}(h1:S[i]?=gV (.lst xs))(h2:S[j]?=gV (.lst ys))(h:(xs++ys).length<=sizeLine):ij .add (.ref i) (.ref j) S=gV (.ref S.length,S++[.lst (xs++ys)]):=by
 simp only[ij,ug,nj,h1,h2,kG]; rw[Ho h]
def iL {a b:G0}:aJ .eq (.int a) (.int b) S=gV (.bl (a==b),S):=rfl
def vz {a b:G0}:aJ .ne (.int a) (.int b) S=gV (.bl (!(a==b)),S):=rfl
def y6 {a b:G0}:aJ .lt (.int a) (.int b) S=gV (.bl (decide (a < b)),S):=rfl
def y8 {a b:G0}:aJ .gt (.int a) (.int b) S=gV (.bl (decide (a > b)),S):=rfl
def FV {a b:G0}:aJ .ge (.int a) (.int b) S=gV (.bl (decide (a>=b)),S):=rfl
def aI {r:GP}{xs:GD W}(h:S[r]?=gV (.lst xs)):gz S r=gV xs:=by simp[gz,h]
def y9 {r:GP}{xs:GD W}(h:S[r]?=gV (.fro xs)):gz S r=gV xs:=by simp[gz,h]
def bR {r:GP}{xs:GD W}(h:S[r]?=gV (.lst xs)):nj S r=gV xs:=by simp[nj,h]
def mP {r:GP}{xs:GD W}(h:S[r]?=gV (.lst xs)):kD S r=td:=by simp[kD,h]
def eR {r:GP}{U:GD (T×W)}(h:S[r]?=gV (.dic U)):kD S r=gV U:=by simp[kD,h]
def zb {r:GP}{U:GD (T×W)}(h:S[r]?=gV (.dic U)):gz S r=td:=by simp[gz,h]
def atI_nat {α:Type}{xs:GD α}{j:GP}{w:α}(h:xs[j]?=gV w):nv xs (j:G0)=gV w:=by
 have hl:=(G5.mp h).1;unfold nv qp;rw[Ho (GZ j),Ho (by exact_mod_cast hl)]
 simpa using h
def mQ {α:Type}{xs:GD α}{i:G0}{w:α}(h0:0<=i)(h:xs[i.toNat]?=gV w):nv xs i=gV w:=by
 have:=atI_nat h
 rwa [JU h0]at this
def vA {r:GP}{xs:GD W}{i:G0}{w:W}(h:S[r]?=gV (.lst xs))(h0:0<=i)(hw:xs[i.toNat]?=gV w):gW (.ref r) (.int i) S=gV (w,S):=by
 change rV (.ref r) (.int i) S=_;simp[rV,aI h,mQ h0 hw]
def D3 {xs:GD W}{i:G0}{w:W}(h0:0<=i)(hw:xs[i.toNat]?=gV w):gW (.tup xs) (.int i) S=gV (w,S):=by
 change rV (.tup xs) (.int i) S=_;simp[rV,mQ h0 hw]
def D4 {x:Hc}{i:G0}{c:GP}(hz:x.length<=sizeLine)(h0:0<=i)(hw:x.cps.toList[i.toNat]?=gV c):gW (.str x) (.int i) S=gV (.str #[[c].toArray],S):=by
 change rV (.str x) (.int i) S=_;simp[rV,hz,mQ h0 hw]
def D5 {r:GP}{xs:GD W}{i:G0}{w:W}(h:S[r]?=gV (.lst xs))(h0:0<=i)(hi:i.toNat < xs.length):jj (.ref r) (.int i) w S=gV (S.set r (.lst (xs.set i.toNat w))):=by
 change rW (.ref r) (.int i) w S=_;have:qp xs.length i=gV i.toNat:=by
  unfold qp;rw[Ho h0,Ho ∅]
 simp[rW,bR h,this]
def Ah {r:GP}{xs:GD W}(h:S[r]?=gV (.lst xs)):pv [.ref r] S=gV (.int xs.length,S):=by
 (dsimp only[pv,pj]; simp[mP h,aI h])
def D6 {r:GP}{xs:GD W}{y:W}(h:S[r]?=gV (.lst xs))(hl:xs.length < sizeLine):gQ (.ref r) [y] S=gV (.non,S.set r (.lst (xs++[y]))):=by
 simp[gQ,bR h,hl]
def D7 {r:GP}{xs:GD W}(h:S[r]?=gV (.lst xs)):jL [.ref r] S=gV (.tup xs,S):=by
 (dsimp only[jL,jE]; simp[ut,h,aI h])
def da {r:GP}{xs:GD W}(h:S[r]?=gV (.lst xs)):tyOk "list" S (.ref r)=true:=by simp[tyOk,aI h]
def bV {r:GP}{o o':O}(h:S[r]?=gV o):(S.set r o')[r]?=gV o':=by
 rw[Jb,Ho rfl,Ho (G5.mp h).1]
def cf {r j:GP}{o':O}(h:r≠j):(S.set r o')[j]?=S[j]?:=by rw[Jb,HD h]
def aj {o:O}:(S++[o])[S.length]?=gV o:=by simp
def aw {j:GP}{o u:O}(h:S[j]?=gV o):(S++[u])[j]?=gV o:=by rw[HC (G5.mp h).1]; exact h
def cj {j:GP}{o:O}(h:S[j]?=gV o):j < S.length:=(G5.mp h).1
structure Kp (r:GP)(S S':aa):Prop where
 get:∀j o,j≠r->S[j]?=gV o->S'[j]?=gV o
 len:S.length<=S'.length
def Kp.refl {r:GP}{S:aa}:Kp r S S:=#[λ_ _ _ h=>h,G3 _]
def Kp.trans {r:GP}{S S' S'':aa}(a:Kp r S S')(b:Kp r S' S''):Kp r S S'':=#[λj o n h=>b.get j o n (a.get j o n h),Hs a.len b.len]
def Kp.set {r:GP}{S:aa}{o:O}:Kp r S (S.set r o):=#[λj u n h=>by rw[cf (Ne.symm n)]; exact h,by simp]
def Kp.push {r:GP}{S:aa}{o:O}:Kp r S (S++[o]):=#[λj u n h=>aw h,by simp]
def Kp.late {r t:GP}{S0 S:aa}{o:O}(a:Kp r S0 S)(h:S0.length<=t):Kp r S0 (S.set t o):=
 #[λj u n e=>by
  have:=cj e;rw[cf ∅]; exact a.get j u n e,by simpa using a.len]
end
abbrev wO {α:Type}(o:GN α)(Q:α->Prop):Prop:=match o with
 | some a=>Q a
 | none=>Iq
def bN {α:Type}{o:GN α}{Q:α->Prop}(h:wO o Q):Wp o Q:=by
 cases o with
 | none=>exact h.elim
 | some a=>exact#[a,rfl,h]
def D8 {α:Type}{o:GN α}{Q:α->Prop}(h:Wp o Q):wO o Q:=by
 obtain⟨a,rfl,q⟩:=h;exact q
def ab {α:Type}{o:GN α}{a:α}{Q:α->Prop}(e:o=gV a)(h:Q a):wO o Q:=by subst e; exact h
abbrev wB:W->(Hj->Prop)->Prop
 | .bl k,Q=>Q k
 | _,_=>Iq
abbrev wN:W->(G0->Prop)->Prop
 | .int k,Q=>Q k
 | _,_=>Iq
abbrev wU:W->(GD W->Prop)->Prop
 | .tup k,Q=>Q k
 | _,_=>Iq
def oz {w:W}{Q:Hj->Prop}(h:wB w Q):∃k,w=.bl k/\Q k:=by cases w <;> first|exact h.elim|exact#[_,rfl,h]
def Ai {w:W}{Q:G0->Prop}(h:wN w Q):∃k,w=.int k/\Q k:=by cases w <;> first|exact h.elim|exact#[_,rfl,h]
def D9 {w:W}{Q:GD W->Prop}(h:wU w Q):∃k,w=.tup k/\Q k:=by cases w <;> first|exact h.elim|exact#[_,rfl,h]
abbrev w2:GD W->(W->W->Prop)->Prop
 | [x,y],Q=>Q x y
 | _,_=>Iq
def Ea {xs:GD W}{Q:W->W->Prop}(h:w2 xs Q):∃x y,xs=[x,y]/\Q x y:=by
 match xs,h with
 | [x,y],h=>exact#[x,y,rfl,h]
abbrev w3:GD W->(W->W->W->Prop)->Prop
 | [x,y,z],Q=>Q x y z
 | _,_=>Iq
def Eb {xs:GD W}{Q:W->W->W->Prop}(h:w3 xs Q):∃x y z,xs=[x,y,z]/\Q x y z:=by
 match xs,h with
 | [x,y,z],h=>exact#[x,y,z,rfl,h]
abbrev wG:GN W->(W->Prop)->Prop
 | some w,Q=>Q w
 | none,_=>Iq
abbrev wV:Fm->GP->(W->Prop)->Prop
 | [],_,_=>Iq
 | o::_,0,Q=>wG o Q
 | _::Z,n+1,Q=>wV Z n Q
def vB {Q:W->Prop}:∀ {Z:Fm} {i:GP},wV Z i Q->∃w,Z[i]?=gV (gV w)/\Q w
 | [],i,h=>h.elim
 | some w::Z,0,h=>#[w,rfl,h]
 | none::Z,0,h=>h.elim
 | x::Z,n+1,h=>by
  obtain⟨w,e2,q⟩:=vB (Z:=Z) (i:=n) h;exact#[w,e2,q]
abbrev aE (M:Hc->FF)(f:Hc)(n:GP)(ws:GD W)(S:aa):GN (W×aa):=if ws.length=n then M f ws S else td
section
variable (M:Hc->FF) (fuel:GP)
mutual
def wE:E->Fm->aa->QW->Prop
 | .c w,_,S,Q=>Q (w,S)
 | .v i,Z,S,Q=>wV Z i λw=>Q (w,S)
 | .op o a b,Z,S,Q=>wE a Z S λp=>wE b Z p.2 λq=>wO (ij o p.1 q.1 q.2) Q
 | .cmp o a b,Z,S,Q=>wE a Z S λp=>wE b Z p.2 λq=>wO (aJ o p.1 q.1 q.2) Q
 | .and a b,Z,S,Q=>wE a Z S λp=>wB p.1 λk=>(k=true->wE b Z p.2 Q)/\(k=false->Q (.bl false,p.2))
 | .or a b,Z,S,Q=>wE a Z S λp=>wB p.1 λk=>(k=true->Q (.bl true,p.2))/\(k=false->wE b Z p.2 Q)
 | .not a,Z,S,Q=>wE a Z S λp=>wB p.1 λk=>Q (.bl (!k),p.2)
 | .own f n es,Z,S,Q=>wA es Z S λp=>wO (aE M f n p.1 p.2) Q
 | .bi b es,Z,S,Q=>wA es Z S λp=>wO (b.fn p.1 p.2) Q
 | .me m o es,Z,S,Q=>wE o Z S λp=>tyOk m.ty p.2 p.1=true/\wA es Z p.2 λq=>wO (m.fn p.1 q.1 q.2) Q
 | .ix a b,Z,S,Q=>wE a Z S λp=>wE b Z p.2 λq=>wO (gW p.1 q.1 q.2) Q
 | .sl a lo hi,Z,S,Q=>wE a Z S λp=>wP lo Z p.2 λq=>wP hi Z q.2 λr=>wO (fR p.1 q.1 r.1 r.2) Q
 | .tup es,Z,S,Q=>wA es Z S λp=>Q (.tup p.1,p.2)
 | .lst es,Z,S,Q=>wA es Z S λp=>Q (.ref p.2.length,p.2++[.lst p.1])
 | .isi c a,Z,S,Q=>wE a Z S λp=>wO (sv p.2 p.1 c) λk=>Q (.bl k,p.2)
 | .neg a,Z,S,Q=>wE a Z S λp=>wN p.1 λi=>Q (.int (-i),p.2)
 | .dnew,_,S,Q=>Q (.ref S.length,S++[.dic []])
 | .disp es,Z,S,Q=>wA es Z (S++[.dic []]) λp=>p.2[S.length]?=gV (.dic [])/\wO (gD [] p.1) λU=>Q (.ref S.length,p.2.set S.length (.dic U))
 | .chn o o' a b d,Z,S,Q=>wE a Z S λp=>wE b Z p.2 λq=>wO (rT o p.1 q.1 q.2) λk=>(k=true->wE d Z q.2 λr=>wO (dB o' q.1 r.1 r.2) Q)/\(k=false->Q (.bl false,q.2))
 | .ite t a b,Z,S,Q=>wT t Z S λp=>(p.1=true->wE a Z p.2 Q)/\(p.1=false->wE b Z p.2 Q)
 | .comp elt tg it cs cap,Z,S,Q=>Wp (aA M (.comp elt tg it cs cap) Z S) Q
def wT:E->Fm->aa->QB->Prop
 | .cmp o a b,Z,S,Q=>wE a Z S λp=>wE b Z p.2 λq=>wO (aJ o p.1 q.1 q.2) λr=>wB r.1 λk=>Q (k,r.2)
 | .and a b,Z,S,Q=>wT a Z S λp=>(p.1=true->wT b Z p.2 Q)/\(p.1=false->Q (false,p.2))
 | .or a b,Z,S,Q=>wT a Z S λp=>(p.1=true->Q (true,p.2))/\(p.1=false->wT b Z p.2 Q)
 | .not a,Z,S,Q=>wT a Z S λp=>Q (!p.1,p.2)
 | .isi c a,Z,S,Q=>wE a Z S λp=>wO (sv p.2 p.1 c) λk=>Q (k,p.2)
 | .c w,Z,S,Q=>Wp (cK M (.c w) Z S) Q
 | .v i,Z,S,Q=>wV Z i λw=>wO (cX S w) λk=>Q (k,S)
 | .op o a b,Z,S,Q=>Wp (cK M (.op o a b) Z S) Q
 | .own f n es,Z,S,Q=>wA es Z S λp=>wO (aE M f n p.1 p.2) λq=>wO (cX q.2 q.1) λk=>Q (k,q.2)
 | .bi b es,Z,S,Q=>wA es Z S λp=>wO (b.fn p.1 p.2) λq=>wO (cX q.2 q.1) λk=>Q (k,q.2)
 | .me m o es,Z,S,Q=>Wp (cK M (.me m o es) Z S) Q
 | .ix a b,Z,S,Q=>Wp (cK M (.ix a b) Z S) Q
 | .sl a lo hi,Z,S,Q=>Wp (cK M (.sl a lo hi) Z S) Q
 | .tup es,Z,S,Q=>Wp (cK M (.tup es) Z S) Q
 | .lst es,Z,S,Q=>Wp (cK M (.lst es) Z S) Q
 | .neg a,Z,S,Q=>Wp (cK M (.neg a) Z S) Q
 | .dnew,Z,S,Q=>Wp (cK M .dnew Z S) Q
 | .disp es,Z,S,Q=>Wp (cK M (.disp es) Z S) Q
 | .chn o o' a b d,Z,S,Q=>wE a Z S λp=>wE b Z p.2 λq=>wO (rT o p.1 q.1 q.2) λk=>(k=true->wE d Z q.2 λr=>wO (dB o' q.1 r.1 r.2) λs=>wB s.1 λc=>Q (c,s.2))/\(k=false->Q (false,q.2))
 | .ite t a b,Z,S,Q=>Wp (cK M (.ite t a b) Z S) Q
 | .comp elt tg it cs cap,Z,S,Q=>Wp (cK M (.comp elt tg it cs cap) Z S) Q
def wA:Es->Fm->aa->(GD W×aa->Prop)->Prop
 | .nil,_,S,Q=>Q ([],S)
 | .cons e es,Z,S,Q=>wE e Z S λp=>wA es Z p.2 λq=>Q (p.1::q.1,q.2)
def wP:Ep->Fm->aa->(GN G0×aa->Prop)->Prop
 | .no,_,S,Q=>Q (td,S)
 | .yes a,Z,S,Q=>wE a Z S λp=>wN p.1 λi=>Q (gV i,p.2)
end
abbrev pM (K:Fm->aa->Prop)(Q:QO)(p:Out×aa):Prop:=match p.1 with
 | .nx Z=>K Z p.2
 | o=>Q (o,p.2)
mutual
def wS:Sm->Fm->aa->(Fm->aa->Prop)->QO->Prop
 | .set i e,Z,S,K,_=>wE M e Z S λp=>K (Z.set i (gV p.1)) p.2
 | .asg is e,Z,S,K,_=>wE M e Z S λp=>wU p.1 λws=>wO (cC is ws Z) λZ'=>K Z' p.2
 | .par i j es,Z,S,K,_=>wA M es Z S λp=>w2 p.1 λx y=>K ((Z.set i (gV x)).set j (gV y)) p.2
 | .pr3 i j l es,Z,S,K,_=>wA M es Z S λp=>w3 p.1 λx y z=>K (((Z.set i (gV x)).set j (gV y)).set l (gV z)) p.2
 | .put o k e,Z,S,K,_=>wE M e Z S λp=>wE M o Z p.2 λq=>wE M k Z q.2 λr=>wO (jj q.1 r.1 p.1 r.2) λS'=>K Z S'
 | .ex e,Z,S,K,_=>wE M e Z S λp=>K Z p.2
 | .ret e,Z,S,_,Q=>wE M e Z S λp=>Q (.rt p.1,p.2)
 | .pass,Z,S,K,_=>K Z S
 | .ite t a b,Z,S,K,Q=>wT M t Z S λp=>∀Q':QO,(∀Z' S',K Z' S'->Q' (.nx Z',S'))->(∀o S',(∀Z',o≠.nx Z')->Q (o,S')->Q' (o,S'))->(p.1=true->mR a Z p.2 Q')/\(p.1=false->mR b Z p.2 Q')
 | .whl t b,Z,S,K,Q=>Wp (fj M fuel (.whl t b) Z S) (pM K Q)
 | .loop tg it b,Z,S,K,Q=>Wp (fj M fuel (.loop tg it b) Z S) (pM K Q)
def mR:Ss->Fm->aa->QO->Prop
 | .nil,Z,S,Q=>Q (.nx Z,S)
 | .cons s ss,Z,S,Q=>wS s Z S (λZ' S'=>mR ss Z' S' Q) Q
end
end
abbrev EO:Es->GP
 | .nil=>0
 | .cons _ es=>EO es+1
mutual
def dD:E->Hj
 | .c _|.v _|.comp _ _ _ _ _|.dnew=>true
 | .op _ a b|.cmp _ a b|.and a b|.or a b|.ix a b=>dD a&&dD b
 | .chn _ _ a b c|.ite a b c=>dD a&&dD b&&dD c
 | .neg a|.not a|.isi _ a=>dD a
 | .own _ n es=>EO es==n&&lC es
 | .bi _ es|.disp es=>lC es
 | .me _ o es=>dD o&&lC es
 | .sl a lo hi=>dD a&&FW lo&&FW hi
 | .tup es|.lst es=>decide (EO es<=1000)&&lC es
def lC:Es->Hj
 | .nil=>true
 | .cons e es=>dD e&&lC es
def FW:Ep->Hj
 | .no=>true
 | .yes e=>dD e
end
mutual
def Gf:Sm->Hj
 | .set _ e|.asg _ e|.ex e|.ret e=>dD e
 | .put o k e=>dD o&&dD k&&dD e
 | .par _ _ es=>lC es
 | .pr3 _ _ _ es=>lC es
 | .ite t a b=>dD t&&gF a&&gF b
 | _=>true
def gF:Ss->Hj
 | .nil=>true
 | .cons s ss=>Gf s&&gF ss
end
section
variable{M:Hc->FF}{fuel:GP}
def g6:∀ {es:Es} {Z:Fm} {S S':aa} {ws:GD W},cL M es Z S=gV (ws,S')->ws.length=EO es
 | .nil,Z,S,S',ws,h=>by dsimp only[cL]at h; cases h; rfl
 | .cons e es,Z,S,S',ws,h=>by
  dsimp only[cL]at h;unfold dz at h;split at h
  ·split at h
   ·rename_i h2; cases h; rw[HK,g6 h2]; rfl
   ·cases h
  ·cases h
def vC {n:GP}(h:decide (n<=1000)=true):n<=sizeLine:=Hs (Ij h) (by rw[Ik]; decide)
def b7 {a b:Hj}(h:(a&&b)=true):a=true:=by cases a <;> first|rfl|cases h
def db {a b:Hj}(h:(a&&b)=true):b=true:=by cases a <;> first|exact h|cases h
mutual
theorem aO:∀(e:E) {Z:Fm} {S:aa} {Q:QW},dD e=true->wE M e Z S Q->Wp (aA M e Z S) Q
 | .c w,Z,S,Q,k,h=>Gw.mpr h
 | .v i,Z,S,Q,k,h=>Ge.mpr (vB h)
 | .op o a b,Z,S,Q,k,h=>FK.mpr ((aO a (b7 k) h).mono λp hp=>(aO b (db k) hp).mono λq hq=>bN hq)
 | .cmp o a b,Z,S,Q,k,h=>Ab.mpr ((aO a (b7 k) h).mono λp hp=>(aO b (db k) hp).mono λq hq=>bN hq)
 | .and a b,Z,S,Q,k,h=>DJ.mpr ((aO a (b7 k) h).mono λp hp=>let ⟨c,e,h1,h2⟩:=oz hp; #[c,e,λz=>aO b (db k) (h1 z),h2])
 | .or a b,Z,S,Q,k,h=>FM.mpr ((aO a (b7 k) h).mono λp hp=>let ⟨c,e,h1,h2⟩:=oz hp; #[c,e,h1,λz=>aO b (db k) (h2 z)])
 | .not a,Z,S,Q,k,h=>DK.mpr ((aO a k h).mono λp hp=>oz hp)
 | .own f n es,Z,S,Q,k,h=>Ac.mpr (by
   obtain⟨⟨ws,S1⟩,e,hq⟩:=fK es (db k) h;have hl:ws.length=n:=(g6 e).trans (eq_of_beq (b7 k));simp only[aE,Ho hl]at hq;exact#[_,e,hl,bN hq])
 | .bi b es,Z,S,Q,k,h=>DM.mpr ((fK es k h).mono λp hp=>bN hp)
 | .me m o es,Z,S,Q,k,h=>FN.mpr ((aO o (b7 k) h).mono λp hp=>#[hp.1,(fK es (db k) hp.2).mono λq hq=>bN hq])
 | .ix a b,Z,S,Q,k,h=>FL.mpr ((aO a (b7 k) h).mono λp hp=>(aO b (db k) hp).mono λq hq=>bN hq)
 | .sl a lo hi,Z,S,Q,k,h=>FP.mpr ((aO a (b7 (b7 k)) h).mono λp hp=>(Aj lo (db (b7 k)) hp).mono λq hq=>(Aj hi (db k) hq).mono λr hr=>bN hr)
 | .tup es,Z,S,Q,k,h=>DO.mpr (by
   obtain⟨⟨ws,S1⟩,e,hq⟩:=fK es (db k) h;exact#[_,e,by rw[g6 e]; exact vC (b7 k),hq])
 | .lst es,Z,S,Q,k,h=>DP.mpr (by
   obtain⟨⟨ws,S1⟩,e,hq⟩:=fK es (db k) h;exact#[_,e,by rw[g6 e]; exact vC (b7 k),hq])
 | .isi c a,Z,S,Q,k,h=>Ad.mpr ((aO a k h).mono λp hp=>bN hp)
 | .neg a,Z,S,Q,k,h=>DQ.mpr ((aO a k h).mono λp hp=>Ai hp)
 | .dnew,Z,S,Q,k,h=>#[_,rfl,h]
 | .disp es,Z,S,Q,k,h=>BW.mpr ((fK es k h).mono λp hp=>#[hp.1,let ⟨U,e,q⟩:=bN hp.2; #[U,e,q]])
 | .chn o o' a b d,Z,S,Q,k,h=>Ae ((aO a (b7 (b7 k)) h).mono λp hp=>(aO b (db (b7 k)) hp).mono λq hq=>let ⟨c,e,h1,h2⟩:=bN hq; #[c,e,λz=>(aO d (db k) (h1 z)).mono λr hr=>bN hr,h2])
 | .ite t a b,Z,S,Q,k,h=>DL.mpr ((g7 t (b7 (b7 k)) h).mono λp hp=>#[λz=>aO a (db (b7 k)) (hp.1 z),λz=>aO b (db k) (hp.2 z)])
 | .comp elt tg it cs cap,Z,S,Q,k,h=>h
theorem fK:∀(es:Es) {Z:Fm} {S:aa} {Q:GD W×aa->Prop},lC es=true->wA M es Z S Q->Wp (cL M es Z S) Q
 | .nil,Z,S,Q,k,h=>DR.mpr h
 | .cons e es,Z,S,Q,k,h=>BX.mpr ((aO e (b7 k) h).mono λp hp=>fK es (db k) hp)
theorem Aj:∀(e:Ep) {Z:Fm} {S:aa} {Q:GN G0×aa->Prop},FW e=true->wP M e Z S Q->Wp (qO M e Z S) Q
 | .no,Z,S,Q,k,h=>FQ.mpr h
 | .yes a,Z,S,Q,k,h=>DN.mpr ((aO a k h).mono λp hp=>Ai hp)
theorem g7:∀(e:E) {Z:Fm} {S:aa} {Q:QB},dD e=true->wT M e Z S Q->Wp (cK M e Z S) Q
 | .cmp o a b,Z,S,Q,k,h=>DS.mpr (Ab.mpr ((aO a (b7 k) h).mono λp hp=>(aO b (db k) hp).mono λq hq=>(bN hq).mono λr hr=>oz hr))
 | .and a b,Z,S,Q,k,h=>DU.mpr ((g7 a (b7 k) h).mono λp hp=>#[λz=>g7 b (db k) (hp.1 z),hp.2])
 | .or a b,Z,S,Q,k,h=>FR.mpr ((g7 a (b7 k) h).mono λp hp=>#[hp.1,λz=>g7 b (db k) (hp.2 z)])
 | .not a,Z,S,Q,k,h=>DV.mpr (g7 a k h)
 | .isi c a,Z,S,Q,k,h=>DX.mpr (Ad.mpr ((aO a k h).mono λp hp=>let ⟨b,e,q⟩:=bN hp; #[b,e,b,rfl,q]))
 | .v i,Z,S,Q,k,h=>Gx.mpr (Ge.mpr (let ⟨w,e,q⟩:=vB h; #[w,e,bN q]))
 | .own f n es,Z,S,Q,k,h=>DW.mpr (Ac.mpr (by
   obtain⟨⟨ws,S1⟩,e,hq⟩:=fK es (db k) h;have hl:ws.length=n:=(g6 e).trans (eq_of_beq (b7 k));simp only[aE,Ho hl]at hq;exact#[_,e,hl,(bN hq).mono λq hq=>bN hq]))
 | .c w,Z,S,Q,k,h=>h
 | .op o a b,Z,S,Q,k,h=>h
 | .bi b es,Z,S,Q,k,h=>FU.mpr (DM.mpr ((fK es k h).mono λp hp=>(bN hp).mono λq hq=>bN hq))
 | .me m o es,Z,S,Q,k,h=>h
 | .ix a b,Z,S,Q,k,h=>h
 | .sl a lo hi,Z,S,Q,k,h=>h
 | .tup es,Z,S,Q,k,h=>h
 | .lst es,Z,S,Q,k,h=>h
 | .neg a,Z,S,Q,k,h=>h
 | .dnew,Z,S,Q,k,h=>h
 | .disp es,Z,S,Q,k,h=>h
 | .chn o o' a b d,Z,S,Q,k,h=>DT.mpr (Ae ((aO a (b7 (b7 k)) h).mono λp hp=>(aO b (db (b7 k)) hp).mono λq hq=>let ⟨c,e,h1,h2⟩:=bN hq; #[c,e,λz=>(aO d (db k) (h1 z)).mono λr hr=>(bN hr).mono λs hs=>oz hs,λz=>#[false,rfl,h2 z]]))
 | .ite t a b,Z,S,Q,k,h=>h
 | .comp elt tg it cs cap,Z,S,Q,k,h=>h
end
mutual
theorem Ec:∀(s:Sm) {Z:Fm} {S:aa} {K:Fm->aa->Prop} {Q:QO},Gf s=true->wS M fuel s Z S K Q->Wp (fj M fuel s Z S) (pM K Q)
 | .set i e,Z,S,K,Q,k,h=>BZ.mpr (aO e k h)
 | .asg is e,Z,S,K,Q,k,h=>B0.mpr ((aO e k h).mono λp hp=>let ⟨ws,e1,h1⟩:=D9 hp; let ⟨Z',e2,h2⟩:=bN h1; #[ws,Z',e1,e2,h2])
 | .par i j es,Z,S,K,Q,k,h=>B1.mpr ((fK es k h).mono λp hp=>Ea hp)
 | .pr3 i j l es,Z,S,K,Q,k,h=>B2 ((fK es k h).mono λp hp=>Eb hp)
 | .put o i e,Z,S,K,Q,k,h=>B3.mpr ((aO e (db k) h).mono λp hp=>(aO o (b7 (b7 k)) hp).mono λq hq=>(aO i (db (b7 k)) hq).mono λr hr=>bN hr)
 | .ex e,Z,S,K,Q,k,h=>DZ.mpr (aO e k h)
 | .ret e,Z,S,K,Q,k,h=>B4.mpr (aO e k h)
 | .pass,Z,S,K,Q,k,h=>#[_,rfl,h]
 | .ite t a b,Z,S,K,Q,k,h=>B5.mpr ((g7 t (b7 (b7 k)) h).mono λp hp=>by
   obtain⟨h1,h2⟩:=hp (pM K Q) (λZ' S' z=>z) (λo S' hn z=>by cases o <;> first|exact z|exact absurd rfl (hn _))
   exact#[λz=>iM a (db (b7 k)) (h1 z),λz=>iM b (db k) (h2 z)])
 | .whl t b,Z,S,K,Q,k,h=>h
 | .loop tg it b,Z,S,K,Q,k,h=>h
theorem iM:∀(ss:Ss) {Z:Fm} {S:aa} {Q:QO},gF ss=true->mR M fuel ss Z S Q->Wp (fH M fuel ss Z S) Q
 | .nil,Z,S,Q,k,h=>DY.mpr h
 | .cons s ss,Z,S,Q,k,h=>BY.mpr ((Ec s (b7 k) h).mono λp hp=>by
   obtain⟨o,S1⟩:=p;cases o with
   | nx Z'=>exact#[λZ2 e=>by cases e; exact iM ss (db k) hp,λz=>absurd rfl (z Z')]
   | _=>exact#[λZ2 e=>(by cases e),λ_=>hp])
end
structure wZ (M:Hc->FF)(fuel:GP)(ss:Ss)(Z:Fm)(S:aa)(Q:QO):Prop where
 out:mR M fuel ss Z S Q
def Ed {ss:Ss}{Z:Fm}{S:aa}{Q:QO}:mR M fuel ss Z S Q=wZ M fuel ss Z S Q:=propext #[λh=>#[h],λh=>h.out]
def B8 {defs:GD (Hc×Df)}{d:GP}{f:Hc}{n:GP}{ws:GD W}{df:Df}{S:aa}{Q:QW}(h:defs.lookup f=gV df)(hn:ws.length=n)(hl:ws.length=df.ps.length)(ok:gF df.body=true)
  (hb:∀Q':QO,(∀w S',Q (w,S')->Q' (.rt w,S'))->wZ (am defs fuel d) fuel df.body (eQ df.N ws) S Q'):wO (aE (am defs fuel (d+1)) f n ws S) Q:=by
 unfold aE;rw[Ho hn];exact D8 (sE h hl ((iM _ ok (hb (λp=>match p.1 with|.rt w=>Q (w,p.2)|_=>Iq) λw S' q=>q).out).mono λp hp=>by
  obtain⟨o,S1⟩:=p;cases o <;> first|exact hp|exact hp.elim))
end
section
variable{M:Hc->FF}{fuel:GP}{Z:Fm}{S:aa}{K:Fm->aa->Prop}{Q:QO}
abbrev zd (M:Hc->FF)(fuel:GP)(b:Ss)(Z:Fm)(S:aa)(I:Fm->aa->Prop)(Q:QO):Prop:=∀Q':QO,(∀Z' S',I Z' S'->Q' (.nx Z',S'))->(∀w S',Q (.rt w,S')->Q' (.rt w,S'))->wZ M fuel b Z S Q'
def gG {tg:Tg}{it:Ie}{b:Ss}{mi:MI}{S1:aa}{xs:GD W}(I:GP->Fm->aa->Prop)(ok:gF b=true)(hi:jk M it Z S=gV (mi,S1))(hat:∀i Z S,I i Z S->mi.at S i=gV xs[i]?)(hl:mi.len S1=gV xs.length)(h0:I 0 Z S1)
  (hstep:∀(i:GP) (w:W) (Z:Fm) (S:aa),xs[i]?=gV w->I i Z S->wO (fq tg w Z S) λq=>zd M fuel b q.1 q.2 (I (i+1)) Q) (hend:∀Z S,I xs.length Z S->K Z S):Wp (fj M fuel (.loop tg it b) Z S) (pM K Q):=by
 rw[fj,D0];show#[_,hi,xs.length,hl,?_];show iK (Q:=pM K Q) I hat (λi w Z S h1 h2=>?_) (λZ S h=>hend Z S h) _ 0 Z S1 ∅ h0
 exact(bN (hstep i w Z S h1 h2)).mono λq hq=>iM b ok (wZ.out (hq _ (λ_ _ h=>h) λ_ _ h=>h))
def bW {e:E}{Q:QW}(ok:dD e=true)(h:wE M e Z S Q):∃w S',aA M e Z S=gV (w,S')/\Q (w,S'):=let ⟨⟨w,S'⟩,a,b⟩:=aO e ok h; #[w,S',a,b]
def bB {i0:GP}{e:E}{b:Ss}(j:G0)(I:GP->Fm->aa->Prop)(oe:dD e=true)(ok:gF b=true)(hj : -(2 ^ 62)<=j/\j < 2 ^ 62)(he:wE M e Z S λp=>p.1=.int j/\I 0 Z p.2)
  (hstep:∀(i:GP) (Z:Fm) (S:aa),(i:G0) < j->I i Z S->zd M fuel b (Z.set i0 (gV (.int i))) S (I (i+1)) Q) (hend:∀Z S,I j.toNat Z S->K Z S):Wp (fj M fuel (.loop (.nm i0) (.rng #v[e]) b) Z S) (pM K Q):=by
 obtain⟨w,S1,e1,rfl,h0⟩:=bW oe he;have hl:(cV 0 j.toNat).length=j.toNat:=by simp[cV]
 show gG (mi:=.its (cV 0 j.toNat)) (S1:=S1) (xs:=cV 0 j.toNat) I ok ?_ (λ_ _ _ _=>rfl) rfl h0 (λi w Z S hw hI=>?_) λZ S hI=>hend Z S (hl ▸ hI)
 ·simp only[jk,cL,dz,gY,pB,e1];rw[Ho hj]
 ·rw[dS]at hw;split at hw
  ·rename_i hk;cases hw;rw[Lc];exact hstep i Z S ∅ hI
  ·cases hw
def for_tup {tg:Tg}{e:E}{b:Ss}(xs:GD W)(I:GP->Fm->aa->Prop)(oe:dD e=true)(ok:gF b=true)(he:wE M e Z S λp=>p.1=.tup xs/\I 0 Z p.2)
  (hstep:∀(i:GP) (w:W) (Z:Fm) (S:aa),xs[i]?=gV w->I i Z S->wO (fq tg w Z S) λq=>zd M fuel b q.1 q.2 (I (i+1)) Q) (hend:∀Z S,I xs.length Z S->K Z S):Wp (fj M fuel (.loop tg (.seq e) b) Z S) (pM K Q):=by
 obtain⟨w,S1,e1,rfl,h0⟩:=bW oe he;exact gG (mi:=.its xs) (S1:=S1) I ok (by simp only[jk,ff,e1]) (λ_ _ _ _=>rfl) rfl h0 hstep hend
def jr {tg:Tg}{e:E}{b:Ss}(t:GP)(xs:GD W)(I:GP->Fm->aa->Prop)(oe:dD e=true)(ok:gF b=true)(he:wE M e Z S λp=>p.1=.ref t/\I 0 Z p.2)(hat:∀i Z S,I i Z S->S[t]?=gV (.lst xs))
  (hstep:∀(i:GP) (w:W) (Z:Fm) (S:aa),xs[i]?=gV w->I i Z S->wO (fq tg w Z S) λq=>zd M fuel b q.1 q.2 (I (i+1)) Q) (hend:∀Z S,I xs.length Z S->K Z S):Wp (fj M fuel (.loop tg (.seq e) b) Z S) (pM K Q):=by
 obtain⟨w,S1,e1,rfl,h0⟩:=bW oe he;exact gG (mi:=.live t) (S1:=S1) I ok (by simp only[jk,ff,e1,aI (hat _ _ _ h0)]) (λi Z S h=>by simp only[MI.at,aI (hat _ _ _ h)]) (by simp only[MI.len,aI (hat _ _ _ h0),HA]) h0 hstep hend
def Ak {t:E}{b:Ss}(I:GP->Fm->aa->Prop)(m:GP)(ot:dD t=true)(ok:gF b=true)(hm:m < fuel)(h0:I m Z S)
  (hstep:∀m Z S,I m Z S->wT M t Z S λk=>(k.1=true->∃m',m=m'+1/\zd M fuel b Z k.2 (I m') Q)/\(k.1=false->K Z k.2)):Wp (fj M fuel (.whl t b) Z S) (pM K Q):=by
 rw[fj];show jX (Q:=pM K Q) I (λm Z S hI=>(g7 t ot (hstep m Z S hI)).mono λk hk=>#[λz=>?_,λz=>hk.2 z]) fuel m Z S hm h0
 obtain⟨m',e,h⟩:=hk.1 z;exact#[m',e,iM b ok (wZ.out (h _ (λ_ _ h=>h) λ_ _ h=>h))]
abbrev wC (M:Hc->FF):Es->Fm->aa->QB->Prop
 | .nil,_,S,Q=>Q (true,S)
 | .cons e .nil,Z,S,Q=>wT M e Z S Q
 | .cons _ (.cons _ _),_,_,_=>Iq
def Al {cs:Es}{Q:QB}(ok:lC cs=true)(h:wC M cs Z S Q):Wp (yV M cs Z S) Q:=by
 match cs,h,ok with
 | .nil,h,_=>exact D1.mpr h
 | .cons e .nil,h,ok=>exact D2.mpr (g7 e (b7 ok) h)
abbrev fm (M:Hc->FF)(elt:E)(cs:Es)(Z:Fm)(S:aa)(G:W->Fm->aa->Prop)(N:Fm->aa->Prop):Prop:=wC M cs Z S λk=>(k.1=true->wE M elt Z k.2 λy=>G y.1 Z y.2)/\(k.1=false->N Z k.2)
def jZ {elt:E}{tg:Tg}{it:Ie}{cs:Es}{cap:GD (GN GP)}{mi:MI}{S1:aa}{xs:GD W}{Q:QW}(I:GP->GD W->Fm->aa->Prop)(oe:dD elt=true)(oc:lC cs=true)(hi:jk M it Z S=gV (mi,S1))(hat:∀i ys Z S,I i ys Z S->mi.at S i=gV xs[i]?)(hl:mi.len S1=gV xs.length)(h0:I 0 [] (eC cap Z) S1)
  (hstep:∀(i:GP) (w:W) (ys:GD W) (Z:Fm) (S:aa),xs[i]?=gV w->I i ys Z S->wO (fq tg w Z S) λq=>fm M elt cs q.1 q.2 (λy=>I (i+1) (ys++[y])) (I (i+1) ys))
  (hend:∀ys Z S,I xs.length ys Z S->ys.length<=sizeLine/\Q (.ref S.length,S++[.lst ys])):Wp (aA M (.comp elt tg it cs cap) Z S) Q:=by
 rw[vx];show#[_,hi,xs.length,hl,?_];show(dC (xs:=xs) (Q:=λq=>q.1.length<=sizeLine/\Q (.ref q.2.length,q.2++[.lst q.1])) I hat (λi w ys Z S h1 h2=>?_) hend xs.length 0 [] _ S1 ∅ h0).mono λq hq=>by simpa using hq
 exact(bN (hstep i w ys Z S h1 h2)).mono λq hq=>(Al oc hq).mono λk hk=>#[λz=>aO elt oe (hk.1 z),hk.2]
def fX {elt e:E}{i0:GP}{cs:Es}{cap:GD (GN GP)}{Q:QW}(j:G0)(I:GP->GD W->Fm->aa->Prop)(oi:dD e=true)(oe:dD elt=true)(oc:lC cs=true)(hj : -(2 ^ 62)<=j/\j < 2 ^ 62)(he:wE M e Z S λp=>p.1=.int j/\I 0 [] (eC cap Z) p.2)
  (hstep:∀(i:GP) (ys:GD W) (Z:Fm) (S:aa),(i:G0) < j->I i ys Z S->fm M elt cs (Z.set i0 (gV (.int i))) S (λy=>I (i+1) (ys++[y])) (I (i+1) ys))
  (hend:∀ys Z S,I j.toNat ys Z S->ys.length<=sizeLine/\Q (.ref S.length,S++[.lst ys])):Wp (aA M (.comp elt (.nm i0) (.rng #v[e]) cs cap) Z S) Q:=by
 obtain⟨w,S1,e1,rfl,h0⟩:=bW oi he;have hl:(cV 0 j.toNat).length=j.toNat:=by simp[cV]
 show jZ (mi:=.its (cV 0 j.toNat)) (S1:=S1) (xs:=cV 0 j.toNat) I oe oc ?_ (λ_ _ _ _ _=>rfl) rfl h0 (λi w ys Z S hw hI=>?_) λys Z S hI=>hend ys Z S (hl ▸ hI)
 ·simp only[jk,cL,dz,gY,pB,e1];rw[Ho hj]
 ·rw[dS]at hw;split at hw
  ·rename_i hk;cases hw;rw[Lc];exact hstep i ys Z S ∅ hI
  ·cases hw
def mS {elt e:E}{tg:Tg}{cs:Es}{cap:GD (GN GP)}{Q:QW}(xs:GD W)(I:GP->GD W->Fm->aa->Prop)(oi:dD e=true)(oe:dD elt=true)(oc:lC cs=true)(he:wE M e Z S λp=>p.1=.tup xs/\I 0 [] (eC cap Z) p.2)
  (hstep:∀(i:GP) (w:W) (ys:GD W) (Z:Fm) (S:aa),xs[i]?=gV w->I i ys Z S->wO (fq tg w Z S) λq=>fm M elt cs q.1 q.2 (λy=>I (i+1) (ys++[y])) (I (i+1) ys))
  (hend:∀ys Z S,I xs.length ys Z S->ys.length<=sizeLine/\Q (.ref S.length,S++[.lst ys])):Wp (aA M (.comp elt tg (.seq e) cs cap) Z S) Q:=by
 obtain⟨w,S1,e1,rfl,h0⟩:=bW oi he;exact jZ (mi:=.its xs) (S1:=S1) I oe oc (by simp only[jk,ff,e1]) (λ_ _ _ _ _=>rfl) rfl h0 hstep hend
def ze {elt e:E}{tg:Tg}{cs:Es}{cap:GD (GN GP)}{Q:QW}(t:GP)(xs:GD W)(I:GP->GD W->Fm->aa->Prop)(oi:dD e=true)(oe:dD elt=true)(oc:lC cs=true)(he:wE M e Z S λp=>p.1=.ref t/\I 0 [] (eC cap Z) p.2)(hat:∀i ys Z S,I i ys Z S->S[t]?=gV (.lst xs))
  (hstep:∀(i:GP) (w:W) (ys:GD W) (Z:Fm) (S:aa),xs[i]?=gV w->I i ys Z S->wO (fq tg w Z S) λq=>fm M elt cs q.1 q.2 (λy=>I (i+1) (ys++[y])) (I (i+1) ys))
  (hend:∀ys Z S,I xs.length ys Z S->ys.length<=sizeLine/\Q (.ref S.length,S++[.lst ys])):Wp (aA M (.comp elt tg (.seq e) cs cap) Z S) Q:=by
 obtain⟨w,S1,e1,rfl,h0⟩:=bW oi he;exact jZ (mi:=.live t) (S1:=S1) I oe oc (by simp only[jk,ff,e1,aI (hat _ _ _ _ h0)]) (λi ys Z S h=>by simp only[MI.at,aI (hat _ _ _ _ h)]) (by simp only[MI.len,aI (hat _ _ _ _ h0),HA]) h0 hstep hend
def qX {elt a:E}{tg:Tg}{cs:Es}{cap:GD (GN GP)}{Q:QW}(xs:GD W)(I:GP->GD W->Fm->aa->Prop)(oa:dD a=true)(oe:dD elt=true)(oc:lC cs=true)(he:wE M a Z S λp=>EN p.1=gV xs/\I 0 [] (eC cap Z) p.2)
  (hstep:∀(i:GP) (x:W) (ys:GD W) (Z:Fm) (S:aa),xs[i]?=gV x->I i ys Z S->wO (fq tg (.tup [.int i,x]) Z S) λq=>fm M elt cs q.1 q.2 (λy=>I (i+1) (ys++[y])) (I (i+1) ys))
  (hend:∀ys Z S,I xs.length ys Z S->ys.length<=sizeLine/\Q (.ref S.length,S++[.lst ys])):Wp (aA M (.comp elt tg (.enu #v[a]) cs cap) Z S) Q:=by
 obtain⟨x,S1,e1,h1,h0⟩:=bW oa he;have hl:(iG xs).length=xs.length:=by simp[iG]
 show jZ (mi:=.its (iG xs)) (S1:=S1) (xs:=iG xs) I oe oc (by simp only[jk,cL,dz,gY,u7,e1,h1]) (λ_ _ _ _ _=>rfl) rfl h0 (λi w ys Z S hw hI=>?_) λys Z S hI=>hend ys Z S (hl ▸ hI)
 obtain⟨y,hy,rfl⟩:=jQ hw;exact hstep i y ys Z S hy hI
def st {s:Sm}{ss:Ss}(h:wS M fuel s Z S (λZ' S'=>wZ M fuel ss Z' S' Q) Q):wZ M fuel (.cons s ss) Z S Q:=#[by
 dsimp only[mR];simp only[Ed];exact h]
def aN (h:Q (.nx Z,S)):wZ M fuel .nil Z S Q:=#[h]
def ae {t:Hj}{a b:Ss}{Q Q0:QO}{K:Fm->aa->Prop}(ha:t=true->∀Q':QO,(∀Z' S',K Z' S'->Q' (.nx Z',S'))->(∀w S',Q (.rt w,S')->Q' (.rt w,S'))->wZ M fuel a Z S Q')(hb:t=false->∀Q':QO,(∀Z' S',K Z' S'->Q' (.nx Z',S'))->(∀w S',Q (.rt w,S')->Q' (.rt w,S'))->wZ M fuel b Z S Q') :
  ∀Q':QO,(∀Z' S',K Z' S'->Q' (.nx Z',S'))->(∀o S',(∀Z',o≠.nx Z')->Q (o,S')->Q' (o,S'))->(t=true->mR M fuel a Z S Q')/\(t=false->mR M fuel b Z S Q'):=
 λQ' h1 h2=>#[λe=>(ha e Q' h1 λw S'=>h2 (.rt w) S' (λ_ z=>nomatch z)).out,λe=>(hb e Q' h1 λw S'=>h2 (.rt w) S' (λ_ z=>nomatch z)).out]
end
abbrev dW:Ss:=
 #v[.ret (.lst #v[.bi .list #v[.v 0],.c (.int 0),.c (.int 0),.c (.int 1),.c (.int 0)])]
abbrev cD:Ss:=
 #v[.ite (.and (.cmp .eq (.ix (.v 0) (.c (.int 2))) (.c (.int 0))) (.cmp .lt (.ix (.v 0) (.c (.int 1))) (.bi .len #v[.ix (.v 0) (.c (.int 0))]))) #v[.set 2 (.ix (.ix (.v 0) (.c (.int 0))) (.ix (.v 0) (.c (.int 1)))),.put (.v 0) (.c (.int 1)) (.op .add (.ix (.v 0) (.c (.int 1))) (.c (.int 1))),.ite (.cmp .ge (.v 2) (.op .pow (.c (.int 10)) (.c (.int 18)))) #v[.put (.v 0) (.c (.int 2)) (.v 2)] #v[.put (.v 0) (.c (.int 3)) (.op .mod (.op .add (.op .add (.op .mul (.ix (.v 0) (.c (.int 3))) (.c (.int 40013))) (.op .mod (.v 2) (.c (.int 1000003)))) (.c (.int 1))) (.c (.int 2147483647)))]] .nil,.ite (.cmp .gt (.ix (.v 0) (.c (.int 2))) (.c (.int 0))) #v[.set 3 (.op .mod (.ix (.v 0) (.c (.int 2))) (.v 1)),.put (.v 0) (.c (.int 2)) (.op .fdiv (.ix (.v 0) (.c (.int 2))) (.v 1)),.ret (.v 3)] .nil,.put (.v 0) (.c (.int 4)) (.op .add (.ix (.v 0) (.c (.int 4))) (.c (.int 1))),.put (.v 0) (.c (.int 3)) (.op .mod (.op .add (.op .add (.op .mul (.ix (.v 0) (.c (.int 3))) (.c (.int 48271))) (.c (.int 12820163))) (.ix (.v 0) (.c (.int 4)))) (.c (.int 2147483647))),.ret (.op .mod (.op .fdiv (.op .mod (.op .mul (.op .add (.op .mod (.ix (.v 0) (.c (.int 3))) (.c (.int 65521))) (.c (.int 1))) (.op .add (.op .fdiv (.ix (.v 0) (.c (.int 3))) (.c (.int 65521))) (.c (.int 7919)))) (.c (.int 1000003))) (.c (.int 7))) (.v 1))]
abbrev dh:Ss:=
 #v[.ite (.cmp .lt (.v 3) (.v 2)) #v[.ret (.ix (.ix (.ix (.v 1) (.v 2)) (.c (.int 1))) (.v 3))] .nil,.ret (.ix (.ix (.ix (.v 0) (.c (.int 1))) (.ix (.ix (.ix (.v 1) (.v 3)) (.c (.int 1))) (.v 2))) (.c (.int 1)))]
abbrev dc:Ss:=
 #v[.set 3 (.lst .nil),.loop (.nm 4) (.rng #v[.bi .len #v[.v 2]]) #v[.set 5 (.ix (.v 2) (.v 4)),.ex (.me .append (.v 3) #v[.tup #v[.ix (.ix (.v 1) (.v 5)) (.c (.int 0)),.bi .tuple #v[.comp (.own "_law_between" 4 #v[.v 3,.v 4,.v 2,.v 1]) (.nm 1) (.seq (.sl (.v 2) .no (.yes (.v 4)))) .nil [td,td,gV 5,gV 0,gV 1]]]])],.ret (.bi .tuple #v[.v 3])]
abbrev fL:Ss:=
 #v[.ret (.lst #v[.tup #v[.c (.int 0),.c (.int 1),.c (.int 2)],.tup #v[.c (.int 0),.c (.int 2),.c (.int 1)],.tup #v[.c (.int 1),.c (.int 0),.c (.int 2)],.tup #v[.c (.int 1),.c (.int 2),.c (.int 0)],.tup #v[.c (.int 2),.c (.int 0),.c (.int 1)],.tup #v[.c (.int 2),.c (.int 1),.c (.int 0)]])]
abbrev dE:Ss:=
 #v[.ret (.bi .min #v[.comp (.own "_law_part" 3 #v[.v 2,.v 3,.v 1]) (.nm 1) (.seq (.own "_law_turns" 0 .nil)) .nil [td,td,gV 0,gV 1]])]
abbrev d4:Ss:=
 #v[.set 2 (.ix (.lst #v[.lst #v[.tup #v[.c (.int 0)]],.lst #v[.tup #v[.c (.int 0),.c (.int 1)],.tup #v[.c (.int 1),.c (.int 0)]],.lst #v[.tup #v[.c (.int 0),.c (.int 1),.c (.int 2)],.tup #v[.c (.int 1),.c (.int 0),.c (.int 2)],.tup #v[.c (.int 0),.c (.int 2),.c (.int 1)]]]) (.op .sub (.v 1) (.c (.int 1)))),.ret (.ix (.v 2) (.own "_law_pick" 2 #v[.v 0,.bi .len #v[.v 2]]))]
abbrev di:Ss:=
 #v[.set 4 (.own "_law_names" 2 #v[.v 0,.op .add (.v 1) (.bi .len #v[.v 2])]),.set 5 (.bi .tuple #v[.comp (.tup #v[.ix (.v 4) (.op .add (.v 3) (.v 1)),.ix (.v 2) (.v 1)]) (.nm 1) (.rng #v[.bi .len #v[.v 2]]) .nil [td,td,gV 2,gV 1,gV 4]]),.ret (.tup #v[.sl (.v 4) .no (.yes (.v 1)),.v 5,.bi .tuple #v[.bi .sorted #v[.v 3]]])]
abbrev b8:Ss:=
 #v[.set 3 (.lst .nil),.loop (.nm 4) (.rng #v[.c (.int 3)]) #v[.ex (.me .append (.v 3) #v[.tup #v[.own "_law_pick" 2 #v[.v 0,.v 1],.bi .tuple #v[.comp (.own "_law_pick" 2 #v[.v 2,.v 3]) (.nm 1) (.rng #v[.v 4]) .nil [td,td,gV 0,gV 2]]]])],.ret (.bi .tuple #v[.v 3])]
abbrev d6:Ss:=
 #v[.set 1 (.lst #v[.tup #v[.c (.int 1),.c (.int 1)],.tup #v[.c (.int 2),.c (.int 1)],.tup #v[.c (.int 3),.c (.int 1)],.tup #v[.c (.int 1),.c (.int 2)],.tup #v[.c (.int 1),.c (.int 2)],.tup #v[.c (.int 2),.c (.int 2)],.tup #v[.c (.int 2),.c (.int 2)],.tup #v[.c (.int 3),.c (.int 2)],.tup #v[.c (.int 1),.c (.int 3)],.tup #v[.c (.int 1),.c (.int 3)],.tup #v[.c (.int 2),.c (.int 3)]]),.ret (.ix (.v 1) (.own "_law_pick" 2 #v[.v 0,.c (.int 11)]))]
abbrev cN:Ss:=
 #v[.asg [1,2] (.own "_law_sizes" 1 #v[.v 0]),.set 3 (.own "_law_rule_of" 4 #v[.v 0,.v 1,.own "_law_backs" 2 #v[.v 0,.v 2],.tup .nil]),.set 4 .dnew,.loop (.nm 5) (.rng #v[.own "_law_pick" 2 #v[.v 0,.c (.int 9)]]) #v[.put (.v 4) (.own "_law_figure" 2 #v[.v 3,.own "_law_free_three" 3 #v[.v 0,.v 1,.v 2]]) (.c (.bl true))],.ret (.tup #v[.ix (.v 3) (.c (.int 0)),.ix (.v 3) (.c (.int 1)),.bi .tuple #v[.bi .sorted #v[.v 4]]])]
abbrev dF:Ss:=
 #v[.set 1 (.lst .nil),.loop (.nm 2) (.rng #v[.v 0]) #v[.loop (.nm 3) (.rng2 #v[.v 2,.v 0]) #v[.set 1 (.op .add (.v 1) (.comp (.tup #v[.v 2,.v 3,.v 1]) (.nm 1) (.rng2 #v[.v 3,.v 0]) .nil [td,td,gV 2,gV 3]))]],.ret (.v 1)]
abbrev ba:Ss:=
 #v[.set 1 (.own "_law_pick" 2 #v[.v 0,.c (.int 3)]),.ite (.cmp .eq (.v 1) (.c (.int 0))) #v[.ret (.own "_law_rule_of" 4 #v[.v 0,.c (.int 1),.tup #v[.c (.int 0),.c (.int 1)],.comp (.tup #v[.tup #v[.c (.int 0),.tup .nil],.tup #v[.c (.int 0),.tup #v[.v 1]],.tup #v[.c (.int 0),.tup #v[.v 1,.v 1]]]) (.nm 1) (.rng #v[.c (.int 2)]) .nil [td,td]])] .nil,.ite (.cmp .eq (.v 1) (.c (.int 1))) #v[.set 2 (.own "_law_rule_of" 4 #v[.v 0,.c (.int 2),.tup #v[.c (.int 0),.c (.int 1)],.tup .nil]),.set 3 .dnew,.loop (.nm 4) (.seq (.own "_law_rising" 1 #v[.c (.int 2)])) #v[.loop (.tp [5,6,7]) (.seq (.lst #v[.tup #v[.c (.int 1),.c (.int 1),.c (.int 0)],.tup #v[.c (.int 1),.c (.int 1),.c (.int 1)],.tup #v[.c (.int 1),.c (.int 0),.c (.int 1)],.tup #v[.c (.int 0),.c (.int 1),.c (.int 1)]])) #v[.set 8 (.tup #v[.tup #v[.ix (.v 4) (.c (.int 0)),.tup .nil],.tup #v[.ix (.v 4) (.c (.int 1)),.tup #v[.v 5]]]),.put (.v 3) (.own "_law_figure" 2 #v[.v 2,.op .add (.v 8) (.tup #v[.tup #v[.ix (.v 4) (.c (.int 2)),.tup #v[.v 6,.v 7]]])]) (.c (.bl true))]],.ret (.tup #v[.ix (.v 2) (.c (.int 0)),.ix (.v 2) (.c (.int 1)),.bi .tuple #v[.bi .sorted #v[.v 3]]])] .nil,.set 9 (.op .add (.c (.int 2)) (.own "_law_pick" 2 #v[.v 0,.c (.int 2)])),.set 3 (.comp (.tup #v[.tup #v[.c (.int 0),.tup .nil],.tup #v[.v 1,.tup #v[.c (.int 0)]],.tup #v[.op .sub (.v 2) (.c (.int 1)),.tup #v[.c (.int 0),.c (.int 0)]]]) (.nm 1) (.rng #v[.v 9]) .nil [td,td,gV 9]),.ret (.own "_law_rule_of" 4 #v[.v 0,.v 9,.tup #v[.c (.int 0)],.sl (.v 3) .no (.yes (.op .add (.c (.int 1)) (.own "_law_pick" 2 #v[.v 0,.v 9])))])]
abbrev dk:Ss:=
 #v[.ite (.cmp .is (.v 1) (.c .non)) #v[.ret (.cmp .is (.v 0) (.c .non))] .nil,.ite (.or (.isi "bool" (.v 1)) (.isi "bool" (.v 0))) #v[.ret (.and (.isi "bool" (.v 1)) (.and (.isi "bool" (.v 0)) (.cmp .eq (.v 0) (.v 1))))] .nil,.ite (.isi "int" (.v 1)) #v[.ret (.and (.isi "int" (.v 0)) (.cmp .eq (.v 0) (.v 1)))] .nil,.ite (.isi "str" (.v 1)) #v[.ret (.and (.isi "str" (.v 0)) (.cmp .eq (.v 0) (.v 1)))] .nil,.ite (.or (.cmp .ne (.isi "tuple" (.v 1)) (.isi "tuple" (.v 0))) (.cmp .ne (.isi "list" (.v 1)) (.isi "list" (.v 0)))) #v[.ret (.c (.bl false))] .nil,.ret (.and (.cmp .eq (.bi .len #v[.v 0]) (.bi .len #v[.v 1])) (.bi .all #v[.comp (.own "_law_alike" 2 #v[.ix (.v 3) (.v 1),.ix (.v 2) (.v 1)]) (.nm 1) (.rng #v[.bi .len #v[.v 1]]) .nil [td,td,gV 1,gV 0]]))]
abbrev Is (defs:GD (Hc×Df))(f:Hc)(np nn:GP)(b:Ss):Prop:=∃df:Df,defs.lookup f=gV df/\df.ps.length=np/\df.N.length=nn/\df.body=b
def ap {defs:GD (Hc×Df)}{fuel d:GP}{f:Hc}{np nn:GP}{b:Ss}{ws:GD W}{S:aa}{Q:QW}(h:Is defs f np nn b)(hl:ws.length=np)(ok:gF b=true)
  (hb:∀Q':QO,(∀w S',Q (w,S')->Q' (.rt w,S'))->wZ (am defs fuel d) fuel b (ws.map gV++HU (nn - np) td) S Q'):wO (aE (am defs fuel (d+1)) f np ws S) Q:=by
 obtain⟨df,h1,h2,h3,h4⟩:=h;subst h4;show B8 h1 hl (hl.trans h2.symm) ok λQ' hR=>?_
 have:=hb Q' hR;unfold eQ;rw[h3,hl];exact this
abbrev d7:Ss:=
 #v[.ret (.bi .tuple #v[.comp (.ix (.c (.str "abcdef")) (.v 1)) (.nm 1) (.rng #v[.v 1]) .nil [td,td]])]
structure Gen (defs:GD (Hc×Df)):Prop where
 pick:Is defs ("_law_pick" : Hc) 2 4 cD
 names:Is defs ("_law_names" : Hc) 2 2 d7
 between:Is defs ("_law_between" : Hc) 4 4 dh
 part:Is defs ("_law_part" : Hc) 3 6 dc
 turns:Is defs ("_law_turns" : Hc) 0 0 fL
 figure:Is defs ("_law_figure" : Hc) 2 2 dE
 backs:Is defs ("_law_backs" : Hc) 2 3 d4
 rule_of:Is defs ("_law_rule_of" : Hc) 4 6 di
 free_three:Is defs ("_law_free_three" : Hc) 3 5 b8
 sizes:Is defs ("_law_sizes" : Hc) 1 2 d6
 any_rule:Is defs ("_law_any_rule" : Hc) 1 6 cN
 rising:Is defs ("_law_rising" : Hc) 1 4 dF
structure FlA (S:aa)(r q:GP)(ns:GD G0)(i c x n:G0):Prop where
 at_r:S[r]?=gV (.lst [.ref q,.int i,.int c,.int x,.int n])
 at_q:S[q]?=gV (.lst (ns.map W.int))
 lt:q < r
 i0:0<=i
 c0:0<=c
 x0:0<=x
 x1:x < 2147483647
def FlA.ne {S:aa}{r q:GP}{ns:GD G0}{i c x n:G0}(h:FlA S r q ns i c x n):q≠r:=Hu h.lt
abbrev Fl (S:aa)(r:GP):Prop:=∃(q:GP) (ns:GD G0) (i c x n:G0),FlA S r q ns i c x n
def FlA.put {S:aa}{r q:GP}{ns:GD G0}{i c x n i' c' x' n':G0}(h:FlA S r q ns i c x n)(h1:0<=i')(h2:0<=c')(h3:0<=x')(h4:x' < 2147483647):FlA (S.set r (.lst [.ref q,.int i',.int c',.int x',.int n'])) r q ns i' c' x' n':=
 #[bV h.at_r,by rw[cf (Ne.symm h.ne)]; exact h.at_q,h.lt,h1,h2,h3,h4]
def Fl.keep {S S':aa}{r:GP}(h:Fl S r)(h1:S'[r]?=S[r]?)(k:Kp r S S'):Fl S' r:=
 let ⟨q,ns,i,c,x,n,f⟩:=h; #[q,ns,i,c,x,n,by rw[h1]; exact f.at_r,k.get _ _ f.ne f.at_q,f.lt,f.i0,f.c0,f.x0,f.x1]
def Fl.lt {S:aa}{r:GP}(h:Fl S r):r < S.length:=let ⟨_,_,_,_,_,_,f⟩:=h; cj f.at_r
structure Ka (S S':aa):Prop where
 get:∀(j:GP) (o:O),S[j]?=gV o->S'[j]?=gV o
 len:S.length<=S'.length
def Ka.refl {S:aa}:Ka S S:=#[λ_ _ h=>h,G3 _]
def Ka.trans {S S' S'':aa}(a:Ka S S')(b:Ka S' S''):Ka S S'':=#[λj o h=>b.get j o (a.get j o h),Hs a.len b.len]
def Ka.push {S:aa}{o:O}:Ka S (S++[o]):=#[λj u h=>aw h,by simp]
def Ka.late {t:GP}{S0 S:aa}{o:O}(a:Ka S0 S)(h:S0.length<=t):Ka S0 (S.set t o):=
 #[λj u e=>by have:=cj e; rw[cf ∅]; exact a.get j u e,by simpa using a.len]
def Ka.kp {S S':aa}(a:Ka S S')(r:GP):Kp r S S':=#[λj o _ h=>a.get j o h,a.len]
def Fl.ka {S S':aa}{r:GP}(h:Fl S r)(k:Ka S S'):Fl S' r:=h.keep (by obtain⟨q,ns,i,c,x,n,f⟩:=h; rw[k.get _ _ f.at_r,f.at_r]) (k.kp r)
def Fl.own {S:aa}{r t:GP}{o:O}(h:Fl S r)(ht:r < t):Fl (S.set t o) r:=by
 obtain⟨q,ns,i,c,x,n,f⟩:=h;have:=f.lt;exact#[q,ns,i,c,x,n,by rw[cf ∅]; exact f.at_r,by rw[cf ∅]; exact f.at_q,f.lt,f.i0,f.c0,f.x0,f.x1]
def eG {S:aa}{r:GP}{xs:GD W}{i:GP}{w:W}{Q:QW}(h:S[r]?=gV (.lst xs))(hw:xs[i]?=gV w)(q:Q (w,S)):wO (gW (.ref r) (.int (i:G0)) S) Q:=ab (vA h (GZ i) (by rw[Ha]; exact hw)) q
def lD {S:aa}{r:GP}{xs:GD W}{i:GP}{w:W}{Q:aa->Prop}(h:S[r]?=gV (.lst xs))(hi:PZ (i+1) xs.length=true)(q:Q (S.set r (.lst (xs.set i w)))):wO (jj (.ref r) (.int (i:G0)) w S) Q:=ab (D5 h (GZ i) (by rw[Ha]; exact HI hi)) (by rw[Ha]; exact q)
section
variable{defs:GD (Hc×Df)}{fuel d:GP}{S:aa}{r:GP}{Q:QW}
def aQ (hd:Is defs ("_law_pick" : Hc) 2 4 cD){m:G0}(hf:Fl S r)(h0:0 < m)(h1:m < 1073741824)(k:∀v S',0<=v->v < m->Fl S' r->Kp r S S'->Q (.int v,S')) :
  wO (aE (am defs fuel (d+1)) "_law_pick" 2 [.ref r,.int m] S) Q:=by
 obtain⟨q,ns,i,c,x,n,f⟩:=hf;show ap hd rfl rfl λQ' hR=>?_
 replace k:∀v S',0<=v->v < m->Fl S' r->Kp r S S'->Q' (.rt (.int v),S'):=λv S' a b c e=>hR _ _ (k v S' a b c e)
 clear hR;change wZ _ _ cD [gV (.ref r),gV (.int m),td,td] S Q';have cx:∀(S1:aa) (w2:GN W) (i1 c1 x1 n1:G0),FlA S1 r q ns i1 c1 x1 n1->Kp r S S1->wZ (am defs fuel d) fuel (match cD with|.cons _ ss=>ss|.nil=>.nil) [gV (.ref r),gV (.int m),w2,td] S1 Q':=by
  intro S1 w2 i1 c1 x1 n1 f1 k1;dsimp only[cD];show st ?_;dsimp only[wS,wT,wE,wV,wG];show eG (i:=2) f1.at_r rfl ?_;dsimp only[y8,wO,wB];show ae (Q0:=Q') (λhg Q2 hn hr=>?_) (λhg Q2 hn hr=>?_)
  ·clear hn;show st ?_;dsimp only[wS,wE,wV,wG];show eG (i:=2) f1.at_r rfl (ab (oy h0) ?_);show st ?_;dsimp only[wS,wE,wV,wG,G2];show eG (i:=2) f1.at_r rfl (ab (B6 h0 h1) (lD (i:=2) f1.at_r rfl ?_));show st ?_;dsimp only[wS,wE,wV,wG,G2];exact hr _ _ (k _ _ (Ky _ ∅) (J3 _ h0) #[q,ns,i1,c1 / m,x1,n1,f1.put f1.i0 (Oe f1.c0 ∅) f1.x0 f1.x1] (k1.trans .set))
  ·show aN (hn _ _ ?_);clear hn hr;have f2:FlA (S1.set r (.lst [.ref q,.int i1,.int c1,.int x1,.int (n1+1)])) r q ns i1 c1 x1 (n1+1):=f1.put f1.i0 f1.c0 f1.x0 f1.x1;show st ?_;dsimp only[wS,wE,wV,wG];show eG (i:=4) f1.at_r rfl ?_;dsimp only[cM,wO];show lD (i:=4) f1.at_r rfl ?_;show st ?_;dsimp only[wS,wE,wV,wG,G2];show eG (i:=3) f2.at_r rfl (ab (vy #v[] #v[]) ?_)
   dsimp only[cM,wO];show eG (i:=4) f2.at_r rfl ?_;dsimp only[cM,wO];show(lD (i:=3) f2.at_r rfl ?_);have f3:FlA ((S1.set r (.lst [.ref q,.int i1,.int c1,.int x1,.int (n1+1)])).set r (.lst [.ref q,.int i1,.int c1,.int ((x1*48271+12820163+(n1+1)) % 2147483647),.int (n1+1)])) r q ns i1 c1 ((x1*48271+12820163+(n1+1)) % 2147483647) (n1+1):=f2.put f1.i0 f1.c0 (Ky _ #v[]) (J3 _ #v[])
   dsimp only[G2];generalize(x1*48271+12820163+(n1+1)) % 2147483647=y at f3 ⊢;have b1:y / 65521+7919 < 2 ^ 64:=by
    have:=f3.x1;have:=Int.ediv_le_self 65521 f3.x0;omega
   have b2 : -(2 ^ 64) < y / 65521+7919:=by
    have:=Oe f3.x0 (show(0:G0)<=65521 by decide)
    omega
   show st ?_;dsimp only[wS,wE,wV,wG,G2];show eG (i:=3) f3.at_r rfl (ab (oy #v[]) ?_)
   dsimp only[cM,wO];show eG (i:=3) f3.at_r rfl ?_;dsimp only[cM,wO];show ab (vy b2 b1) ?_;show ab (oy h0) ?_;exact k _ _ (Ky _ ∅) (J3 _ h0) #[q,ns,_,_,_,_,f3] (k1.trans (Kp.set.trans .set))
 dsimp only[cD]at cx ⊢;show st ?_;dsimp only[wS,wT,wE,wV,wG,wA];show eG (i:=2) f.at_r rfl ?_;dsimp only[iL,wO,wB];have skip:∀Q2:QO,(∀Z' S',wZ (am defs fuel d) fuel _ Z' S' Q'->Q2 (.nx Z',S'))->Q2 (.nx [gV (.ref r),gV (.int m),td,td],S):=λQ2 hn=>hn _ _ (cx S td i c x n f .refl)
 show#[λ_=>?_,λ_ Q2 hn hr=>#[λz=>(by cases z),λ_=>(aN (skip Q2 hn)).out]]
 show eG (i:=1) f.at_r rfl (eG (i:=0) f.at_r rfl (ab (Ah f.at_q) ?_));dsimp only[y6,wO,wB];show ae (Q0:=Q') (λhl Q2 hn _=>?_) (λhg Q2 hn hr=>aN (skip Q2 hn))
 clear skip;have hl':i.toNat < ns.length:=by
  have:=Ij hl;rw[GF]at this;have:=f.i0;omega
 have hcell:(ns.map W.int)[i.toNat]?=gV (.int ns[i.toNat]):=by simp[hl']
 generalize ns[i.toNat]=cell at hcell;have f1:FlA (S.set r (.lst [.ref q,.int (i+1),.int c,.int x,.int n])) r q ns (i+1) c x n:=f.put (by have:=f.i0; omega) f.c0 f.x0 f.x1
 show st ?_;dsimp only[wS,wE,wV,wG];show eG (i:=0) f.at_r rfl (eG (i:=1) f.at_r rfl (ab (vA f.at_q f.i0 hcell) ?_));show st ?_;dsimp only[wS,wE,wV,wG,G2];show eG (i:=1) f.at_r rfl ?_;dsimp only[cM,wO];show lD (i:=1) f.at_r rfl ?_;show st ?_;dsimp only[wS,wT,wE,wV,wG,B7,FV,wO,wB];show ae (Q0:=Q') (λhg Q3 hn3 _=>?_) (λhg Q3 hn3 _=>?_)
 ·show st ?_;dsimp only[wS,wE,wV,wG];show lD (i:=2) f1.at_r rfl (aN (hn3 _ _ (aN (hn _ _ ?_))));exact cx _ _ (i+1) cell x n (f1.put f1.i0 (by have:=Ij hg; omega) f.x0 f.x1) (Kp.set.trans .set)
 ·show st ?_;dsimp only[wS,wE,wV,wG];show eG (i:=3) f1.at_r rfl (ab (vy #v[] #v[]) (ab (oy #v[]) ?_))
  dsimp only[cM,wO];show lD (i:=3) f1.at_r rfl (aN (hn3 _ _ (aN (hn _ _ ?_))));exact cx _ _ (i+1) c _ n (f1.put f1.i0 f.c0 (Ky _ #v[]) (J3 _ #v[])) (Kp.set.trans .set)
end
abbrev dr:GP->Ss->Ss
 | 0,ss=>ss
 | n+1,.cons _ ss=>dr n ss
 | _,.nil=>.nil
def bJ {α:Type}{a:α}{Q:α->Prop}:wO (gV a) Q=Q a:=rfl
def aM {M:Hc->FF}{fuel:GP}{Z:Fm}{S:aa}{Q:QO}{s:Sm}{ss:Ss}(h:∀K:Fm->aa->Prop,(∀Z' S',wZ M fuel ss Z' S' Q->K Z' S')->wS M fuel s Z S K Q):wZ M fuel (.cons s ss) Z S Q:=st (h _ λ_ _ h=>h)
def g8 {n:GP}(h:PZ n 1000=true):n<=sizeLine:=Hs (HI h) (by rw[Ik]; decide)
def lE {n:GP}(h:n<=1000):n<=sizeLine:=Hs h (by rw[Ik]; decide)
def g9 {S:aa}{r:GP}{xs:GD W}{i:G0}{w:W}{Q:QW}(h:S[r]?=gV (.lst xs))(h0:0<=i)(hw:xs[i.toNat]?=gV w)(q:Q (w,S)):wO (gW (.ref r) (.int i) S) Q:=ab (vA h h0 hw) q
def ac {S:aa}{xs:GD W}{i:G0}{w:W}{Q:QW}(h0:0<=i)(hw:xs[i.toNat]?=gV w)(q:Q (w,S)):wO (gW (.tup xs) (.int i) S) Q:=ab (D3 h0 hw) q
def jb {S:aa}{r:GP}{xs:GD W}{y:W}{Q:QW}(h:S[r]?=gV (.lst xs))(hl:xs.length < 1000)(q:Q (.non,S.set r (.lst (xs++[y])))):wO (Me.append.fn (.ref r) [y] S) Q:=ab (D6 h (Hr hl (g8 rfl))) q
def qY {S:aa}{r:GP}{xs:GD W}{Q:QW}(h:S[r]?=gV (.lst xs))(q:Q (.int xs.length,S)):wO (Bi.len.fn [.ref r] S) Q:=ab (Ah h) q
def az {S:aa}{xs:GD W}{Q:QW}(q:Q (.int xs.length,S)):wO (Bi.len.fn [.tup xs] S) Q:=q
def dX {S:aa}{r:GP}{xs:GD W}{Q:QW}(h:S[r]?=gV (.lst xs))(q:Q (.tup xs,S)):wO (Bi.tuple.fn [.ref r] S) Q:=ab (D7 h) q
abbrev Ee (y:Hc):Prop:=∀c∈y.cps.toList,97<=c/\c<=122
abbrev Name (y:Hc):Prop:=1<=y.cps.toList.length/\y.cps.toList.length<=8/\Ee y
def vD {α:Type}{f:α->W}{xs:GD α}{i:GP}(h:i < xs.length):∃x∈xs,(xs.map f)[i]?=gV (f x):=#[xs[i],HW _,by rw[GV,G1 h]; rfl]
def mT {α:Type}[Kf α]:∀(l m:GD α),l.Nodup->(∀x∈l,x∈m)->l.length<=m.length
 | [],_,_,_=>IB _
 | x::l,m,hn,hs=>by
  rw[IS]at hn;have hx:x∈m:=hs x (.head _);have h1:=mT l (m.erase x) hn.2 λy hy=>(List.mem_erase_of_ne (λ(e:y=x)=>hn.1 (by rw[<- e]; exact hy))).mpr (hs y (.tail _ hy))
  rw[List.length_erase_of_mem hx]at h1;have:=L3 hx;rw[HK]; omega
abbrev zf (k:GP):Hc:=#[[97+k].toArray]
def sF {k:GP}(h:k < 26):Name (zf k):=#[G3 1,(by decide:1<=8),λc hc=>by
 cases G6.mp (show c∈[97+k]from hc)
 omega]
abbrev pN:GD Hc:=["marks","ways","bar","some","each","not","and","or","is"]
def cO {xs:GD W}{k:GP}:jh xs td (gV (k:G0))=xs.take k:=by
 unfold jh;rw[HT.jx,HT.qm,Oy,Nx]
 by_cases h:k<=xs.length
 ·rw[Of h]
 ·rw[NV ∅,KT (G3 _),KT ∅]
def j3 {xs:GD W}{k:GP}:jh xs (gV (k:G0)) td=xs.drop k:=by
 unfold jh;rw[HT.jx,HT.qm]
 by_cases h:k<=xs.length
 ·rw[Of h,KT (by rw[IY]; exact G3 _)]
 ·rw[NV ∅,L4 (G3 _),L4 ∅]; exact List.take_nil
section
variable{defs:GD (Hc×Df)}{fuel d:GP}{S:aa}{r:GP}{Q:QW}
def vE:∀m,m<=6->(pN++(G8 m).map zf).Nodup:=λm hm=>by
 rcases(show m=0\/m=1\/m=2\/m=3\/m=4\/m=5\/m=6 by omega)with rfl|rfl|rfl|rfl|rfl|rfl|rfl <;> decide
def zh:∀k:Fin 6,("abcdef" : Hc).cps.toList[k.val]?=gV (97+k.val):=by decide
def zj (hfu:20 < fuel)(G:Gen defs){m:GP}(hf:Fl S r)(h1:m<=6)(k:∀(ys:GD Hc) S',ys.length=m->(∀y∈ys,Name y)->(pN++ys).Nodup->Fl S' r->Kp r S S'->Q (.tup (ys.map W.str),S')) :
  wO (aE (am defs fuel (d+4)) "_law_names" 2 [.ref r,.int m] S) Q:=by
 show ap G.names rfl rfl λQ' hR=>?_
 change wZ _ _ d7 [gV (.ref r),gV (.int m)] S Q';dsimp only[d7];show st ?_;dsimp only[wS,wE,wA];show fX (m:G0) (λi ys Z2 S2=>(∃a1,Z2=[td,a1])/\ys=((G8 i).map zf).map W.str/\S2=S) rfl rfl rfl ∅ #[rfl,#[td,rfl],rfl,rfl] ?_ ?_
 ·rintro i ys Z2 S2 hi ⟨⟨a1,rfl⟩,rfl,rfl⟩;dsimp only[fm,wC,wE,wV,wG,G2];show#[λ_=>ab (D4 (c:=97+i) #v[] (GZ i) ?_) #[#[_,rfl],?_,rfl],λz=>by cases z]
  ·rw[Ha]; exact zh #[i,∅]
  ·rw[IL,Hh,Hh]; rfl
 ·rintro ys Z2 S2 ⟨_,rfl,rfl⟩;rw[Ha];show#[lE (by rw[GF,GF,Hq]; omega),dX aj (hR _ _ (k ((G8 m).map zf) _ (by rw[GF,Hq]) (λy hy=>?_) (vE m h1) (hf.ka .push) .push))]
  obtain⟨i,hi,rfl⟩:=Hi.mp hy;exact sF (by have:=Hd.mp hi; omega)
end
noncomputable abbrev Pt:=G0×GD G0
noncomputable abbrev Wd:=GD Pt
abbrev ag (p:Pt):W:=.tup [.int p.1,.tup (p.2.map W.int)]
abbrev ak (u:Wd):W:=.tup (u.map ag)
abbrev oA (p:Pt):T:=.tup [.int p.1,.tup (p.2.map T.int)]
abbrev dy (u:Wd):T:=.tup (u.map oA)
def qZ:∀xs:GD G0,T.ws (xs.map T.int)=xs.map W.int
 | []=>rfl
 | x::xs=>by simp[T.ws,T.w,qZ xs]
def Ef (p:Pt):(oA p).w=ag p:=by simp[oA,ag,T.w,T.ws,qZ]
def vF:∀u:Wd,T.ws (u.map oA)=u.map ag
 | []=>rfl
 | p::u=>by simp[T.ws,Ef,vF u]
def vG (u:Wd):(dy u).w=ak u:=by simp[dy,ak,T.w,vF]
def vH (u:Wd):W.t (ak u)=gV (dy u):=by rw[<- vG]; exact T.w_t _
def vI:∀us:GD Wd,T.ws (us.map dy)=us.map ak
 | []=>rfl
 | u::us=>by simp[T.ws,vG,vI us]
def Am (us:GD Wd):W.ts (us.map ak)=gV (us.map dy):=by rw[<- vI]; exact T.ws_ts _
def j4:∀xs:GD G0,T.depths (xs.map T.int)=0
 | []=>rfl
 | x::xs=>by simp[T.depths,T.depth,j4 xs]
def vJ (p:Pt):(oA p).depth=2:=by simp[oA,T.depth,T.depths,j4]
def lF:∀u:Wd,T.depths (u.map oA)<=2
 | []=>by simp[T.depths]
 | p::u=>by
  have:=lF u;simp only[Ir,T.depths,vJ]; omega
def oB (u:Wd):(dy u).depth<=3:=by
 have:=lF u;simp only[dy,T.depth]; omega
def iN:∀us:GD Wd,T.depths (us.map dy)<=3
 | []=>by simp[T.depths]
 | u::us=>by
  have:=iN us;have:=oB u;simp only[Ir,T.depths]; omega
def gH (u:Wd):ji (ak u)=gV (dy u):=by
 unfold ji;rw[vH];show(if (dy u).isTup=true/\(dy u).depth<=bg then _ else _)=_
 rw[Ho #[rfl,by have:=oB u; unfold bg; omega]]
mutual
def oD:T->T->Hj
 | .int _,.int _=>true
 | .str _,.str _=>true
 | .tup xs,.tup ys=>hG xs ys
 | _,_=>false
def hG:GD T->GD T->Hj
 | [],_=>true
 | _,[]=>true
 | x::xs,y::ys=>oD x y&&hG xs ys
end
mutual
theorem vK:∀x y:T,oD x y=true->(yf x y).isSome=true
 | .int _,.int _,_=>rfl
 | .str _,.str _,_=>rfl
 | .tup xs,.tup ys,h=>by
  dsimp only[oD]at h;dsimp only[yf];exact q8 xs ys h
 | .int _,.str _,h|.int _,.tup _,h|.str _,.int _,h|.str _,.tup _,h|.tup _,.int _,h|.tup _,.str _,h=>by cases h
theorem q8:∀xs ys:GD T,hG xs ys=true->(nQ xs ys).isSome=true
 | [],[],_=>rfl
 | [],_::_,_=>rfl
 | _::_,[],_=>rfl
 | x::xs,y::ys,h=>by
  dsimp only[hG]at h; simp only[GQ]at h
  dsimp only[nQ];split
  ·exact q8 xs ys h.2
  ·exact vK x y h.1
end
def oE:∀xs ys:GD G0,hG (xs.map T.int) (ys.map T.int)=true
 | [],_=>rfl
 | _::_,[]=>rfl
 | x::xs,y::ys=>by dsimp only[PR,hG,oD]; simp[oE xs ys]
def B9 (p q:Pt):oD (oA p) (oA q)=true:=by dsimp only[oA,oD,hG]; simp[oE]
def q9:∀u v:Wd,hG (u.map oA) (v.map oA)=true
 | [],_=>rfl
 | _::_,[]=>rfl
 | p::u,q::v=>by dsimp only[PR,hG]; simp[B9,q9 u v]
def Cb (u v:Wd):oD (dy u) (dy v)=true:=by dsimp only[dy,oD]; exact q9 _ _
def lG (us:GD Wd):jI (us.map dy)=true:=by
 unfold jI;rw[Hk];intro x hx;obtain⟨u,_,rfl⟩:=Hi.mp hx;rw[Hk];intro y hy;obtain⟨v,_,rfl⟩:=Hi.mp hy;exact vK _ _ (Cb u v)
def Cc (us:GD Wd)(h:∀u∈us,u≠[]):(yg (us.map dy)).isSome=true:=by
 unfold yg;split
 ·rfl
 ·split
  ·rfl
  ·split
   ·rfl
   ·split
    ·rfl
    ·split
     ·rfl
     ·rename_i h5;exfalso;apply h5;rw[Hk];intro x hx;obtain⟨u,hu,rfl⟩:=Hi.mp hx;cases u with
      | nil=>exact absurd rfl (h [] hu)
      | cons p u=>rfl
abbrev bv (bs:GD G0)(u:Wd)(i j:GP):G0:=if j < i then((u.getD i (0,[])).2).getD j 0 else bs.getD (((u.getD j (0,[])).2).getD i 0).toNat 0
abbrev ar (bs:GD G0)(u:Wd)(ps:GD GP):Wd:=(G8 ps.length).map λk=>((u.getD (ps.getD k 0) (0,[])).1,(ps.take k).map λj=>bv bs u (ps.getD k 0) j)
abbrev ay:GD (GD GP):=[[0,1,2],[0,2,1],[1,0,2],[1,2,0],[2,0,1],[2,1,0]]
abbrev j5 (bs:GD G0)(u:Wd):Wd:=(ay.map (ar bs u)).getD (mD ((ay.map (ar bs u)).map dy)) []
abbrev aB (n:Hc)(b:G0):W:=.tup [.str n,.int b]
structure GoodW (a n:GP)(u:Wd):Prop where
 mark:∀(k:GP) (p:Pt),u[k]?=gV p->0<=p.1/\p.1 < a
 len:∀(k:GP) (p:Pt),u[k]?=gV p->p.2.length=k
 way:∀(k:GP) (p:Pt),u[k]?=gV p->∀w∈p.2,0<=w/\w < n
abbrev GoodB (bs:GD G0):Prop:=bs=[0]\/bs=[0,1]\/bs=[1,0]\/bs=[0,1,2]\/bs=[1,0,2]\/bs=[0,2,1]
def GoodB.rng {bs:GD G0}(h:GoodB bs):∀k:GP,k < bs.length->∃b:G0,bs[k]?=gV b/\0<=b/\b < bs.length:=by
 rcases h with rfl|rfl|rfl|rfl|rfl|rfl <;> intro k hk
 ·match k,hk with
  | 0,_=>exact#[0,rfl,#v[],#v[]]
 ·match k,hk with
  | 0,_=>exact#[0,rfl,#v[],#v[]]
  | 1,_=>exact#[1,rfl,#v[],#v[]]
 ·match k,hk with
  | 0,_=>exact#[1,rfl,#v[],#v[]]
  | 1,_=>exact#[0,rfl,#v[],#v[]]
 ·match k,hk with
  | 0,_=>exact#[0,rfl,#v[],#v[]]
  | 1,_=>exact#[1,rfl,#v[],#v[]]
  | 2,_=>exact#[2,rfl,#v[],#v[]]
 ·match k,hk with
  | 0,_=>exact#[1,rfl,#v[],#v[]]
  | 1,_=>exact#[0,rfl,#v[],#v[]]
  | 2,_=>exact#[2,rfl,#v[],#v[]]
 ·match k,hk with
  | 0,_=>exact#[0,rfl,#v[],#v[]]
  | 1,_=>exact#[2,rfl,#v[],#v[]]
  | 2,_=>exact#[1,rfl,#v[],#v[]]
def getD_some {α:Type}{xs:GD α}{i:GP}{x d:α}(h:xs[i]?=gV x):xs.getD i d=x:=by simp[h]
def aq {α:Type}{xs:GD α}{i:GP}{d:α}(h:i < xs.length):xs[i]?=gV (xs.getD i d):=by simp[h]
def j6 {ns:GD Hc}{bs:GD G0}{k:GP}{n:Hc}{b:G0}(h1:ns[k]?=gV n)(h2:bs[k]?=gV b):(GY aB ns bs)[k]?=gV (aB n b):=by
 rw[List.getElem?_zipWith,h1,h2]
abbrev au (ps:GD GP):GD W:=ps.map λ(p:GP)=>W.int (p:G0)
def js {ps:GD GP}{k p:GP}(h:ps[k]?=gV p):(au ps)[k]?=gV (.int p):=by simp[au,h]
def aT (bs:GD G0)(u:Wd)(ps:GD GP):(ar bs u ps).length=ps.length:=by unfold ar; rw[GF,Hq]
def cm {u:Wd}{i:GP}(hi:i < u.length):(u.map ag)[((i:GP):G0).toNat]?=gV (ag (u.getD i (0,[]))):=by
 rw[Ha,GV,aq hi]; rfl
section
variable{defs:GD (Hc×Df)}{fuel d:GP}{S:aa}{r:GP}{Q:QW}
def vL {M:Hc->FF}{m0 b0:W}{ns:GD Hc}{bs:GD G0}{a:GP}{u:Wd}{i j:GP}{Q:QO}(hb:GoodB bs)(hl:ns.length=bs.length)(hu:GoodW a bs.length u)(hi:i < u.length)(hj:j < u.length)(hij:i≠j)(k:Q (.rt (.int (bv bs u i j)),S)) :
  wZ M fuel dh [gV (.tup [m0,.tup (GY aB ns bs),b0]),gV (ak u),gV (.int i),gV (.int j)] S Q:=by
 have hpi:=aq (d:=(0,[])) hi;have hpj:=aq (d:=(0,[])) hj;unfold bv at k;dsimp only[dh];nofun
 dsimp only[wS,wT,wE,wV,wG,y6,wO,wB,ak];show ae (Q0:=Q) (λh Q2 _ hr=>?_) (λh Q2 hn _=>?_)
 ·have hji:j < i:=by have:=Ij h; omega
  rw[Ho hji]at k;have hw:j < (u.getD i (0,[])).2.length:=by rw[hu.len i _ hpi]; exact hji
  show st ?_;dsimp only[wS,wE,wV,wG];show ac (GZ i) (cm hi) (ac #v[] rfl (ac (GZ j) ?_ (hr _ _ k)))
  rw[Ha,GV,aq (d:=0) hw]; rfl
 ·have hji:¬ j < i:=by have:=JB h; omega
  rw[HD hji]at k;show aN (hn _ _ (hK _ _ ?_));clear hn hK;have hw:i < (u.getD j (0,[])).2.length:=by rw[hu.len j _ hpj]; omega
  have hg:=aq (d:=0) hw;obtain⟨g1,g2⟩:=hu.way j _ hpj _ (G7 hg);obtain⟨b,hb1,hb2,hb3⟩:=hb.rng ((u.getD j (0,[])).2.getD i 0).toNat ∅
  have hn:((u.getD j (0,[])).2.getD i 0).toNat < ns.length:=∅
  rw[getD_some hb1]at k;show st ?_;dsimp only[wS,wE,wV,wG];show ac #v[] rfl (ac (GZ j) (cm hj) (ac #v[] rfl (ac (GZ i) ?_ (ac g1 (j6 (G1 hn) hb1) (ac #v[] rfl k)))))
  rw[Ha,GV,hg]; rfl
def lH (G:Gen defs){m0 b0:W}{ns:GD Hc}{bs:GD G0}{a:GP}{u:Wd}{i j:GP}(hb:GoodB bs)(hl:ns.length=bs.length)(hu:GoodW a bs.length u)(hi:i < u.length)(hj:j < u.length)(hij:i≠j)(k:Q (.int (bv bs u i j),S)) :
  wO (aE (am defs fuel (d+1)) "_law_between" 4 [.tup [m0,.tup (GY aB ns bs),b0],ak u,.int i,.int j] S) Q:=
 ap G.between rfl rfl λQ' hR=>vL hb hl hu hi hj hij (hR _ _ k)
def vM (G:Gen defs){m0 b0:W}{ns:GD Hc}{bs:GD G0}{a:GP}{u:Wd}{ps:GD GP}(hb:GoodB bs)(hl:ns.length=bs.length)(hu:GoodW a bs.length u)(hps:∀p∈ps,p < u.length)(hnd:ps.Nodup)(hsz:ps.length < 1000)(k:∀S',Ka S S'->Q (ak (ar bs u ps),S')) :
  wO (aE (am defs fuel (d+2)) "_law_part" 3 [.tup [m0,.tup (GY aB ns bs),b0],ak u,.tup (au ps)] S) Q:=by
 show ap G.part rfl rfl λQ' hR=>?_
 replace k:∀S',Ka S S'->Q' (.rt (ak (ar bs u ps)),S'):=λS' a=>hR _ _ (k S' a)
 clear hR;change wZ _ _ dc [gV (.tup [m0,.tup (GY aB ns bs),b0]),gV (ak u),gV (.tup (au ps)),td,td,td] S Q';generalize hR0:W.tup [m0,.tup (GY aB ns bs),b0]=R;dsimp only[dc];show st ?_;dsimp only[wS,wE,wA,G2];nofun
 have nl:(au ps).length=ps.length:=GF ..;show bB (ps.length:G0) (λk Z S'=>∃a4 a5,Z=[gV R,gV (ak u),gV (.tup (au ps)),gV (.ref S.length),a4,a5]/\S'[S.length]?=gV (.lst (((ar bs u ps).take k).map ag))/\Ka S S') rfl rfl ∅ ?_ ?_ ?_
 ·dsimp only[wE,wA,wV,wG];show az ?_;rw[nl];exact#[rfl,td,td,rfl,aj,.push]
 ·rintro i Z S1 hi ⟨a4,a5,rfl,e1,k1⟩ Q2 hn _;clear hK;have hi':i < ps.length:=∅
  have hp:ps[i]?=gV ps[i]:=G1 hi';have hpu:ps[i] < u.length:=hps _ (HW hi');show st ?_;dsimp only[wS,wE,wV,wG,G2];show ac (GZ i) (by rw[Ha]; exact js hp) ?_
  show st ?_;left;show#[da e1,ac (GZ _) (cm hpu) (ac #v[] rfl ?_)]
  show mS (au (ps.take i)) (λj ys Z2 S2=>(∃a1,Z2=[td,a1,gV (.int ps[i]),gV R,gV (ak u)])/\ys=((ps.take i).take j).map (λq=>W.int (bv bs u ps[i] q))/\Ka S1 S2) rfl rfl rfl ?_ ?_ ?_
  ·dsimp only[wE,wP,wV,wG,wN];show ab (a:=(.tup (au (ps.take i)),S1)) ?_ #[rfl,#[td,rfl],rfl,.refl];simp only[fR,cO];unfold au;rw[Kb]
  ·rintro j w ys Z2 S2 hw ⟨⟨a1,rfl⟩,rfl,k2⟩;have hjl:j < (ps.take i).length:=by
    have:=(G5.mp hw).1;unfold au at this
    rwa [GF]at this
   have hq:(ps.take i)[j]?=gV (ps.take i)[j]:=G1 hjl;cases(js hq).symm.trans hw;have hj:j < i:=by rw[Hm]at hjl; omega
   have eq:(ps.take i)[j]=ps[j]'∅:=Ke
   generalize(ps.take i)[j]=q at hq eq ⊢;show ab (show fq (.nm 1) (.int (q:G0)) [td,a1,gV (.int ps[i]),gV R,gV (ak u)] S2=gV ([td,gV (.int (q:G0)),gV (.int ps[i]),gV R,gV (ak u)],S2)from rfl) ?_
   dsimp only[fm,wC,wE,wA,wV,wG];subst hR0;show#[λ_=>lH (d:=d) G hb hl hu hpu (by rw[eq]; exact hps _ (HW _)) ?_ #[#[_,rfl],?_,k2],λz=>by cases z]
   ·rw[eq];intro h;have:=(Ji hnd).mp h;omega
   ·rw[HJ,hq];simp
  ·rintro ys Z2 S2 ⟨_,rfl,k2⟩;rw[show(au (ps.take i)).length=(ps.take i).length from GF ..,HP]
   show#[lE (by rw[GF,Hm]; omega),dX aj ?_]
   have e2:=aw (u:=O.lst ((ps.take i).map λq=>W.int (bv bs u ps[i] q))) (k2.get _ _ e1)
   show jb e2 (by rw[GF,Hm]; omega) (aN (hn _ _ #[_,_,rfl,?_,((k1.trans k2).trans .push).late (G3 _)]))
   rw[bV e2];have ep:(ar bs u ps)[i]?=gV ((u.getD ps[i] (0,[])).1,(ps.take i).map λq=>bv bs u ps[i] q):=by
    unfold ar;rw[GV,Jf hi',HA,getD_some hp]
   rw[HJ,ep];simp[ag,KP]
 ·rintro Z S1 ⟨a4,a5,rfl,e1,k1⟩;rw[Ha,<- aT bs u ps,HP]at e1;show hK _ _ (st ?_);left;exact dX e1 (k _ k1)
def rc (G:Gen defs)(k:Q (.ref S.length,S++[.lst (ay.map λt=>W.tup (au t))])):wO (aE (am defs fuel (d+1)) "_law_turns" 0 [] S) Q:=by
 show ap G.turns rfl rfl λQ' hR=>?_
 dsimp only[fL];show st ?_;dsimp only[wS,wE,wA];exact hR _ _ k
def eS (bt:GP->GP->Hj):∀n:GP,argBest bt n<=n
 | 0=>G3 _
 | n+1=>by have:=eS bt n; simp only[argBest]; split <;> omega
def oF (G:Gen defs){m0 b0:W}{ns:GD Hc}{bs:GD G0}{a:GP}{u:Wd}(hb:GoodB bs)(hl:ns.length=bs.length)(hu:GoodW a bs.length u)(h3:u.length=3)(k:∀S',Ka S S'->Q (ak (j5 bs u),S')) :
  wO (aE (am defs fuel (d+3)) "_law_figure" 2 [.tup [m0,.tup (GY aB ns bs),b0],ak u] S) Q:=by
 show ap G.figure rfl rfl λQ' hR=>?_
 replace k:∀S',Ka S S'->Q' (.rt (ak (j5 bs u)),S'):=λS' a=>hR _ _ (k S' a)
 clear hR;change wZ _ _ dE [gV (.tup [m0,.tup (GY aB ns bs),b0]),gV (ak u)] S Q';generalize hR0:W.tup [m0,.tup (GY aB ns bs),b0]=R;dsimp only[dE];show st ?_;dsimp only[wS,wE,wA];show ze S.length (ay.map λt=>W.tup (au t)) (λi ys Z2 S2=>(∃a1,Z2=[td,a1,gV R,gV (ak u)])/\ys=((ay.take i).map λt=>ak (ar bs u t))/\Ka (S++[.lst (ay.map λt=>W.tup (au t))]) S2) rfl rfl rfl ?_ ?_ ?_ ?_
 ·dsimp only[wE,wA];exact rc (d:=d+1) G #[rfl,#[td,rfl],rfl,.refl]
 ·rintro i ys Z2 S2 ⟨_,_,k2⟩;exact k2.get _ _ aj
 ·rintro i w ys Z2 S2 hw ⟨⟨a1,rfl⟩,rfl,k2⟩;rw[GV,GM]at hw;obtain⟨t,ht,rfl⟩:=hw;have ht3:(∀p∈t,p < 3)/\t.Nodup/\t.length < 1000:=by
   have:∀t∈ay,(∀p∈t,p < 3)/\t.Nodup/\t.length < 1000:=by decide
   exact this t (G7 ht)
  show ab (show fq (.nm 1) (.tup (au t)) [td,a1,gV R,gV (ak u)] S2=gV ([td,gV (.tup (au t)),gV R,gV (ak u)],S2)from rfl) ?_
  dsimp only[fm,wC,wE,wA,wV,wG];subst hR0;show#[λ_=>vM (d:=d) G hb hl hu (λp hp=>by rw[h3]; exact ht3.1 p hp) ht3.2.1 ht3.2.2 λS3 k3=>#[#[_,rfl],?_,k2.trans k3],λz=>by cases z]
  rw[HJ,ht];simp
 ·rintro ys Z2 S2 ⟨_,rfl,k2⟩;have e:((ay.take (ay.map λt=>W.tup (au t)).length).map λt=>ak (ar bs u t))=(ay.map (ar bs u)).map ak:=by
   rw[GF,HP,IG]; rfl
  rw[e];show#[g8 rfl,ab (a:=(ak (j5 bs u),S2++[.lst ((ay.map (ar bs u)).map ak)])) ?_ (k _ ((Ka.push.trans k2).trans .push))]
  (dsimp only[Bi.fn,yj]; simp only[aI aj,Am])
  rw[Ho #[by have:=iN (ay.map (ar bs u)); unfold d3; omega,lG _]]
  unfold j5;have hlt:mD ((ay.map (ar bs u)).map dy) < (ay.map (ar bs u)).length:=Lj (eS _ _) (by decide:5 < 6)
  rw[GV,aq (d:=[]) hlt];rfl
end
abbrev al (xs:GD G0):GD W:=xs.map W.int
abbrev hW (us:GD Wd):GD Wd:=eA (zY (us.map dy)) [] us
def vN {α β:Type}{lt:GP->GP->Hj}{d:α}{d':β}{f:α->β}{us:GD α}:eA lt d' (us.map f)=(eA lt d us).map f:=by
 unfold eA;rw[GF];split
 ·rfl
 ·rw[IG];show Im λi hi=>?_
  have hl:i < us.length:=mE ∅ i hi
  simp[hl]
def pO {S:aa}{x:W}{us:GD Wd}(h:ee S x=gV (us.map ak))(h64:us.length < 64)(hne:∀u∈us,u≠[]):gX [x] S=gV (.ref S.length,S++[.lst ((hW us).map ak)]):=by
 have ok:mC (us.map dy)=true:=by
  unfold mC;simp only[GQ,IK,Hy,GF];exact#[#[h64,by have:=iN us; unfold d3; omega],.inr #[Cc us hne,lG us]]
 simp only[gX,h,Am];rw[Ho ok,vN (d:=[])];rfl
abbrev d8 (ms ns:GD Hc)(bs:GD G0)(us:GD Wd):W:=.tup [.tup (ms.map W.str),.tup (GY aB ns bs),.tup (us.map ak)]
structure GoodN (ms ns:GD Hc):Prop where
 name:∀y∈ms++ns,Name y
 nd:(pN++(ms++ns)).Nodup
def GoodW.nil {a n:GP}:GoodW a n []:=#[λk p h=>(by simp at h),λk p h=>(by simp at h),λk p h=>(by simp at h)]
def GoodW.snoc {a n:GP}{u:Wd}{m:G0}{ws:GD G0}(h:GoodW a n u)(h1:0<=m/\m < a)(h2:ws.length=u.length)(h3:∀w∈ws,0<=w/\w < (n:G0)):GoodW a n (u++[(m,ws)]):=by
 have key:∀(k:GP) (p:Pt),(u++[(m,ws)])[k]?=gV p->u[k]?=gV p\/(k=u.length/\p=(m,ws)):=λk p e=>by
  rcases Ny k u.length with hk|hk
  ·rw[HC hk]at e; exact .inl e
  ·rw[HN hk]at e;have:k - u.length=0:=by
    have:=(G5.mp e).1;simp at this; omega
   rw[this]at e;cases e;exact .inr #[∅,rfl]
 show#[λk p e=>?_,λk p e=>?_,λk p e=>?_] <;> rcases key k p e with e|⟨rfl,rfl⟩
 ·exact h.mark k p e
 ·exact h1
 ·exact h.len k p e
 ·exact h2
 ·exact h.way k p e
 ·exact h3
def GoodB.inv {bs:GD G0}(h:GoodB bs):∀k:GP,k < bs.length->bs.getD (bs.getD k 0).toNat 0=k:=by
 rcases h with rfl|rfl|rfl|rfl|rfl|rfl <;> decide
def GoodB.at {bs:GD G0}(h:GoodB bs){x:G0}(h0:0<=x)(h1:x < bs.length):bs[x.toNat]?=gV (bs.getD x.toNat 0)/\0<=bs.getD x.toNat 0/\bs.getD x.toNat 0 < bs.length:=by
 obtain⟨b,h2,h3⟩:=h.rng x.toNat ∅
 rw[getD_some h2];exact#[h2,h3]
def vO {S:aa}{x:W}{us:GD Wd}{Q:QW}(h:ee S x=gV (us.map ak))(h64:us.length < 64)(hne:∀u∈us,u≠[])(q:Q (.ref S.length,S++[.lst ((hW us).map ak)])):wO (Bi.sorted.fn [x] S) Q:=by
 show ab ?_ q;exact pO h h64 hne
abbrev vP:GD (GP×GP):=[(1,1),(2,1),(3,1),(1,2),(1,2),(2,2),(2,2),(3,2),(1,3),(1,3),(2,3)]
def vQ:∀p∈vP,1<=p.1/\p.1<=3/\1<=p.2/\p.2<=3/\p.1*p.2<=6:=by decide
abbrev j7:GP->GD (GD G0)
 | 1=>[[0]]
 | 2=>[[0,1],[1,0]]
 | _=>[[0,1,2],[1,0,2],[0,2,1]]
def vR:∀n:GP,1<=n->n<=3->(∀b∈j7 n,GoodB b/\b.length=n)/\0 < (j7 n).length/\(j7 n).length<=3
 | 1,_,_=>#[λb h=>by cases G6.mp h; exact#[.inl rfl,rfl],#v[],#v[]]
 | 2,_,_=>#[λb h=>by
   rcases Hn.mp h with rfl|h
   ·exact#[.inr (.inl rfl),rfl]
   ·cases G6.mp h; exact#[.inr (.inr (.inl rfl)),rfl],#v[],#v[]]
 | 3,_,_=>#[λb h=>by
   rcases Hn.mp h with rfl|h
   ·exact#[.inr (.inr (.inr (.inl rfl))),rfl]
   ·rcases Hn.mp h with rfl|h
    ·exact#[.inr (.inr (.inr (.inr (.inl rfl)))),rfl]
    ·cases G6.mp h; exact#[.inr (.inr (.inr (.inr (.inr rfl)))),rfl],#v[],#v[]]
 | 0,h,_=>absurd h #v[]
 | n+4,_,h=>absurd h ∅
section
variable{defs:GD (Hc×Df)}{fuel d:GP}{S:aa}{r:GP}{Q:QW}
def zm (G:Gen defs)(hf:Fl S r)(k:∀(a n:GP) S',1<=a->a<=3->1<=n->n<=3->a*n<=6->Fl S' r->Kp r S S'->Q (.tup [.int a,.int n],S')) :
  wO (aE (am defs fuel (d+2)) "_law_sizes" 1 [.ref r] S) Q:=by
 show ap G.sizes rfl rfl λQ' hR=>?_
 change wZ _ _ d6 [gV (.ref r),td] S Q';dsimp only[d6];show st ?_;dsimp only[wS,wE,wA,G2];show st ?_;left;show aQ (d:=d) G.pick (hf.ka .push) #v[] #v[] λv S1 v0 v1 f1 k1=>?_
 have e:=k1.get _ _ (JK hf.lt) aj;obtain⟨p,hp,ep⟩:=vD (f:=λp:GP×GP=>W.tup [.int p.1,.int p.2]) (xs:=vP) (i:=v.toNat) (by change v.toNat < 11; omega)
 obtain⟨a1,a3,n1,n3,an⟩:=vQ p hp;exact g9 e v0 ep (hR _ _ (k _ _ _ a1 a3 n1 n3 an f1 (Kp.push.trans k1)))
def zo (G:Gen defs){n:GP}(hf:Fl S r)(h1:1<=n)(h3:n<=3)(k:∀(bs:GD G0) S',GoodB bs->bs.length=n->Fl S' r->Kp r S S'->Q (.tup (al bs),S')) :
  wO (aE (am defs fuel (d+2)) "_law_backs" 2 [.ref r,.int n] S) Q:=by
 show ap G.backs rfl rfl λQ' hR=>?_
 replace k:∀(bs:GD G0) S',GoodB bs->bs.length=n->Fl S' r->Kp r S S'->Q' (.rt (.tup (al bs)),S'):=λz S' a b c e=>hR _ _ (k z S' a b c e)
 clear hR;change wZ _ _ d4 [gV (.ref r),gV (.int n),td] S Q';dsimp only[d4];nofun
 left;dsimp only[ja,bJ];obtain⟨hg,g0,g3⟩:=vR n h1 h3;have fin:∀(t:GP) (S1:aa),S.length<=t->S1[t]?=gV (.lst ((j7 n).map λb=>.tup (al b)))->Ka S S1->K [gV (.ref r),gV (.int n),gV (.ref t)] S1:=by
  intro t S1 ht et ka;show hK _ _ (st ?_);left;show qY et ?_;rw[GF];show aQ (d:=d) G.pick (hf.ka ka) ∅ ∅ λv S2 v0 v1 f2 k2=>?_
  have e2:=k2.get _ _ (by have:=hf.lt; omega) et
  obtain⟨b,hb,eb⟩:=vD (f:=λb:GD G0=>W.tup (al b)) (xs:=j7 n) (i:=v.toNat) ∅
  exact g9 e2 v0 eb (k b S2 (hg b hb).1 (hg b hb).2 f2 ((ka.kp r).trans k2))
 clear hK g0 g3 hg;rcases(show n=1\/n=2\/n=3 by omega)with rfl|rfl|rfl
 ·exact eG (i:=0) aj rfl (fin _ _ (G3 _) (aw (aw (aw aj))) (Ka.push.trans (Ka.push.trans (Ka.push.trans .push))))
 ·exact eG (i:=1) aj rfl (fin _ _ (by simp) (aw (aw aj)) (Ka.push.trans (Ka.push.trans (Ka.push.trans .push))))
 ·exact eG (i:=2) aj rfl (fin _ _ (by simp only[GJ]; omega) (aw aj) (Ka.push.trans (Ka.push.trans (Ka.push.trans .push))))
def iO (hfu:20 < fuel)(G:Gen defs){a:GP}{bs:GD G0}{x:W}{us:GD Wd}(hf:Fl S r)(ha:a<=3)(hb:bs.length<=3)(hx:∀S',Kp r S S'->ee S' x=gV (us.map ak))(h64:us.length < 64)(hne:∀u∈us,u≠[])
  (k:∀(ms ns:GD Hc) S',ms.length=a->ns.length=bs.length->GoodN ms ns->Fl S' r->Kp r S S'->Q (d8 ms ns bs (hW us),S')) :
  wO (aE (am defs fuel (d+5)) "_law_rule_of" 4 [.ref r,.int a,.tup (al bs),x] S) Q:=by
 show ap G.rule_of rfl rfl λQ' hR=>?_
 replace k:∀(ms ns:GD Hc) S',ms.length=a->ns.length=bs.length->GoodN ms ns->Fl S' r->Kp r S S'->Q' (.rt (d8 ms ns bs (hW us)),S'):=λz y S' a b c e f=>hR _ _ (k z y S' a b c e f)
 clear hR;change wZ _ _ di [gV (.ref r),gV (.int a),gV (.tup (al bs)),gV x,td,td] S Q';have hbl:(al bs).length=bs.length:=GF ..;dsimp only[di];nofun
 left;show az ?_;rw[hbl];dsimp only[cM,bJ];show zj (d:=d) (m:=a+bs.length) hfu G hf ∅ λys S1 q2 q3 q4 f1 k1=>hK _ _ ?_
 clear hK K;have hzl:(GY aB (ys.drop a) bs).length=bs.length:=by
  rw[IC,IY]; omega
 nofun
 dsimp only[wS,wE,wA,G2];show fX (bs.length:G0) (λk zs Z2 S2=>(∃a1,Z2=[td,a1,gV (.tup (al bs)),gV (.int a),gV (.tup (ys.map W.str))])/\zs=((GY aB (ys.drop a) bs).take k)/\S2=S1) rfl rfl rfl ∅ ?_ ?_ ?_
 ·dsimp only[wE,wA,wV,wG];show az ?_;rw[hbl];exact#[rfl,#[td,rfl],rfl,rfl]
 ·rintro i zs Z2 S2 hi ⟨⟨a1,rfl⟩,rfl,rfl⟩;clear hK;have hi':i < bs.length:=∅
  have h1:a+i < ys.length:=∅
  dsimp only[fm,wC,wE,wA,wV,wG,G2,cM,bJ];show#[λ_=>ac ∅ (w:=.str ys[a+i]) ?_ (ac ∅ (w:=.int bs[i]) ?_ #[#[_,rfl],?_,rfl]),λz=>by cases z]
  ·rw[show((a:G0)+(i:G0)).toNat=a+i by omega,GV,G1 h1]; rfl
  ·unfold al;rw[Ha,GV,G1 hi']; rfl
  ·have ez:(GY aB (ys.drop a) bs)[i]?=gV (aB ys[a+i] bs[i]):=j6 (by rw[List.getElem?_drop]; exact G1 h1) (G1 hi')
   rw[HJ,ez];rfl
 ·rintro zs Z2 S2 ⟨_,rfl,rfl⟩;rw[Ha,<- hzl,HP];show#[lE ∅,dX aj (hK _ _ ?_)]
  clear hK K;show st ?_;dsimp only[wS,wE,wA,wP,wV,wG,wN];have hs:fR (.tup (ys.map W.str)) td (gV (a:G0)) (S2++[O.lst (GY aB (ys.drop a) bs)])=gV (.tup ((ys.take a).map W.str),S2++[O.lst (GY aB (ys.drop a) bs)]):=by
   simp only[fR,cO];rw[Kb]
  show ab hs (vO (hx _ (k1.trans .push)) h64 hne (dX aj ?_));show k (ys.take a) (ys.drop a) _ ?_ ?_ #[?_,?_] ((f1.ka .push).ka .push) (k1.trans (Kp.push.trans .push))
  ·rw[Hm]; omega
  ·rw[IY]; omega
  ·rw[Kd]; exact q3
  ·rw[Kd]; exact q4
def j8 (hfu:20 < fuel)(G:Gen defs){a:GP}{bs:GD G0}(hf:Fl S r)(ha:a<=3)(hb:bs.length<=3)
  (k:∀(ms ns:GD Hc) S',ms.length=a->ns.length=bs.length->GoodN ms ns->Fl S' r->Kp r S S'->Q (d8 ms ns bs [],S')) :
  wO (aE (am defs fuel (d+5)) "_law_rule_of" 4 [.ref r,.int a,.tup (al bs),.tup []] S) Q:=
 iO hfu G hf ha hb (us:=[]) (λ_ _=>rfl) #v[] (λ_ h=>nomatch h) k
def draws {M:Hc->FF}{Z:Fm}{elt e:E}{cap:GD (GN GP)}{n i:GP}{R:Fm}(oe:dD elt=true)(oi:dD e=true)(h1:i<=1000)(hc:eC cap Z=td::td::R)(hf:Fl S r)(he:∀Q:QW,Q (.int i,S)->wE M e Z S Q)
  (hp:∀(a:GN W) (S1:aa) (Q:QW),Fl S1 r->(∀v S',0<=v->v < (n:G0)->Fl S' r->Kp r S1 S'->Q (.int v,S'))->wE M elt (td::a::R) S1 Q)
  (k:∀(vs:GD G0) S',vs.length=i->(∀w∈vs,0<=w/\w < (n:G0))->Fl S' r->Kp r S S'->Q (.ref S'.length,S'++[.lst (al vs)])) :
  Wp (aA M (.comp elt (.nm 1) (.rng #v[e]) .nil cap) Z S) Q:=by
 show fX (i:G0) (λj ys Z2 S3=>(∃a1,Z2=td::a1::R)/\(∃vs:GD G0,ys=al vs/\vs.length=j/\∀w∈vs,0<=w/\w < (n:G0))/\Fl S3 r/\Kp r S S3) oi oe rfl ∅ (he _ #[rfl,#[td,hc],#[[],rfl,rfl,λ_ h=>nomatch h],hf,.refl]) ?_ ?_
 ·rintro j ys Z2 S3 hj ⟨⟨a1,rfl⟩,⟨vs,rfl,hvl,hv⟩,f3,k3⟩;show#[λ_=>hp _ _ _ f3 λv S4 v0 v1 f4 k4=>#[#[_,rfl],#[vs++[v],(Hh (l₁:=vs) (l₂:=[v])).symm,by rw[GJ,hvl]; rfl,λw hw=>?_],f4,k3.trans k4],λz=>by cases z]
  rcases Ht.mp hw with h|h
  ·exact hv w h
  ·rw[G6.mp h]; exact#[v0,v1]
 ·rintro ys Z2 S3 ⟨_,⟨vs,rfl,hvl,hv⟩,f3,k3⟩;rw[Ha]at hvl;exact#[lE (by rw[show(al vs).length=vs.length from GF ..]; omega),k vs S3 hvl hv f3 k3]
def mU (G:Gen defs){a n:GP}(hf:Fl S r)(ha:0 < a)(ha3:a<=3)(hn:0 < n)(hn3:n<=3)(k:∀(u:Wd) S',u.length=3->GoodW a n u->Fl S' r->Kp r S S'->Q (ak u,S')) :
  wO (aE (am defs fuel (d+2)) "_law_free_three" 3 [.ref r,.int a,.int n] S) Q:=by
 show ap G.free_three rfl rfl λQ' hR=>?_
 replace k:∀(u:Wd) S',u.length=3->GoodW a n u->Fl S' r->Kp r S S'->Q' (.rt (ak u),S'):=λz S' a b c e=>hR _ _ (k z S' a b c e)
 clear hR;change wZ _ _ b8 [gV (.ref r),gV (.int a),gV (.int n),td,td] S Q';dsimp only[b8];have hrt:=hf.lt;show st ?_;dsimp only[wS,wE,wA,G2];nofun
 show bB 3 (λk Z S'=>∃a4 u,Z=[gV (.ref r),gV (.int a),gV (.int n),gV (.ref S.length),a4]/\S'[S.length]?=gV (.lst (u.map ag))/\u.length=k/\GoodW a n u/\Fl S' r/\Kp r S S') rfl rfl #v[] #[rfl,td,[],rfl,aj,rfl,.nil,hf.ka .push,.push] ?_ ?_
 ·rintro i Z S1 hi ⟨a4,u,rfl,e1,hul,hu,f1,k1⟩ Q2 hn' _;clear hK;show st ?_;left;show#[da e1,aQ (d:=d) G.pick f1 ∅ ∅ λv S2 v0 v1 f2 k2=>?_]
  have e2:=k2.get _ _ ∅ e1
  show draws (n:=n) (i:=i) (R:=[gV (.ref r),gV (.int n)]) rfl rfl ∅ rfl f2 (λQ q=>q) (λa S1 Q f q=>aQ (d:=d) G.pick f ∅ ∅ q) λvs S3 hvl hv f3 k3=>?_
  have e3:=aw (u:=O.lst (al vs)) (k3.get _ _ ∅ e2)
  show dX aj (jb e3 (by rw[GF]; omega) (aN (hn' _ _ #[_,u++[(v,vs)],rfl,?_,by rw[GJ,hul]; rfl,hu.snoc #[v0,v1] (hvl.trans hul.symm) hv,(f3.ka .push).own hrt,(k1.trans (k2.trans (k3.trans .push))).late (G3 _)])))
  rw[bV e3,Hh]; rfl
 ·rintro Z S1 ⟨a4,u,rfl,e1,hul,hu,f1,k1⟩;show hK _ _ (st ?_);left;exact dX e1 (k u _ hul hu f1 k1)
end
abbrev eT (n:GP):GD G0:=(G8 n).map λ(k:GP)=>(k:G0)
abbrev oG (a n:GP):GD Wd:=(eT a).flatMap λm0=>(eT a).flatMap λm1=>(eT a).flatMap λm2=>(eT n).flatMap λw1=>(eT n).flatMap λw2=>(eT n).map λw3=>[(m0,[]),(m1,[w1]),(m2,[w2,w3])]
abbrev bc (a:GP)(bs:GD G0):GD Wd:=((oG a bs.length).map (j5 bs)).eraseDups
def eH {n:GP}{x:G0}(h0:0<=x)(h1:x < n):x∈eT n:=Hi.mpr #[x.toNat,Hd.mpr ∅,∅]
def sG {a n:GP}{u:Wd}(h:GoodW a n u)(h3:u.length=3):u∈oG a n:=by
 match u,h3 with
 | [(m0,w0),(m1,w1),(m2,w2)],_=>
  have l0:=h.len 0 _ rfl;have l1:=h.len 1 _ rfl;have l2:=h.len 2 _ rfl;simp only at l0 l1 l2
  match w0,l0 with
  | [],_=>
   match w1,l1 with
   | [x],_=>
    match w2,l2 with
    | [y,z],_=>
     have a0:=h.mark 0 _ rfl;have a1:=h.mark 1 _ rfl;have a2:=h.mark 2 _ rfl;have b1:=h.way 1 _ rfl x (by simp)
     have b2:=h.way 2 _ rfl y (by simp)
     have b3:=h.way 2 _ rfl z (by simp)
     unfold oG;simp only[Iv,Hi];exact#[m0,eH a0.1 a0.2,m1,eH a1.1 a1.2,m2,eH a2.1 a2.2,x,eH b1.1 b1.2,y,eH b2.1 b2.2,z,eH b3.1 b3.2,rfl]
def zp {a:GP}{bs:GD G0}{u:Wd}(h:GoodW a bs.length u)(h3:u.length=3):j5 bs u∈bc a bs:=by
 unfold bc;rw[Lk];exact Hi.mpr #[u,sG h h3,rfl]
structure SizeOk (a:GP)(bs:GD G0):Prop where
 pos:0 < a
 good:GoodB bs
 most:a*bs.length<=6
 a3:a<=3
def FX:(bc 1 [0]).length < 64/\(bc 2 [0]).length < 64/\(bc 3 [0]).length < 64:=by decide +kernel
def EQ:(bc 1 [0,1]).length < 64/\(bc 2 [0,1]).length < 64/\(bc 1 [1,0]).length < 64/\(bc 2 [1,0]).length < 64:=by decide +kernel
def FY:(bc 1 [0,1,2]).length < 64/\(bc 1 [1,0,2]).length < 64/\(bc 1 [0,2,1]).length < 64:=by decide +kernel
def FZ:(bc 3 [0,1]).length < 64:=by decide +kernel
def F0:(bc 3 [1,0]).length < 64:=by decide +kernel
def F1:(bc 2 [0,1,2]).length < 64:=by decide +kernel
def F2:(bc 2 [1,0,2]).length < 64:=by decide +kernel
def F3:(bc 2 [0,2,1]).length < 64:=by decide +kernel
def mV {a:GP}{bs:GD G0}(h:SizeOk a bs):(bc a bs).length < 64:=by
 obtain⟨h0,hb,hm,h3⟩:=h;have ha:a=1\/a=2\/a=3:=∅
 rcases hb with rfl|rfl|rfl|rfl|rfl|rfl <;> rcases ha with rfl|rfl|rfl
 ·exact FX.1
 ·exact FX.2.1
 ·exact FX.2.2
 ·exact EQ.1
 ·exact EQ.2.1
 ·exact FZ
 ·exact EQ.2.2.1
 ·exact EQ.2.2.2
 ·exact F0
 ·exact FY.1
 ·exact F1
 ·simp at hm
 ·exact FY.2.1
 ·exact F2
 ·simp at hm
 ·exact FY.2.2
 ·exact F3
 ·simp at hm
def vS (bs:GD G0)(u:Wd):∃t∈ay,j5 bs u=ar bs u t:=by
 have h7:(ay.map (ar bs u)).length=6:=by rw[GF]; rfl
 have h8:((ay.map (ar bs u)).map dy).length=6:=by rw[GF,h7]
 have hlt:mD ((ay.map (ar bs u)).map dy) < (ay.map (ar bs u)).length:=by
  unfold mD;have h6:=eS (zY ((ay.map (ar bs u)).map dy)) (((ay.map (ar bs u)).map dy).length - 1);rw[h7]; omega
 unfold j5;rw[getD_some (G1 hlt)];obtain⟨t,ht,e⟩:=Hi.mp (HW hlt);exact#[t,ht,e.symm]
def zq (bs:GD G0)(u:Wd):j5 bs u≠[]:=by
 obtain⟨t,ht,e⟩:=vS bs u;rw[e];have:∀t∈ay,t≠[]:=by decide
 have h:=this t ht;intro z;have hl:(ar bs u t).length=t.length:=by simp[ar]
 rw[z]at hl;exact h (JY.mp hl.symm)
def oH:∀ {xs ys:GD G0},xs.map T.int=ys.map T.int->xs=ys
 | [],[],_=>rfl
 | [],_::_,h=>by cases h
 | _::_,[],h=>by cases h
 | x::xs,y::ys,h=>by
  rw[Ir,Ir]at h;injection h with h1 h2
  injection h1 with h1
  rw[h1,oH h2]
def zr {p q:Pt}(h:oA p=oA q):p=q:=by
 unfold oA at h;injection h with h
 injection h with h1 h2
 injection h1 with h1
 injection h2 with h2 _
 injection h2 with h2
 exact Oj h1 (oH h2)
def mW {u v:Wd}(h:dy u=dy v):u=v:=by
 unfold dy at h;injection h with h
 have inj:∀ {u v:Wd},u.map oA=v.map oA->u=v:=by
  intro u
  induction u with
  | nil=>intro v h; cases v with
   | nil=>rfl
   | cons _ _=>cases h
  | cons p u ih=>intro v h; cases v with
   | nil=>cases h
   | cons q v=>
    rw[Ir,Ir]at h;injection h with h1 h2
    rw[zr h1,ih h2]
 exact inj h
def iP {U:GD (T×W)}{k:T}{v:W}:(fZ U k v).map (·.1)=if k∈U.map (·.1)then U.map (·.1)else U.map (·.1)++[k]:=by
 have hany:(U.any λp=>decide (p.1=k))=decide (k∈U.map (·.1)):=by
  induction U with
  | nil=>rfl
  | cons p U ih=>
   rw[Jw,ih,Ir]
   by_cases e:p.1=k
   ·subst e; simp
   ·rw[Hz e,MW];have:(k∈p.1::U.map (·.1))=(k∈U.map (·.1)):=by simp[Ne.symm e]
    simp only[this]
 unfold fZ;rw[hany]
 by_cases h:k∈U.map (·.1)
 ·rw[Ho h,Ho (Iu h),IG];show Im λp _=>?_
  show(if p.1=k then(p.1,v)else p).1=p.1
  split <;> rfl
 ·rw[HD h,HD (by simpa using h),Hh]
  rfl
structure FigD (L:GD Wd)(U:GD (T×W))(fs:GD Wd):Prop where
 keys:U.map (·.1)=fs.map dy
 nd:fs.Nodup
 mem:∀f∈fs,f∈L
def FigD.nil {L:GD Wd}:FigD L [] []:=#[rfl,Mz,λ_ h=>nomatch h]
def FigD.len {L:GD Wd}{U:GD (T×W)}{fs:GD Wd}(h:FigD L U fs):U.length=fs.length/\fs.length<=L.length:=by
 have:=congrArg O6 h.keys;rw[GF,GF]at this;exact#[this,mT fs L h.nd h.mem]
def FigD.put {L:GD Wd}{U:GD (T×W)}{fs:GD Wd}{f:Wd}{v:W}(h:FigD L U fs)(hf:f∈L):∃fs',FigD L (fZ U (dy f) v) fs':=by
 by_cases hm:f∈fs
 ·show#[fs,?_,h.nd,h.mem];rw[iP,Ho (by rw[h.keys]; exact Hi.mpr #[f,hm,rfl]),h.keys]
 ·show#[fs++[f],?_,?_,λg hg=>?_]
  ·rw[iP,HD,h.keys,Hh]
   ·rfl
   ·rw[h.keys];intro z;obtain⟨g,hg,e⟩:=Hi.mp z;exact hm (mW e ▸ hg)
  ·rw[Lz];show#[h.nd,by simp,λa ha b hb e=>?_]
   rw[G6.mp hb]at e;exact hm (e ▸ ha)
  ·rcases Ht.mp hg with h'|h'
   ·exact h.mem g h'
   ·rw[G6.mp h']; exact hf
def FigD.items {S:aa}{t:GP}{L:GD Wd}{U:GD (T×W)}{fs:GD Wd}(h:FigD L U fs)(e:S[t]?=gV (.dic U)):ee S (.ref t)=gV (fs.map ak):=by
 simp only[ee,zb e,eR e,HA];congr 1;have:(U.map (·.1)).map T.w=(fs.map dy).map T.w:=by rw[h.keys]
 rw[IG,IG]at this
 calc U.map (λp=>p.1.w)=U.map (T.w∘λx=>x.1):=rfl
  _=fs.map (T.w∘dy):=this
  _=fs.map ak:=by
   show Im λf _=>?_
   exact vG f
def oI {a:GP}{bs:GD G0}{f:Wd}(h:f∈bc a bs):f≠[]:=by
 unfold bc at h;rw[Lk]at h;obtain⟨u,_,rfl⟩:=Hi.mp h;exact zq bs u
def vT {S:aa}{t:GP}{U:GD (T×W)}{u:Wd}{v:W}(h:S[t]?=gV (.dic U))(hl:U.length < sizeLine):jj (.ref t) (ak u) v S=gV (S.set t (.dic (fZ U (dy u) v))):=by
 have hk:=gH u;unfold ak at hk ⊢
 (dsimp only[jj,nJ]; simp only[h,hk])
 rw[Ho hl]
structure RuleAt (a:GP)(bs:GD G0)(ms ns:GD Hc)(gs:GD Wd):Prop where
 size:SizeOk a bs
 ml:ms.length=a
 nl:ns.length=bs.length
 nm:GoodN ms ns
 nd:gs.Nodup
 mem:∀g∈gs,g∈bc a bs
abbrev gI (w:W):Prop:=∃a bs ms ns gs,w=d8 ms ns bs (hW gs)/\RuleAt a bs ms ns gs
section
variable{M:Hc->FF}{fuel:GP}{Z:Fm}{S:aa}{K:Fm->aa->Prop}{Q:QO}
def oJ {i0:GP}{e:E}{b:Ss}(oe:dD e=true)(ok:gF b=true)(he:wE M e Z S λp=>∃(j:G0) (I:GP->Fm->aa->Prop),p.1=.int j/\(-(2 ^ 62)<=j/\j < 2 ^ 62)/\I 0 Z p.2/\
  (∀(i:GP) (Z:Fm) (S:aa),(i:G0) < j->I i Z S->zd M fuel b (Z.set i0 (gV (.int i))) S (I (i+1)) Q)/\∀Z S,I j.toNat Z S->K Z S):Wp (fj M fuel (.loop (.nm i0) (.rng #v[e]) b) Z S) (pM K Q):=by
 obtain⟨w,S1,e1,j,I,rfl,hj,h0,hs,hend⟩:=bW oe he;have hl:(cV 0 j.toNat).length=j.toNat:=by simp[cV]
 show gG (mi:=.its (cV 0 j.toNat)) (S1:=S1) (xs:=cV 0 j.toNat) I ok ?_ (λ_ _ _ _=>rfl) rfl h0 (λi w Z S hw hI=>?_) λZ S hI=>hend Z S (hl ▸ hI)
 ·(dsimp only[jk,cL,dz,gY,pB]; simp only[e1])
  rw[Ho hj]
 ·rw[dS]at hw;split at hw
  ·rename_i hk;cases hw;rw[Lc];exact hs i Z S ∅ hI
  ·cases hw
def eI {tg:Tg}{e:E}{b:Ss}(oe:dD e=true)(ok:gF b=true)(he:wE M e Z S λp=>∃(t:GP) (xs:GD W) (I:GP->Fm->aa->Prop),p.1=.ref t/\I 0 Z p.2/\(∀i Z S,I i Z S->S[t]?=gV (.lst xs))/\
  (∀(i:GP) (w:W) (Z:Fm) (S:aa),xs[i]?=gV w->I i Z S->wO (fq tg w Z S) λq=>zd M fuel b q.1 q.2 (I (i+1)) Q)/\∀Z S,I xs.length Z S->K Z S):Wp (fj M fuel (.loop tg (.seq e) b) Z S) (pM K Q):=by
 obtain⟨w,S1,e1,t,xs,I,rfl,h0,hat,hs,hend⟩:=bW oe he;exact gG (mi:=.live t) (S1:=S1) I ok (by simp only[jk,ff,e1,aI (hat _ _ _ h0)]) (λi Z S h=>by simp only[MI.at,aI (hat _ _ _ h)]) (by simp only[MI.len,aI (hat _ _ _ h0),HA]) h0 hs hend
end
section
variable{defs:GD (Hc×Df)}{fuel d:GP}{S:aa}{r:GP}{Q:QW}
def An {q:GP}{a:GP}{bs:GD G0}{ms ns:GD Hc}{fs0:GD Wd}{U:GD (T×W)}{fs:GD Wd}(h3:S[q]?=gV (.dic U))(h4:FigD (bc a bs) U fs)(hs:SizeOk a bs)(hml:ms.length=a)(hnl:ns.length=bs.length)(hnm:GoodN ms ns)(k:∀w S',gI w->Ka S S'->Q (w,S')) :
  wO (gW (d8 ms ns bs fs0) (.int 0) S) λp=>wO (gW (d8 ms ns bs fs0) (.int 1) p.2) λq'=>wO (Bi.sorted.fn [.ref q] q'.2) λs=>wO (Bi.tuple.fn [s.1] s.2) λz=>Q (.tup [p.1,q'.1,z.1],z.2):=by
 show ac #v[] rfl (ac #v[] rfl ?_)
 have hl:=h4.len;exact vO (h4.items h3) (by have:=mV hs; omega) (λf hf=>oI (h4.mem f hf)) (dX aj (k _ _ #[a,bs,ms,ns,fs,rfl,hs,hml,hnl,hnm,h4.nd,h4.mem] .push))
def Ao {q:GP}{a:GP}{bs:GD G0}{u:Wd}{U:GD (T×W)}{fs:GD Wd}{Q:aa->Prop}(h3:S[q]?=gV (.dic U))(h4:FigD (bc a bs) U fs)(hs:SizeOk a bs)(hu:GoodW a bs.length u)(hu3:u.length=3)
  (k:∀o,(∃U fs,(S.set q o)[q]?=gV (.dic U)/\FigD (bc a bs) U fs)->Q (S.set q o)):wO (jj (.ref q) (ak (j5 bs u)) (.bl true) S) Q:=by
 have hl:=h4.len;have:=mV hs;obtain⟨fs',h5⟩:=h4.put (v:=.bl true) (zp hu hu3);exact ab (vT h3 (by rw[Ik]; omega)) (k _ #[_,fs',bV h3,h5])
def pP (hfu:20 < fuel)(G:Gen defs)(hf:Fl S r)(k:∀w S',gI w->Fl S' r->Kp r S S'->Q (w,S')):wO (aE (am defs fuel (d+6)) "_law_any_rule" 1 [.ref r] S) Q:=by
 show ap G.any_rule rfl rfl λQ' hR=>?_
 replace k:∀w S',gI w->Fl S' r->Kp r S S'->Q' (.rt w,S'):=λz S' a b c=>hR _ _ (k z S' a b c)
 clear hR;change wZ _ _ cN [gV (.ref r),td,td,td,td,td] S Q';dsimp only[cN];nofun
 left;show zm (d:=d+3) G hf λa n S1 a1 a3 n1 n3 an f1 k1=>?_
 dsimp only[wU];show ab (show cC [1,2] [.int a,.int n] [gV (.ref r),td,td,td,td,td]=gV [gV (.ref r),gV (.int a),gV (.int n),td,td,td]from rfl) (hK _ _ ?_)
 clear hK K;nofun
 left;show zo (d:=d+3) G f1 n1 n3 λbs S2 hb hbl f2 k2=>?_
 have hsz:SizeOk a bs:=#[∅,hb,by rw[hbl]; exact an,a3]
 show j8 (d:=d) hfu G f2 a3 ∅ λms ns S3 hml hnl hnm f3 k3=>hK _ _ ?_
 clear hK K;have hrt:=f3.lt;replace k3:Kp r S S3:=k1.trans (k2.trans k3);clear k1 k2 f1 f2;show st ?_;dsimp only[wS,wE,G2];nofun
 show oJ rfl rfl ?_;dsimp only[wE,wA,wV,wG];show aQ (d:=d+4) G.pick (f3.ka .push) #v[] #v[] λv S4 v0 v9 f4 k4=>?_
 show#[v,λk Z S'=>(∃a5,Z=[gV (.ref r),gV (.int a),gV (.int n),gV (d8 ms ns bs []),gV (.ref S3.length),a5])/\(∃U fs,S'[S3.length]?=gV (.dic U)/\FigD (bc a bs) U fs)/\Fl S' r/\Kp r S S',rfl,∅,#[#[td,rfl],#[[],[],k4.get _ _ ∅ aj,.nil],f4,(k3.trans .push).trans k4],?_,?_]
 ·rintro i Z S5 hi ⟨⟨a5,rfl⟩,⟨U,fs,e5,hd⟩,f5,k5⟩ Q2 hn _;clear hK;show st ?_;left;show mU (d:=d+3) G f5 ∅ a3 ∅ n3 λu S6 hu3 hu f6 k6=>?_
  have hu:GoodW a bs.length u:=hbl.symm ▸ hu;show oF (d:=d+2) G hb hnl hu hu3 λS7 k7=>?_
  have e7:=k7.get _ _ (k6.get _ _ ∅ e5)
  exact Ao e7 hd hsz hu hu3 λo ho=>aN (hn _ _ #[#[_,rfl],ho,(f6.ka k7).own hrt,((k5.trans k6).trans (k7.kp r)).late k3.len])
 ·rintro Z S5 ⟨⟨a5,rfl⟩,⟨U,fs,e5,hd⟩,f5,k5⟩;show hK _ _ (st ?_);left;exact An (Q:=λp=>Q' (.rt p.1,p.2)) e5 hd hsz hml hnl hnm λw S6 hw k6=>k w S6 hw (f5.ka k6) (k5.trans (k6.kp r))
end
abbrev gd (t:G0×G0×G0):W:=.tup [.int t.1,.int t.2.1,.int t.2.2]
abbrev oK (a:GP)(t:G0×G0×G0):Prop:=(0<=t.1/\t.1 < a)/\(0<=t.2.1/\t.2.1 < a)/\(0<=t.2.2/\t.2.2 < a)
def mX:GoodB [0]:=.inl rfl
def Ap {S:aa}{i j:GP}{xs:GD W}(h1:S[i]?=gV (.lst xs))(h2:S[j]?=gV (.lst [])):aJ .eq (.ref i) (.ref j) S=gV (.bl xs.isEmpty,S):=by
 show(ir S (19+1) (.ref i) (.ref j)).map _=_
 (dsimp only[ir]; simp only[bR h1,bR h2])
 cases xs with
 | nil=>rfl
 | cons x xs=>rfl
section
variable{M:Hc->FF}{fuel:GP}{Z:Fm}{S:aa}{K:Fm->aa->Prop}{Q:QO}
def cp {i0:GP}{a b:E}{bd:Ss}(i j:G0)(I:GP->Fm->aa->Prop)(oa:dD a=true)(ob:dD b=true)(ok:gF bd=true)(hj : -(2 ^ 62)<=i/\i < 2 ^ 62/\-(2 ^ 62)<=j/\j < 2 ^ 62)(he:wE M a Z S λp=>p.1=.int i/\wE M b Z p.2 λq=>q.1=.int j/\I 0 Z q.2)
  (hstep:∀(k:GP) (Z:Fm) (S:aa),(k:G0) < j - i->I k Z S->zd M fuel bd (Z.set i0 (gV (.int (i+k)))) S (I (k+1)) Q) (hend:∀Z S,I (j - i).toNat Z S->K Z S):Wp (fj M fuel (.loop (.nm i0) (.rng2 #v[a,b]) bd) Z S) (pM K Q):=by
 obtain⟨w,S1,e1,rfl,h1⟩:=bW oa he;obtain⟨w,S2,e2,rfl,h0⟩:=bW ob h1;have hl:(cV i (j - i).toNat).length=(j - i).toNat:=by simp[cV]
 show gG (mi:=.its (cV i (j - i).toNat)) (S1:=S2) (xs:=cV i (j - i).toNat) I ok ?_ (λ_ _ _ _=>rfl) rfl h0 (λk w Z S hw hI=>?_) λZ S hI=>hend Z S (hl ▸ hI)
 ·simp only[jk,cL,dz,gY,iRng2,e1,e2];rw[Ho hj]
 ·rw[dS]at hw;split at hw
  ·rename_i hk;cases hw;exact hstep k Z S ∅ hI
  ·cases hw
def vU {elt a b:E}{i0:GP}{cs:Es}{cap:GD (GN GP)}{Q:QW}(i j:G0)(I:GP->GD W->Fm->aa->Prop)(oa:dD a=true)(ob:dD b=true)(oe:dD elt=true)(oc:lC cs=true)(hj : -(2 ^ 62)<=i/\i < 2 ^ 62/\-(2 ^ 62)<=j/\j < 2 ^ 62)(he:wE M a Z S λp=>p.1=.int i/\wE M b Z p.2 λq=>q.1=.int j/\I 0 [] (eC cap Z) q.2)
  (hstep:∀(k:GP) (ys:GD W) (Z:Fm) (S:aa),(k:G0) < j - i->I k ys Z S->fm M elt cs (Z.set i0 (gV (.int (i+k)))) S (λy=>I (k+1) (ys++[y])) (I (k+1) ys))
  (hend:∀ys Z S,I (j - i).toNat ys Z S->ys.length<=sizeLine/\Q (.ref S.length,S++[.lst ys])):Wp (aA M (.comp elt (.nm i0) (.rng2 #v[a,b]) cs cap) Z S) Q:=by
 obtain⟨w,S1,e1,rfl,h1⟩:=bW oa he;obtain⟨w,S2,e2,rfl,h0⟩:=bW ob h1;have hl:(cV i (j - i).toNat).length=(j - i).toNat:=by simp[cV]
 show jZ (mi:=.its (cV i (j - i).toNat)) (S1:=S2) (xs:=cV i (j - i).toNat) I oe oc ?_ (λ_ _ _ _ _=>rfl) rfl h0 (λk w ys Z S hw hI=>?_) λys Z S hI=>hend ys Z S (hl ▸ hI)
 ·simp only[jk,cL,dz,gY,iRng2,e1,e2];rw[Ho hj]
 ·rw[dS]at hw;split at hw
  ·rename_i hk;cases hw;exact hstep k ys Z S ∅ hI
  ·cases hw
end
section
variable{defs:GD (Hc×Df)}{fuel d:GP}{S:aa}{r:GP}{Q:QW}
def vV (G:Gen defs){a:GP}(ha:a<=3)(k:∀(q:GP) (ts:GD (G0×G0×G0)) (S':aa),S'[q]?=gV (.lst (ts.map gd))->(∀t∈ts,oK a t)->S.length<=q->Ka S S'->Q (.ref q,S')) :
  wO (aE (am defs fuel (d+1)) "_law_rising" 1 [.int a] S) Q:=by
 show ap G.rising rfl rfl λQ' hR=>?_
 replace k:∀(q:GP) (ts:GD (G0×G0×G0)) (S':aa),S'[q]?=gV (.lst (ts.map gd))->(∀t∈ts,oK a t)->S.length<=q->Ka S S'->Q' (.rt (.ref q),S'):=λq ts S' a b c e=>hR _ _ (k q ts S' a b c e)
 clear hR;change wZ _ _ dF [gV (.int a),td,td,td] S Q';dsimp only[dF];show st ?_;dsimp only[wS,wE,wA,G2];nofun
 show bB (a:G0) (λi Z S'=>∃(q:GP) (ts:GD (G0×G0×G0)) (a2 a3:GN W),Z=[gV (.int a),gV (.ref q),a2,a3]/\S'[q]?=gV (.lst (ts.map gd))/\(∀t∈ts,oK a t)/\S.length<=q/\ts.length<=9*i/\Ka S S') rfl rfl ∅ #[rfl,_,[],_,_,rfl,aj,λ_ h=>(nomatch h),G3 _,IB _,.push] ?_ ?_
 ·rintro i Z S1 hi ⟨q,ts,a2,a3,rfl,e1,ht,hq,hl,k1⟩ Q2 hn _;clear hK k;nofun
  show cp (i:G0) (a:G0) (λj Z S'=>∃(q:GP) (ts:GD (G0×G0×G0)) (a3:GN W),Z=[gV (.int a),gV (.ref q),gV (.int i),a3]/\S'[q]?=gV (.lst (ts.map gd))/\(∀t∈ts,oK a t)/\S.length<=q/\ts.length<=9*i+3*j/\Ka S S') rfl rfl rfl ∅ #[rfl,rfl,q,ts,a3,rfl,e1,ht,hq,∅,k1] ?_ ?_
  ·rintro j Z S2 hj ⟨q,ts,a3,rfl,e2,ht,hq,hl,k2⟩ Q3 hn3 _;clear hK hn;show st ?_;dsimp only[wS,wE,wV,wG,G2];show vU ((i:G0)+j) (a:G0) (λm ys Z2 S3=>(∃a1,Z2=[td,a1,gV (.int i),gV (.int ((i:G0)+j))])/\(∃us:GD (G0×G0×G0),ys=us.map gd/\us.length=m/\∀t∈us,oK a t)/\S3=S2) rfl rfl rfl rfl ∅ #[rfl,rfl,#[td,rfl],#[[],rfl,rfl,λ_ h=>nomatch h],rfl] ?_ ?_
   ·rintro m ys Z2 S3 hm ⟨⟨a1,rfl⟩,⟨us,rfl,hul,hu⟩,rfl⟩;show#[λ_=>#[#[_,rfl],#[us++[((i:G0),(i:G0)+j,(i:G0)+j+m)],by rw[Hh]; rfl,by rw[GJ,hul]; rfl,λt h=>?_],rfl],λz=>by cases z]
    rcases Ht.mp h with h|h
    ·exact hu t h
    ·rw[G6.mp h];exact#[#[∅,∅],#[by dsimp only; omega,by dsimp only; omega],#[by dsimp only; omega,by dsimp only; omega]]
   ·rintro ys Z2 S3 ⟨_,⟨us,rfl,hul,hu⟩,rfl⟩;show#[lE (by rw[GF]; omega),ab (jY (aw e2) aj ?_) (aN (hn3 _ _ #[_,ts++us,_,rfl,?_,λt h=>(Ht.mp h).elim (ht t) (hu t),?_,?_,k2.trans (Ka.push.trans .push)]))]
    ·show lE ?_;rw[GJ,GF,GF];omega
    ·rw[Hh]; exact aj
    ·have:=k2.len;simp only[GJ]; omega
    ·rw[GJ]; omega
  ·rintro Z S2 ⟨q,ts,a3,rfl,e2,ht,hq,hl,k2⟩;exact hK _ _ (aN (hn _ _ #[q,ts,_,_,rfl,e2,ht,hq,∅,k2]))
 ·rintro Z S1 ⟨q,ts,a2,a3,rfl,e1,ht,hq,hl,k1⟩;show hK _ _ (st ?_);exact k q ts S1 e1 ht hq k1
end
def vW {U:GD (T×W)}{k:T}{v:W}(h:bT U k=gV v):(k,v)∈U:=by
 unfold bT at h;rw[GM]at h;obtain⟨p,h1,rfl⟩:=h;have:=Mj h1;rw[<- Ij this];exact List.mem_of_find?_eq_some h1
def zu {U:GD (T×W)}{p:T×W}(h:p∈U):∃v,bT U p.1=gV v:=by
 unfold bT;cases e:U.find? λq=>decide (q.1=p.1)with
 | some q=>exact#[q.2,rfl]
 | none=>exact absurd (JC.mp e p h) (by simp)
section
variable{defs:GD (Hc×Df)}{fuel d:GP}{S:aa}{r:GP}{Q:QW}
def Eg {i n:GP}{x:W}(h:S[i]?=gV (.lst [x]))(hn:n<=1000)(q:Q (.ref S.length,S++[.lst (HU n x)])):wO (ij .mul (.ref i) (.int (n:G0)) S) Q:=by
 show ab ?_ q;have:n<=sizeLine:=lE hn;simp only[ij,xP,bR h];rw[Ho #[∅,∅,by simpa using this]]
 unfold kG;simp[this]
def vX {xs:GD G0}{i:GP}(h:i < xs.length):xs.getD i 0∈xs:=G7 (aq (d:=0) h)
end
abbrev CG (k:G0):Wd:=[(0,[]),(0,[k]),(0,[k,k])]
def zv:∀g∈[CG 0,CG 1],g∈bc 1 [0,1]:=by decide +kernel
abbrev vY (a k:G0):Wd:=[(0,[]),(k,[0]),(a - 1,[0,0])]
def vZ:∀k∈eT 2,vY 2 k∈bc 2 [0]:=by decide +kernel
def v3:∀k∈eT 3,vY 3 k∈bc 3 [0]:=by decide +kernel
def zw {a x y:G0}(h:vY a x=vY a y):x=y:=by
 unfold vY at h;injection h with _ h
 injection h with h _
 injection h
def Eh {a n:GP}{m0 m1 m2 x y z:G0}(h0:0<=m0/\m0 < a)(h1:0<=m1/\m1 < a)(h2:0<=m2/\m2 < a)(hx:0<=x/\x < n)(hy:0<=y/\y < n)(hz:0<=z/\z < n):GoodW a n [(m0,[]),(m1,[x]),(m2,[y,z])]:=by
 show#[λk p h=>?_,λk p h=>?_,λk p h=>?_] <;> match k,h with
 | 0,h=>cases h; first|exact h0|rfl|(intro w hw; cases hw)
 | 1,h=>cases h; first|exact h1|rfl|(intro w hw; rw[G6.mp hw]; exact hx)
 | 2,h=>cases h; first|exact h2|rfl|(intro w hw; rcases Hn.mp hw with e|hw <;> first|exact e ▸ hy|(rw[G6.mp hw]; exact hz))
 | n+3,h=>simp at h
section
variable{defs:GD (Hc×Df)}{fuel d:GP}{S:aa}{r:GP}{Q:QW}
def pQ (hfu:20 < fuel)(G:Gen defs)(hun:Is defs ("_law_unlaying_rule" : Hc) 1 10 ba)(hf:Fl S r)(k:∀w S',gI w->Fl S' r->Kp r S S'->Q (w,S')):wO (aE (am defs fuel (d+6)) "_law_unlaying_rule" 1 [.ref r] S) Q:=by
 show ap hun rfl rfl λQ' hR=>?_
 replace k:∀w S',gI w->Fl S' r->Kp r S S'->Q' (.rt w,S'):=λz S' a b c=>hR _ _ (k z S' a b c)
 clear hR;change wZ _ _ ba [gV (.ref r),td,td,td,td,td,td,td,td,td] S Q';unfold ba;nofun
 left;show aQ (d:=d+4) G.pick hf #v[] #v[] λv S1 v0 v7 f1 k1=>hK _ _ ?_
 clear hK K;have hlt:=f1.lt;nofun
 dsimp only[wS,wT,wE,wV,wG,iL,bJ,wB];show ae (Q0:=Q') (λ_ Q2 _ hr=>?_) (λ_ Q2 hn _=>aN (hn _ _ (hK _ _ ?_)))
 ·
  show st ?_;left;show fX 2 (λi zs Z2 S2=>(∃a1,Z2=[td,a1])/\zs=([CG 0,CG 1].take i).map ak/\S2=S1) rfl rfl rfl #v[] #[rfl,#[td,rfl],rfl,rfl] ?_ ?_
  ·rintro i zs Z2 S2 hi ⟨⟨a1,rfl⟩,rfl,rfl⟩;clear k hr hK;dsimp only[fm,wC,wE,wA,wV,wG,G2];show#[λ_=>#[#[_,rfl],?_,rfl],λz=>by cases z]
   rcases(show i=0\/i=1 by omega)with h|h
   ·subst h; rfl
   ·subst h; rfl
  ·rintro zs Z2 S2 ⟨_,rfl,rfl⟩;show#[g8 rfl,?_];show iO (d:=d) (a:=1) (bs:=[0,1]) (us:=[CG 0,CG 1]) hfu G (f1.ka .push) #v[] #v[] (λS' kk=>?_) #v[] #v[] λms ns S3 hml hnl hnm f3 k3=>?_
   ·simp only[ee,aI (kk.get _ _ ∅ aj)]; rfl
   exact hr _ _ (k _ _ #[1,[0,1],ms,ns,_,rfl,#[#[#v[],.inr (.inl rfl),#v[],#v[]],hml,hnl,hnm,#v[],zv]] f3 (k1.trans (Kp.push.trans k3)))
 clear hK K hn;nofun
 dsimp only[wS,wT,wE,wV,wG,iL,bJ,wB];show ae (Q0:=Q') (λ_ Q2 _ hr=>?_) (λ_ Q2 hn _=>aN (hn _ _ (hK _ _ ?_)))
 ·
  clear hK;nofun
  left;show j8 (d:=d) (a:=2) (bs:=[0,1]) hfu G f1 #v[] #v[] λms ns S3 hml hnl hnm f3 k3=>hK _ _ ?_
  clear hK K;have hsz:SizeOk 2 [0,1]:=#[#v[],.inr (.inl rfl),#v[],#v[]]
  have hrt:=f3.lt;have kk:Kp r S S3:=k1.trans k3;show st ?_;dsimp only[wS,wE,G2];nofun
  show eI rfl rfl ?_;dsimp only[wE,wA,wV,wG];show vV (d:=d+4) G (a:=2) #v[] λq ts S4 e4 ht hq k4=>?_
  have hq':S3.length < q:=by simp only[GJ,HK,IT]at hq; omega
  show#[q,ts.map gd,(λ_ Z S'=>(∃x4 x5 x6 x7 x8 x9,Z=[gV (.ref r),gV (.int v),gV (d8 ms ns [0,1] []),gV (.ref S3.length),x4,x5,x6,x7,x8,x9])/\(∃U fs,S'[S3.length]?=gV (.dic U)/\FigD (bc 2 [0,1]) U fs)/\S'[q]?=gV (.lst (ts.map gd))/\Fl S' r/\Kp r S S'),rfl,#[#[_,_,_,_,_,_,rfl],#[[],[],k4.get _ _ aj,.nil],e4,(f3.ka .push).ka k4,(kk.trans .push).trans (k4.kp r)],λi Z S' h=>h.2.2.1,?_,?_]
  ·rintro i w Z S5 hw ⟨⟨x4,x5,x6,x7,x8,x9,rfl⟩,⟨U,fs,e5,hd⟩,hq5,f5,k5⟩;clear hK;rw[GV,GM]at hw;obtain⟨⟨tr1,tr2,tr3⟩,htt,rfl⟩:=hw;obtain⟨t1,t2,t3⟩:=ht _ (G7 htt);have h53:S3.length < S5.length:=cj e5;have hq5l:q < S5.length:=cj hq5;show ab (show fq (.nm 4) (gd (tr1,tr2,tr3)) [gV (.ref r),gV (.int v),gV (d8 ms ns [0,1] []),gV (.ref S3.length),x4,x5,x6,x7,x8,x9] S5=gV ([gV (.ref r),gV (.int v),gV (d8 ms ns [0,1] []),gV (.ref S3.length),gV (gd (tr1,tr2,tr3)),x5,x6,x7,x8,x9],S5)from rfl) λQ3 hn3 _=>?_
   nofun
   show eI rfl rfl ?_;dsimp only[wE,wA,wV,wG];show#[S5.length,[(1,1,0),(1,1,1),(1,0,1),(0,1,1)].map gd,(λ_ Z S'=>(∃x5 x6 x7 x8 x9,Z=[gV (.ref r),gV (.int v),gV (d8 ms ns [0,1] []),gV (.ref S3.length),gV (gd (tr1,tr2,tr3)),x5,x6,x7,x8,x9])/\(∃U fs,S'[S3.length]?=gV (.dic U)/\FigD (bc 2 [0,1]) U fs)/\S'[q]?=gV (.lst (ts.map gd))/\S'[S5.length]?=gV (.lst ([(1,1,0),(1,1,1),(1,0,1),(0,1,1)].map gd))/\Fl S' r/\Kp r S S'),rfl,#[#[_,_,_,_,_,rfl],#[U,fs,aw e5,hd],aw hq5,aj,f5.ka .push,k5.trans .push],λi Z S' h=>h.2.2.2.1,?_,?_]
   ·rintro i w Z S6 hw ⟨⟨x5,x6,x7,x8,x9,rfl⟩,⟨U,fs,e6,hd⟩,hq6,hl6,f6,k6⟩;clear hK hn3;rw[GV,GM]at hw;obtain⟨⟨y1,y2,y3⟩,hy,rfl⟩:=hw;have hy':(0<=y1/\y1 < 2)/\(0<=y2/\y2 < 2)/\(0<=y3/\y3 < 2):=by
     have:∀p∈([(1,1,0),(1,1,1),(1,0,1),(0,1,1)]:GD (G0×G0×G0)),(0<=p.1/\p.1 < 2)/\(0<=p.2.1/\p.2.1 < 2)/\(0<=p.2.2/\p.2.2 < 2):=by decide
     exact this _ (G7 hy)
    show ab (show fq (.tp [5,6,7]) (gd (y1,y2,y3)) [gV (.ref r),gV (.int v),gV (d8 ms ns [0,1] []),gV (.ref S3.length),gV (gd (tr1,tr2,tr3)),x5,x6,x7,x8,x9] S6=gV ([gV (.ref r),gV (.int v),gV (d8 ms ns [0,1] []),gV (.ref S3.length),gV (gd (tr1,tr2,tr3)),gV (.int y1),gV (.int y2),gV (.int y3),x8,x9],S6)from rfl) λQ4 hn4 _=>?_
    nofun
    left;show ac #v[] rfl (ac #v[] rfl (hK _ _ ?_))
    clear hK K;have hu:GoodW 2 2 [(tr1,[]),(tr2,[y1]),(tr3,[y2,y3])]:=Eh t1 t2 t3 hy'.1 hy'.2.1 hy'.2.2;show st ?_;left;show ac #v[] rfl (ab (aP (g8 rfl)) ?_)
    show oF (d:=d+2) (m0:=.tup (ms.map W.str)) (b0:=.tup []) (bs:=[0,1]) (u:=[(tr1,[]),(tr2,[y1]),(tr3,[y2,y3])]) G (.inr (.inl rfl)) hnl hu rfl λS7 k7=>?_
    have e7:=k7.get _ _ e6;exact Ao e7 hd hsz hu rfl λo ho=>aN (hn4 _ _ #[#[_,_,_,_,_,rfl],ho,by rw[cf ∅]; exact k7.get _ _ hq6,by rw[cf ∅]; exact k7.get _ _ hl6,(f6.ka k7).own hrt,(k6.trans (k7.kp r)).late kk.len])
   ·rintro Z S6 ⟨⟨x5,x6,x7,x8,x9,rfl⟩,hdd,hq6,hl6,f6,k6⟩;exact hK _ _ (aN (hn3 _ _ #[#[_,_,_,_,_,_,rfl],hdd,hq6,f6,k6]))
  ·rintro Z S5 ⟨⟨x4,x5,x6,x7,x8,x9,rfl⟩,⟨U,fs,e5,hd⟩,hq5,f5,k5⟩;show hK _ _ (st ?_);left;exact An (Q:=λp=>Q2 (.rt p.1,p.2)) e5 hd hsz hml hnl hnm λw S8 hw k8=>hr _ _ (k w S8 hw (f5.ka k8) (k5.trans (k8.kp r)))
 clear hK K hn;nofun
 left;show aQ (d:=d+4) G.pick f1 #v[] #v[] λv2 S2 v20 v22 f2 k2=>?_
 dsimp only[cM,bJ];obtain⟨a,ea⟩ : ∃a:GP,2+v2=a:=#[(2+v2).toNat,∅]
 rw[ea];have ha:a=2\/a=3:=∅
 show hK _ _ ?_;clear hK K;nofun
 dsimp only[wS,wE,G2];show fX (a:G0) (λi zs Z2 S3=>(∃a1,Z2=[td,a1,gV (.int a)])/\zs=((eT i).map (vY a)).map ak/\S3=S2) rfl rfl rfl ∅ #[rfl,#[td,rfl],rfl,rfl] ?_ ?_
 ·rintro i zs Z2 S3 hi ⟨⟨a1,rfl⟩,rfl,rfl⟩;dsimp only[fm,wC,wE,wA,wV,wG,G2,ja,bJ];show#[λ_=>#[#[_,rfl],?_,rfl],λz=>by cases z]
  simp[eT,IL,vY,ak,ag]
 ·rintro zs Z2 S3 ⟨_,rfl,rfl⟩;rw[Ha];have hul:(eT a).length=a:=by simp[eT]
  show#[lE (by rw[GF,GF,hul]; omega),hK _ _ (st ?_)]
  clear hK K;dsimp only[wS,wE,wA,wP,wV,wG];show aQ (d:=d+4) G.pick (f2.ka .push) ∅ ∅ λv4 S4 v40 v4a f4 k4=>?_
  dsimp only[cM,bJ,wN];obtain⟨mm,em⟩ : ∃mm:GP,1+v4=mm:=#[(1+v4).toNat,∅]
  rw[em];have hlt2:=f2.lt;have e4:S4[S3.length]?=gV (.lst (((eT a).map (vY a)).map ak)):=k4.get _ _ ∅ aj
  have hsl:fR (.ref S3.length) td (gV (mm:G0)) S4=gV (.ref S4.length,S4++[.lst ((((eT a).map (vY a)).take mm).map ak)]):=by
   simp only[fR,aI e4,cO,Kb]
  show ab hsl ?_;have hlt4:=f4.lt;have hmem:∀g∈((eT a).map (vY a)).take mm,g∈bc a [0]:=λg hg=>by
   obtain⟨x,hx,rfl⟩:=Hi.mp (JN hg);rcases ha with rfl|rfl
   ·exact vZ x hx
   ·exact v3 x hx
  show iO (d:=d) (a:=a) (bs:=[0]) (us:=((eT a).map (vY a)).take mm) hfu G (f4.ka .push) ∅ #v[] (λS' kk=>?_) (by rw[Hm,GF,hul]; omega) (λu hu=>oI (hmem u hu)) λms ns S5 hml hnl hnm f5 k5=>?_
  ·simp only[ee,aI (kk.get _ _ ∅ aj)]
  show k _ _ #[a,[0],ms,ns,_,rfl,#[#[∅,mX,by simp; omega,∅],hml,hnl,hnm,?_,hmem]] f5 (k1.trans (k2.trans (Kp.push.trans (k4.trans (Kp.push.trans k5)))))
  show Px (No _ _) ?_;unfold List.Nodup eT;rw[NE,NE];exact(NW (n:=a)).imp λh e=>h (by have:=zw e; omega)
end
abbrev re:Ss:=
 #v[.ite (.cmp .gt (.v 2) (.v 3)) #v[.ret (.ix (.ix (.ix (.v 1) (.v 2)) (.c (.int 1))) (.v 3))] .nil,.ret (.ix (.ix (.ix (.v 0) (.c (.int 1))) (.ix (.ix (.ix (.v 1) (.v 3)) (.c (.int 1))) (.v 2))) (.c (.int 1)))]
abbrev gJ:Ss:=
 #v[.ret (.bi .tuple #v[.comp (.own "point_over" 4 #v[.v 4,.v 5,.sl (.v 3) .no (.yes (.v 1)),.v 2]) (.tp [1,2]) (.enu #v[.v 2]) .nil [td,td,td,gV 2,gV 0,gV 1]])]
abbrev dG:Ss:=
 #v[.ret (.tup #v[.ix (.ix (.v 1) (.v 3)) (.c (.int 0)),.bi .tuple #v[.comp (.own "way" 4 #v[.v 3,.v 4,.v 2,.v 1]) (.nm 1) (.seq (.v 2)) .nil [td,td,gV 3,gV 0,gV 1]]])]
section
variable{defs:GD (Hc×Df)}{fuel d:GP}{S:aa}{r:GP}{Q:QW}
def v6 {M:Hc->FF}{m0 b0:W}{ns:GD Hc}{bs:GD G0}{a:GP}{u:Wd}{i j:GP}{Q:QO}(hb:GoodB bs)(hl:ns.length=bs.length)(hu:GoodW a bs.length u)(hi:i < u.length)(hj:j < u.length)(hij:i≠j)(k:Q (.rt (.int (bv bs u i j)),S)) :
  wZ M fuel re [gV (.tup [m0,.tup (GY aB ns bs),b0]),gV (ak u),gV (.int i),gV (.int j)] S Q:=by
 have hpi:=aq (d:=(0,[])) hi;have hpj:=aq (d:=(0,[])) hj;unfold bv at k;dsimp only[re];nofun
 dsimp only[wS,wT,wE,wV,wG,y8,wO,wB,ak];show ae (Q0:=Q) (λh Q2 _ hr=>?_) (λh Q2 hn _=>?_)
 ·have hji:j < i:=by have:=Ij h; omega
  rw[Ho hji]at k;have hw:j < (u.getD i (0,[])).2.length:=by rw[hu.len i _ hpi]; exact hji
  show st ?_;dsimp only[wS,wE,wV,wG];show ac (GZ i) (cm hi) (ac #v[] rfl (ac (GZ j) ?_ (hr _ _ k)))
  rw[Ha,GV,aq (d:=0) hw]; rfl
 ·have hji:¬ j < i:=by have:=JB h; omega
  rw[HD hji]at k;show aN (hn _ _ (hK _ _ ?_));clear hn hK;have hw:i < (u.getD j (0,[])).2.length:=by rw[hu.len j _ hpj]; omega
  have hg:=aq (d:=0) hw;obtain⟨g1,g2⟩:=hu.way j _ hpj _ (G7 hg);obtain⟨b,hb1,hb2,hb3⟩:=hb.rng ((u.getD j (0,[])).2.getD i 0).toNat ∅
  have hn:((u.getD j (0,[])).2.getD i 0).toNat < ns.length:=∅
  rw[getD_some hb1]at k;show st ?_;dsimp only[wS,wE,wV,wG];show ac #v[] rfl (ac (GZ j) (cm hj) (ac #v[] rfl (ac (GZ i) ?_ (ac g1 (j6 (G1 hn) hb1) (ac #v[] rfl k)))))
  rw[Ha,GV,hg]; rfl
structure Parts (defs:GD (Hc×Df)):Prop where
 way:Is defs ("way" : Hc) 4 4 re
 over:Is defs ("point_over" : Hc) 4 4 dG
def Ei (P:Parts defs){m0 b0:W}{ns:GD Hc}{bs:GD G0}{a:GP}{u:Wd}{i j:GP}(hb:GoodB bs)(hl:ns.length=bs.length)(hu:GoodW a bs.length u)(hi:i < u.length)(hj:j < u.length)(hij:i≠j)(k:Q (.int (bv bs u i j),S)) :
  wO (aE (am defs fuel (d+1)) "way" 4 [.tup [m0,.tup (GY aB ns bs),b0],ak u,.int i,.int j] S) Q:=
 ap P.way rfl rfl λQ' hR=>v6 hb hl hu hi hj hij (hR _ _ k)
def Cd (P:Parts defs){m0 b0:W}{ns:GD Hc}{bs:GD G0}{a:GP}{u:Wd}{ps:GD GP}{i:GP}(hb:GoodB bs)(hl:ns.length=bs.length)(hu:GoodW a bs.length u)(hps:∀p∈ps,p < u.length/\i≠p)(hi:i < u.length)(hsz:ps.length<=1000)(k:∀S',Ka S S'->Q (ag ((u.getD i (0,[])).1,ps.map λq=>bv bs u i q),S')) :
  wO (aE (am defs fuel (d+2)) "point_over" 4 [.tup [m0,.tup (GY aB ns bs),b0],ak u,.tup (au ps),.int i] S) Q:=by
 show ap P.over rfl rfl λQ' hR=>?_
 replace k:∀S',Ka S S'->Q' (.rt (ag ((u.getD i (0,[])).1,ps.map λq=>bv bs u i q)),S'):=λS' a=>hR _ _ (k S' a)
 clear hR;change wZ _ _ dG [gV (.tup [m0,.tup (GY aB ns bs),b0]),gV (ak u),gV (.tup (au ps)),gV (.int i)] S Q';generalize hR0:W.tup [m0,.tup (GY aB ns bs),b0]=R;dsimp only[dG];show st ?_;left;show ac (GZ i) (cm hi) (ac #v[] rfl ?_)
 show mS (au ps) (λj ys Z2 S2=>(∃a1,Z2=[td,a1,gV (.int i),gV R,gV (ak u)])/\ys=(ps.take j).map (λq=>W.int (bv bs u i q))/\Ka S S2) rfl rfl rfl #[rfl,#[td,rfl],rfl,.refl] ?_ ?_
 ·rintro j w ys Z2 S2 hw ⟨⟨a1,rfl⟩,rfl,k2⟩;unfold au at hw;rw[GV,GM]at hw;obtain⟨q,hq,rfl⟩:=hw;obtain⟨hqu,hqi⟩:=hps q (G7 hq);show ab (show fq (.nm 1) (.int (q:G0)) [td,a1,gV (.int i),gV R,gV (ak u)] S2=gV ([td,gV (.int (q:G0)),gV (.int i),gV R,gV (ak u)],S2)from rfl) ?_
  dsimp only[fm,wC,wE,wA,wV,wG];subst hR0;show#[λ_=>Ei (d:=d) P hb hl hu hi hqu hqi #[#[_,rfl],?_,k2],λz=>by cases z]
  rw[HJ,hq];simp
 ·rintro ys Z2 S2 ⟨_,rfl,k2⟩;rw[show(au ps).length=ps.length from GF ..,HP]
  show#[lE (by rw[GF]; exact hsz),dX aj ?_]
  have:=k _ (k2.trans (Ka.push (o:=O.lst (ps.map λq=>W.int (bv bs u i q)))))
  unfold ag at this;rw[IG]at this;exact this
def Ej (P:Parts defs)(hp:Is defs ("part" : Hc) 3 3 gJ){m0 b0:W}{ns:GD Hc}{bs:GD G0}{a:GP}{u:Wd}{ps:GD GP}(hb:GoodB bs)(hl:ns.length=bs.length)(hu:GoodW a bs.length u)(hps:∀p∈ps,p < u.length)(hnd:ps.Nodup)(hsz:ps.length<=1000)(k:∀S',Ka S S'->Q (ak (ar bs u ps),S')) :
  wO (aE (am defs fuel (d+3)) "part" 3 [.tup [m0,.tup (GY aB ns bs),b0],ak u,.tup (au ps)] S) Q:=by
 show ap hp rfl rfl λQ' hR=>?_
 replace k:∀S',Ka S S'->Q' (.rt (ak (ar bs u ps)),S'):=λS' a=>hR _ _ (k S' a)
 clear hR;change wZ _ _ gJ [gV (.tup [m0,.tup (GY aB ns bs),b0]),gV (ak u),gV (.tup (au ps))] S Q';generalize hR0:W.tup [m0,.tup (GY aB ns bs),b0]=R;dsimp only[gJ];show st ?_;dsimp only[wS,wE,wA];show qX (au ps) (λj ys Z2 S2=>(∃a1 a2,Z2=[td,a1,a2,gV (.tup (au ps)),gV R,gV (ak u)])/\ys=((ar bs u ps).take j).map ag/\Ka S S2) rfl rfl rfl #[rfl,#[td,td,rfl],rfl,.refl] ?_ ?_
 ·rintro j w ys Z2 S2 hw ⟨⟨a1,a2,rfl⟩,rfl,k2⟩;unfold au at hw;rw[GV,GM]at hw;obtain⟨q,hq,rfl⟩:=hw;have hj:j < ps.length:=(G5.mp hq).1;have eq:q=ps[j]:=(G5.mp hq).2.symm;show ab (show fq (.tp [1,2]) (.tup [.int (j:G0),.int (q:G0)]) [td,a1,a2,gV (.tup (au ps)),gV R,gV (ak u)] S2=gV ([td,gV (.int (j:G0)),gV (.int (q:G0)),gV (.tup (au ps)),gV R,gV (ak u)],S2)from rfl) ?_
  dsimp only[fm,wC,wE,wA,wP,wV,wG,wN];show#[λ_=>ab (a:=(.tup (au (ps.take j)),S2)) ?_ ?_,λz=>by cases z]
  ·simp only[fR,cO];unfold au;rw[Kb]
  ·subst hR0;show Cd (d:=d) P hb hl hu (λp hp=>#[hps p (JN hp),?_]) (hps q (G7 hq)) (by rw[Hm]; omega) λS3 k3=>#[#[_,_,rfl],?_,k2.trans k3]
   ·obtain⟨m,hm,e⟩:=Kj.mp hp;rw[Hm]at hm;rw[Ke]at e;rw[eq,<- e];intro z;have:=(Ji hnd).mp z;omega
   ·have ep:(ar bs u ps)[j]?=gV ((u.getD q (0,[])).1,(ps.take j).map λq'=>bv bs u q q'):=by
     unfold ar;rw[GV,Jf hj,HA,getD_some hq]
    rw[HJ,ep];simp
 ·rintro ys Z2 S2 ⟨_,rfl,k2⟩;rw[show(au ps).length=ps.length from GF ..,<- aT bs u ps,HP]
  exact#[lE (by rw[GF,aT]; exact hsz),dX aj (k _ (k2.trans .push))]
end
section
variable{S:aa}{Q:QW}
def oM:∀(xs:GD GP) (i:GP),(au xs).eraseIdx i=au (xs.eraseIdx i)
 | [],i=>by cases i <;> rfl
 | x::xs,0=>rfl
 | x::xs,i+1=>by
  change W.int (x:GP)::(au xs).eraseIdx i=W.int (x:GP)::au (xs.eraseIdx i);rw[oM xs i]
def sH (n:GP):yd 0 ((n:G0) - 0).toNat=au (G8 n):=by
 unfold yd au;rw[show((n:G0) - 0).toNat=n by omega]
 exact Im λk _=>by rw[Lc]
def zz {i n:GP}(h:S[i]?=gV (.rng 0 n))(hn:n<=1000)(q:Q (.ref S.length,S++[.lst (au (G8 n))])):wO (Bi.list.fn [.ref i] S) Q:=by
 show ab ?_ q;have h1:ut S i=gV (0,(n:G0)):=by simp[ut,h]
 have h2:i5 [.ref i] S=gV (.ref S.length,S++[.lst (au (G8 n))]):=by
  (dsimp only[i5]; simp only[h1])
  rw[Ho #[∅,∅,∅,∅,by rw[Ik]; omega],sH]
 simp only[Bi.fn,BP,h2]
def Ek {t:GP}{xs:GD W}{v:G0}{w:W}(h:S[t]?=gV (.lst xs))(h0:0<=v)(hw:xs[v.toNat]?=gV w)(hl:xs.length<=1000)(q:Q (w,S.set t (.lst (xs.eraseIdx v.toNat)))):wO (Me.pop.fn (.ref t) [.int v] S) Q:=by
 show ab ?_ q;have hv:=(G5.mp hw).1;have hs:seqIndex? v xs.length=gV v.toNat:=by
  unfold seqIndex?;rw[HD (show ¬ v < 0 by omega)]
  exact Ho (by rw[GQ]; exact#[Iu h0,Iu ∅])
 (dsimp only[Me.fn,yc]; simp only[bR h])
 rw[Ho #[∅,∅]]
 simp only[hs,hw]
end
section
variable{defs:GD (Hc×Df)}{fuel d:GP}{S:aa}{r:GP}{Q:QW}
def El {t l:GP}{xs ys:GD W}(h:S[t]?=gV (.lst xs))(h2:S[l]?=gV (.lst ys))(hl:xs.length+ys.length<=1000)(q:Q (.non,S.set t (.lst (xs++ys)))):wO (Me.extend.fn (.ref t) [.ref l] S) Q:=by
 show ab ?_ q
 (dsimp only[Me.fn,gR]; simp only[bR h,bR h2])
 rw[Ho (lE hl)]
end
abbrev rf (bs:GD G0)(v:Wd)(ps:GD GP)(i:GP):Pt:=((v.getD i (0,[])).1,ps.map λq=>bv bs v i q)
abbrev fM (n:GP)(os:GD (GD GP)):GD (GD GP):=os.flatMap λo=>((G8 n).filter λp=>decide (p∉o)).map λp=>o++[p]
def lI (bs:GD G0)(v:Wd)(o:GD GP)(p:GP):ar bs v (o++[p])=ar bs v o++[rf bs v o p]:=by
 unfold ar rf;rw[GJ,HB,IL,Hh];congr 1
 ·show Im λk hk=>?_
  have hk:=Hd.mp hk;rw[show(o++[p]).getD k 0=o.getD k 0 by simp[HC hk],List.take_append_of_le_length ∅]
 ·simp
def oN {n:GP}:∀os:GD (GD GP),(fM n os).length<=os.length*n
 | []=>by simp[fM]
 | o::os=>by
  have ih:=oN (n:=n) os;unfold fM at ih ⊢;rw[JO,GJ,GF,HK,LX];have:=IP (λp=>decide (p∉o)) (G8 n)
  rw[Hq]at this;omega
def sI {n:GP}{os:GD (GD GP)}{i:GP}:(fM n (os.take i)).length<=os.length*n:=by
 show Hs (oN _) (MA _ ?_);rw[Hm]; omega
def iQ {S:aa}{d:GP}:∀xs ys:GD G0,jg (ir S d) (xs.map W.int) (ys.map W.int)=gV (decide (xs=ys))
 | [],[]=>rfl
 | [],_::_=>rfl
 | _::_,[]=>rfl
 | x::xs,y::ys=>by
  have e:ir S d (.int x) (.int y)=gV (x==y):=by cases d <;> rfl
  simp only[Ir,jg,e,iQ xs ys]
  by_cases h:x=y
  ·subst h; by_cases h2:xs=ys <;> simp[h2]
  ·have h':(x==y)=false:=by simpa using h
   simp[h,h']
def Ce {S:aa}{d:GP}(p q:Pt):ir S (d+2) (ag p) (ag q)=gV (decide (p=q)):=by
 obtain⟨m,ws⟩:=p;obtain⟨m',ws'⟩:=q;change jg (ir S (d+1)) [.int m,.tup (ws.map W.int)] [.int m',.tup (ws'.map W.int)]=_;have e:ir S (d+1) (.int m) (.int m')=gV (m==m'):=rfl;have e2:ir S (d+1) (.tup (ws.map W.int)) (.tup (ws'.map W.int))=gV (decide (ws=ws')):=iQ ws ws';simp only[jg,e,e2]
 by_cases h:m=m'
 ·subst h; by_cases h2:ws=ws' <;> simp[h2]
 ·have h':(m==m')=false:=by simpa using h
  simp[h,h']
def Em {S:aa}{p q:Pt}:aJ .eq (ag p) (ag q) S=gV (.bl (decide (p=q)),S):=by
 show(ir S (18+2) (ag p) (ag q)).map _=_;rw[Ce]; rfl
def oO {p:GP}:∀ps:GD GP,((au ps).any λz=>nC z (.int p))=decide (p∈ps)
 | []=>rfl
 | q::ps=>by
  show((q:G0)==(p:G0)||(au ps).any _)=_
  rw[oO ps]
  by_cases h:q=p
  ·subst h; simp
  ·have h1:((q:G0)==(p:G0))=false:=by simp; omega
   have h2:¬ p=q:=λe=>h e.symm
   rw[h1]; simp[h2]
def sJ (ps:GD GP):(au ps).all bU=true:=by
 rw[Hk];intro x hx;obtain⟨p,_,rfl⟩:=Hi.mp hx;rfl
def v8 {S:aa}{p:GP}{ps:GD GP}:aJ .notin (.int p) (.tup (au ps)) S=gV (.bl (decide (p∉ps)),S):=by
 change dB .notin (.int p) (.tup (au ps)) S=_;have hf:(bU (.int p)&&(au ps).all bU)=true:=by rw[sJ]; rfl
 simp only[dB,rT,Bl,fA,hf,J1,HA,oO];congr 3
 by_cases h:p∈ps <;> simp[h]
def j9 {xs:GD W}:jh xs td (gV (-1))=xs.dropLast:=by
 unfold jh;rw[HT.jx,Oy,Nx,List.dropLast_eq_take];congr 1;show(if (-1:G0) < 0 then((-1:G0)+(xs.length:G0)).toNat else min (-1:G0).toNat xs.length)=_
 rw[Ho #v[]]; omega
abbrev aV:Ss:=
 #v[.set 2 (.lst .nil),.loop (.nm 3) (.seq (.v 0)) #v[.ex (.me .extend (.v 2) #v[.comp (.op .add (.v 2) (.tup #v[.v 1])) (.nm 1) (.rng #v[.v 1]) #v[.cmp .notin (.v 1) (.v 2)] [td,td,gV 3]])],.ret (.v 2)]
abbrev cg (os:GD (GD GP)):GD W:=os.map λo=>.tup (au o)
section
variable{defs:GD (Hc×Df)}{fuel d:GP}{S:aa}{Q:QW}
def pR {t l:GP}{xs ys:GD W}(h:S[t]?=gV (.lst xs))(h2:S[l]?=gV (.lst ys))(hl:xs.length+ys.length<=1000000)(q:Q (.non,S.set t (.lst (xs++ys)))):wO (Me.extend.fn (.ref t) [.ref l] S) Q:=by
 show ab ?_ q;simp only[Me.fn,gR,bR h,bR h2];rw[Ho (by rw[Ik]; omega)]
def cH {n:GP}(h:n<=1000000):n<=sizeLine:=by rw[Ik]; omega
def wa (hg:Is defs ("longer_orders" : Hc) 2 4 aV){n l:GP}{os:GD (GD GP)}(e:S[l]?=gV (.lst (cg os)))(hn:n<=100)(hol:∀o∈os,o.length<=100)(hos:os.length*n<=100000)
  (k:∀(q:GP) (S':aa),S'[q]?=gV (.lst (cg (fM n os)))->S.length<=q->Ka S S'->Q (.ref q,S')) :
  wO (aE (am defs fuel (d+1)) "longer_orders" 2 [.ref l,.int n] S) Q:=by
 show ap hg rfl rfl λQ' hR=>?_
 replace k:∀(q:GP) (S':aa),S'[q]?=gV (.lst (cg (fM n os)))->S.length<=q->Ka S S'->Q' (.rt (.ref q),S'):=λa b c e f=>hR _ _ (k a b c e f)
 clear hR;change wZ _ _ aV [gV (.ref l),gV (.int n),td,td] S Q';have hlS:=cj e;dsimp only[aV];show st ?_;dsimp only[wS,wE,wA,G2];nofun
 show jr l (cg os) (λi Z S'=>(∃a3,Z=[gV (.ref l),gV (.int n),gV (.ref S.length),a3])/\S'[l]?=gV (.lst (cg os))/\S'[S.length]?=gV (.lst (cg (fM n (os.take i))))/\Ka S S') rfl rfl #[rfl,#[td,rfl],aw e,aj,.push] (λi Z S' h=>h.2.1) ?_ ?_
 ·rintro i w Z S1 hw ⟨⟨a3,rfl⟩,e0,e1,k1⟩;clear hK k;unfold cg at hw;rw[GV,GM]at hw;obtain⟨o,ho,rfl⟩:=hw;have hol:=hol o (G7 ho);show ab (show fq (.nm 3) (.tup (au o)) [gV (.ref l),gV (.int n),gV (.ref S.length),a3] S1=gV ([gV (.ref l),gV (.int n),gV (.ref S.length),gV (.tup (au o))],S1)from rfl) ?_
  intro Q2 hn _;show st ?_;left;show#[da e1,?_];show fX (n:G0) (λj ys Z2 S2=>(∃a1,Z2=[td,a1,gV (.tup (au o))])/\ys=cg (((G8 j).filter λp=>decide (p∉o)).map λp=>o++[p])/\S2=S1) rfl rfl rfl ∅ #[rfl,#[td,rfl],rfl,rfl] ?_ ?_
  ·rintro j ys Z2 S2 hj ⟨⟨a1,rfl⟩,rfl,rfl⟩;dsimp only[fm,wC,wE,wA,wV,wG,G2];show ab v8 ?_;dsimp only[wB];have er:(G8 (j+1)).filter (λp=>decide (p∉o))=(G8 j).filter (λp=>decide (p∉o))++(if j∉o then[j]else[]):=by
    rw[IL,J4];congr 1
    by_cases h:j∈o <;> simp[h]
   show#[λh=>?_,λh=>#[#[_,rfl],?_,rfl]]
   ·have h:j∉o:=Ij h;show ab (aP (cH (by rw[GJ,show(au o).length=o.length from GF ..]; show _+1<=_; omega))) #[#[_,rfl],?_,rfl]
    rw[er,Ho h,Hh];unfold cg;rw[Hh];simp[au]
   ·have h:¬ j∉o:=JB h;rw[er,HD h,Iy]
  ·rintro ys Z2 S2 ⟨_,rfl,rfl⟩;rw[Ha];have hlen:(cg (((G8 n).filter λp=>decide (p∉o)).map λp=>o++[p])).length<=n:=by
    unfold cg;rw[GF,GF];exact Hs (IP _ _) (by rw[Hq]; exact G3 _)
   have e1':=aw (u:=O.lst (cg (((G8 n).filter λp=>decide (p∉o)).map λp=>o++[p]))) e1
   have hlt:=sI (n:=n) (os:=os) (i:=i);have hlw:(cg (fM n (os.take i))).length=(fM n (os.take i)).length:=GF ..;show#[cH ∅,pR e1' aj ∅ (aN (hn _ _ #[#[_,rfl],?_,?_,(k1.trans .push).late (G3 _)]))]
   ·rw[cf ∅]; exact aw e0
   ·rw[bV e1'];unfold fM cg;rw[HJ,ho];simp
 ·rintro Z S1 ⟨⟨a3,rfl⟩,e0,e1,k1⟩;rw[show(cg os).length=os.length from GF ..,HP]at e1
  exact hK _ _ (st (k _ _ e1 (G3 _) k1))
end
def Cg {S:aa}{i j:GP}{xs ys:GD G0}(h1:S[i]?=gV (.lst (xs.map W.int)))(h2:S[j]?=gV (.lst (ys.map W.int))):aJ .eq (.ref i) (.ref j) S=gV (.bl (decide (xs=ys)),S):=by
 show(ir S (19+1) (.ref i) (.ref j)).map _=_
 (dsimp only[ir]; simp only[bR h1,bR h2,iQ])
 split
 ·rfl
 ·rename_i h;have:xs≠ys:=λe=>h (by rw[e])
  simp[this]
abbrev aW:Ss:=
 #v[.set 4 (.tup #v[.ix (.ix (.v 0) (.v 1)) (.c (.int 0)),.tup .nil]),.set 5 (.tup #v[.ix (.ix (.v 0) (.v 2)) (.c (.int 0)),.tup #v[.ix (.ix (.ix (.v 0) (.v 2)) (.c (.int 1))) (.v 1)]]),.ret (.tup #v[.v 4,.v 5,.tup #v[.ix (.ix (.v 0) (.v 3)) (.c (.int 0)),.tup #v[.ix (.ix (.ix (.v 0) (.v 3)) (.c (.int 1))) (.v 1),.ix (.ix (.ix (.v 0) (.v 3)) (.c (.int 1))) (.v 2)]]])]
abbrev bX (u:Wd)(i j k:GP):Wd:=[((u.getD i (0,[])).1,[]),((u.getD j (0,[])).1,[(u.getD j (0,[])).2.getD i 0]),((u.getD k (0,[])).1,[(u.getD k (0,[])).2.getD i 0,(u.getD k (0,[])).2.getD j 0])]
section
variable{defs:GD (Hc×Df)}{fuel d:GP}{S:aa}{Q:QW}
def mY (hg:Is defs ("three_at" : Hc) 4 6 aW){a n:GP}{u:Wd}{i j k:GP}(hu:GoodW a n u)(h1:i < j)(h2:j < k)(h3:k < u.length)(q:Q (ak (bX u i j k),S)) :
  wO (aE (am defs fuel (d+1)) "three_at" 4 [ak u,.int i,.int j,.int k] S) Q:=by
 show ap hg rfl rfl λQ' hR=>?_
 replace q:=hR _ _ q;clear hR;change wZ _ _ aW [gV (ak u),gV (.int i),gV (.int j),gV (.int k),td,td] S Q';have hi:i < u.length:=∅
 have hj:j < u.length:=∅
 have lj:i < (u.getD j (0,[])).2.length:=by rw[hu.len j _ (aq (d:=(0,[])) hj)]; exact h1
 have lk:j < (u.getD k (0,[])).2.length:=by rw[hu.len k _ (aq (d:=(0,[])) h3)]; exact h2
 have lki:i < (u.getD k (0,[])).2.length:=∅
 have w:∀ {p m:GP},m < (u.getD p (0,[])).2.length->((u.getD p (0,[])).2.map W.int)[((m:GP):G0).toNat]?=gV (.int ((u.getD p (0,[])).2.getD m 0)):=λ{p m} h=>by
  rw[Ha,GV,aq (d:=0) h]; rfl
 dsimp only[aW];show st ?_;left;show ac (GZ i) (cm hi) (ac #v[] rfl ?_)
 show st ?_;left;show ac (GZ j) (cm hj) (ac #v[] rfl (ac (GZ j) (cm hj) (ac #v[] rfl (ac (GZ i) (w lj) ?_))))
 show st ?_;left;exact ac (GZ k) (cm h3) (ac #v[] rfl (ac (GZ k) (cm h3) (ac #v[] rfl (ac (GZ i) (w lki) (ac (GZ k) (cm h3) (ac #v[] rfl (ac (GZ j) (w lk) q)))))))
end
abbrev bf (i j k i' j' k':GP):Prop:=i' < i\/(i'=i/\(j' < j\/(j'=j/\k' < k)))
abbrev Ch (P:GP->GP->GP->Hj)(n i j k:GP):Prop:=i < j/\j < k/\k < n/\P i j k=true/\∀i' j' k',i' < j'->j' < k'->k' < n->bf i j k i' j' k'->P i' j' k'=false
abbrev Ans (P:GP->GP->GP->Hj)(n:GP)(w:W):Prop:=(w=.non/\∀i j k,i < j->j < k->k < n->P i j k=false)\/∃i j k:GP,w=.tup [.int i,.int j,.int k]/\Ch P n i j k
def Ans.congr {P P':GP->GP->GP->Hj}{n:GP}{w:W}(e:∀i j k,i < j->j < k->k < n->P i j k=P' i j k)(h:Ans P n w):Ans P' n w:=by
 rcases h with⟨rfl,h⟩|⟨i,j,k,rfl,a1,a2,a3,a4,a5⟩
 ·exact .inl #[rfl,λi j k b1 b2 b3=>by rw[<- e i j k b1 b2 b3]; exact h i j k b1 b2 b3]
 ·exact .inr #[i,j,k,rfl,a1,a2,a3,by rw[<- e i j k a1 a2 a3]; exact a4,λi' j' k' b1 b2 b3 b4=>by rw[<- e i' j' k' b1 b2 b3]; exact a5 i' j' k' b1 b2 b3 b4]
abbrev bP:Ss:=
 #v[.loop (.nm 2) (.rng #v[.bi .len #v[.v 1]]) #v[.loop (.nm 3) (.rng2 #v[.op .add (.v 2) (.c (.int 1)),.bi .len #v[.v 1]]) #v[.loop (.nm 4) (.rng2 #v[.op .add (.v 3) (.c (.int 1)),.bi .len #v[.v 1]]) #v[.ite (.cmp .isin (.own "three_at" 4 #v[.v 1,.v 2,.v 3,.v 4]) (.v 0)) #v[.ret (.tup #v[.v 2,.v 3,.v 4])] .nil]]],.ret (.c .non)]
abbrev bG (U:GD (T×W))(u:Wd)(i j k:GP):Hj:=(bT U (dy (bX u i j k))).isSome
section
variable{defs:GD (Hc×Df)}{fuel d:GP}{S:aa}{Q:QW}
def kK (h3:Is defs ("three_at" : Hc) 4 6 aW)(hg:Is defs ("first_three" : Hc) 2 5 bP){a n q:GP}{u:Wd}{U:GD (T×W)}(hu:GoodW a n u)(hl:u.length<=1000)(e:S[q]?=gV (.dic U))(kk:∀w,Ans (bG U u) u.length w->Q (w,S)) :
  wO (aE (am defs fuel (d+2)) "first_three" 2 [.ref q,ak u] S) Q:=by
 show ap hg rfl rfl λQ' hR=>?_
 replace kk:∀w,Ans (bG U u) u.length w->Q' (.rt w,S):=λw h=>hR _ _ (kk w h)
 clear hR;change wZ _ _ bP [gV (.ref q),gV (ak u),td,td,td] S Q';have ul:(u.map ag).length=u.length:=GF ..;dsimp only[bP];nofun
 show bB (u.length:G0) (λi Z S'=>(∃a2 a3 a4,Z=[gV (.ref q),gV (ak u),a2,a3,a4])/\S'=S/\∀i' j' k',i' < i->i' < j'->j' < k'->k' < u.length->bG U u i' j' k'=false) rfl rfl ∅ ?_ ?_ ?_
 ·dsimp only[wE,wA,wV,wG];show az ?_;rw[ul];exact#[rfl,#[_,_,_,rfl],rfl,λi' _ _ z=>∅]
 ·rintro i Z S1 hi ⟨⟨a2,a3,a4,rfl⟩,rfl,no⟩ Q2 hn hr;clear hK;dsimp only[G2];nofun
  show cp ((i:G0)+1) (u.length:G0) (λm Z S'=>(∃a3 a4,Z=[gV (.ref q),gV (ak u),gV (.int i),a3,a4])/\S'=S1/\∀j' k',j' < i+1+m->i < j'->j' < k'->k' < u.length->bG U u i j' k'=false) rfl rfl rfl ∅ ?_ ?_ ?_
  ·dsimp only[wE,wA,wV,wG];show ab cM #[rfl,az ?_];rw[ul];exact#[rfl,#[_,_,rfl],rfl,λj' k' z1 z2=>∅]
  ·rintro m Z S2 hm ⟨⟨a3,a4,rfl⟩,rfl,no2⟩ Q3 hn3 hr3;clear hK;have ej:(i:G0)+1+m=((i+1+m:GP):G0):=∅
   rw[ej];generalize hj:i+1+m=j at no2 hn3 ej;have hij:i < j:=∅
   have hju:j < u.length:=∅
   dsimp only[G2];nofun
   show cp ((j:G0)+1) (u.length:G0) (λl Z S'=>(∃a4,Z=[gV (.ref q),gV (ak u),gV (.int i),gV (.int j),a4])/\S'=S2/\∀k',k' < j+1+l->j < k'->k' < u.length->bG U u i j k'=false) rfl rfl rfl ∅ ?_ ?_ ?_
   ·dsimp only[wE,wA,wV,wG];show ab cM #[rfl,az ?_];rw[ul];exact#[rfl,#[_,rfl],rfl,λk' z1 z2=>∅]
   ·rintro l Z S3 hl3 ⟨⟨a4,rfl⟩,rfl,no3⟩ Q4 hn4 hr4;clear hK;have ek:(j:G0)+1+l=((j+1+l:GP):G0):=∅
    rw[ek];generalize hk:j+1+l=k at no3 hn4 ek;have hjk:j < k:=∅
    have hku:k < u.length:=∅
    dsimp only[G2];nofun
    dsimp only[wS,wT,wE,wA,wV,wG];show mY (d:=d) h3 hu hij hjk hku ?_;show ab (show aJ .isin (ak (bX u i j k)) (.ref q) S3=gV (.bl (bG U u i j k),S3) by simp only[aJ,eR e,gH]; rfl) ?_
    dsimp only[wB];show ae (Q0:=Q4) (λh Q5 _ hr5=>?_) (λh Q5 hn5 _=>aN (hn5 _ _ (hK _ _ (aN (hn4 _ _ #[#[_,rfl],rfl,λk' z1 z2 z3=>?_])))))
    ·show st ?_;left;show hr5 _ _ (hr4 _ _ (hr3 _ _ (hr _ _ (kk _ (.inr #[i,j,k,rfl,hij,hjk,hku,h,λi' j' k' b1 b2 b3 b4=>?_])))))
     rcases b4 with b|⟨rfl,b|⟨rfl,b⟩⟩
     ·exact no i' j' k' b b1 b2 b3
     ·exact no2 j' k' b b1 b2 b3
     ·exact no3 k' b b2 b3
    ·by_cases ek2:k'=k
     ·rw[ek2]; exact h
     ·exact no3 k' ∅ z2 z3
   ·rintro Z S3 ⟨⟨a4,rfl⟩,rfl,no3⟩;show hK _ _ (aN (hn3 _ _ #[#[_,_,rfl],rfl,λj' k' z1 z2 z3 z4=>?_]))
    by_cases ej2:j'=j
    ·rw[ej2]; exact no3 k' ∅ ∅ z4
    ·exact no2 j' k' ∅ z2 z3 z4
  ·rintro Z S2 ⟨⟨a3,a4,rfl⟩,rfl,no2⟩;show hK _ _ (aN (hn _ _ #[#[_,_,_,rfl],rfl,λi' j' k' z1 z2 z3 z4=>?_]))
   by_cases ei:i'=i
   ·rw[ei]; exact no2 j' k' ∅ ∅ z3 z4
   ·exact no i' j' k' ∅ z2 z3 z4
 ·rintro Z S1 ⟨⟨a2,a3,a4,rfl⟩,rfl,no⟩;show hK _ _ (st ?_);dsimp only[wS,wE];exact kk _ (.inl #[rfl,λi j k b1 b2 b3=>no i j k ∅ b1 b2 b3])
end
structure HasD (U:GD (T×W))(L:GD Wd):Prop where
 iff:∀t,t∈U.map (·.1)↔t∈L.map dy
 len:U.length<=L.length
def wb {U:GD (T×W)}{t:T}:(bT U t).isSome=true↔t∈U.map (·.1):=by
 constructor
 ·intro h;obtain⟨v,hv⟩:=Ig.mp h;exact Hi.mpr #[_,vW hv,rfl]
 ·intro h;obtain⟨p,hp,rfl⟩:=Hi.mp h;obtain⟨v,hv⟩:=zu hp;rw[hv]; rfl
def HasD.get {U:GD (T×W)}{L:GD Wd}(h:HasD U L)(t:T):(bT U t).isSome=decide (t∈L.map dy):=by
 rw[Jp,wb,h.iff,Hy]
def HasD.nil:HasD [] []:=#[λt=>by simp,G3 _]
def HasD.put {U:GD (T×W)}{L:GD Wd}{f:Wd}{v:W}(h:HasD U L):HasD (fZ U (dy f) v) (L++[f]):=by
 show#[λt=>?_,?_]
 ·rw[iP,Hh,Ht,<- h.iff t]
  by_cases hk:dy f∈U.map (·.1)
  ·rw[Ho hk];constructor
   ·exact .inl
   ·rintro(z|z)
    ·exact z
    ·rw[G6.mp z]; exact hk
  ·rw[HD hk,Ht]; rfl
 ·have:=d0 U (dy f) v;have:=h.len;rw[GJ,HB]; omega
abbrev eJ:Ss:=
 #v[.set 1 .dnew,.loop (.nm 2) (.seq (.ix (.v 0) (.c (.int 2)))) #v[.loop (.nm 3) (.seq (.own "_law_turns" 0 .nil)) #v[.put (.v 1) (.own "_law_part" 3 #v[.v 0,.v 2,.v 3]) (.c (.bl true))]],.ret (.v 1)]
abbrev bH (bs:GD G0)(gs:GD Wd):GD Wd:=gs.flatMap λg=>ay.map (ar bs g)
def kb (bs:GD G0):∀gs:GD Wd,(bH bs gs).length=6*gs.length
 | []=>rfl
 | g::gs=>by
  have:=kb bs gs;unfold bH at this ⊢;rw[JO,GJ,this,HK,GF,show ay.length=6 from rfl]; omega
section
variable{defs:GD (Hc×Df)}{fuel d:GP}{S:aa}{Q:QW}
def En (G:Gen defs)(hg:Is defs ("_law_bad" : Hc) 1 4 eJ){m0:W}{ns:GD Hc}{bs:GD G0}{a:GP}{gs:GD Wd}(hb:GoodB bs)(hnl:ns.length=bs.length)(hgs:∀g∈gs,GoodW a bs.length g/\g.length=3)(h64:gs.length<=100)
  (k:∀(q:GP) (U:GD (T×W)) (S':aa),S'[q]?=gV (.dic U)->HasD U (bH bs gs)->S.length<=q->Ka S S'->Q (.ref q,S')) :
  wO (aE (am defs fuel (d+3)) "_law_bad" 1 [.tup [m0,.tup (GY aB ns bs),.tup (gs.map ak)]] S) Q:=by
 show ap hg rfl rfl λQ' hR=>?_
 replace k:∀(q:GP) (U:GD (T×W)) (S':aa),S'[q]?=gV (.dic U)->HasD U (bH bs gs)->S.length<=q->Ka S S'->Q' (.rt (.ref q),S'):=λa b c e f g h=>hR _ _ (k a b c e f g h)
 clear hR;change wZ _ _ eJ [gV (.tup [m0,.tup (GY aB ns bs),.tup (gs.map ak)]),td,td,td] S Q';generalize hR0:W.tup [m0,.tup (GY aB ns bs),.tup (gs.map ak)]=R;dsimp only[eJ];show st ?_;dsimp only[wS,wE,G2];nofun
 show for_tup (gs.map ak) (λi Z S'=>(∃a2 a3,Z=[gV R,gV (.ref S.length),a2,a3])/\(∃U,S'[S.length]?=gV (.dic U)/\HasD U (bH bs (gs.take i)))/\Ka S S') rfl rfl ?_ ?_ ?_
 ·dsimp only[wE,wV,wG];subst hR0;exact ac #v[] rfl #[rfl,#[_,_,rfl],#[[],aj,.nil],.push]
 ·rintro i w Z S1 hw ⟨⟨a2,a3,rfl⟩,⟨U,e1,h1⟩,k1⟩;clear hK k;rw[GV,GM]at hw;obtain⟨g,hg1,rfl⟩:=hw;obtain⟨gg,g3⟩:=hgs g (G7 hg1);have hi:i < gs.length:=(G5.mp hg1).1;show ab (show fq (.nm 2) (ak g) [gV R,gV (.ref S.length),a2,a3] S1=gV ([gV R,gV (.ref S.length),gV (ak g),a3],S1)from rfl) ?_
  intro Q2 hn _;nofun
  show eI rfl rfl ?_;dsimp only[wE,wA];show rc (d:=d+1) G ?_;show#[S1.length,ay.map (λt=>W.tup (au t)),(λj Z S'=>(∃a3,Z=[gV R,gV (.ref S.length),gV (ak g),a3])/\(∃U,S'[S.length]?=gV (.dic U)/\HasD U (bH bs (gs.take i)++(ay.take j).map (ar bs g)))/\S'[S1.length]?=gV (.lst (ay.map λt=>W.tup (au t)))/\Ka S S'),rfl,#[#[_,rfl],#[U,aw e1,by rw[MB,Nv,Iy]; exact h1],aj,k1.trans .push],λj Z S' h=>h.2.2.1,?_,?_]
  ·rintro j w Z S2 hw ⟨⟨a3,rfl⟩,⟨U2,e2,h2⟩,el,k2⟩;clear hK hn;rw[GV,GM]at hw;obtain⟨t,ht,rfl⟩:=hw;have htm:=G7 ht;have tk:t.length<=3/\t.Nodup/\∀p∈t,p < 3:=by
    have:∀t∈ay,t.length<=3/\t.Nodup/\∀p∈t,p < 3:=by decide
    exact this t htm
   show ab (show fq (.nm 3) (.tup (au t)) [gV R,gV (.ref S.length),gV (ak g),a3] S2=gV ([gV R,gV (.ref S.length),gV (ak g),gV (.tup (au t))],S2)from rfl) ?_
   intro Q3 hn3 _;show st ?_;left;subst hR0;show vM (d:=d) G hb hnl gg (λp hp=>by have:=tk.2.2 p hp; omega) tk.2.1 ∅ λS3 k3=>?_
   have e3:=k3.get _ _ e2;have hlt:U2.length < sizeLine:=by
    have b1:=h2.len;have b2:=kb bs (gs.take i);rw[GJ,b2,GF,Hm,Hm,show ay.length=6 from rfl]at b1
    rw[Ik]; omega
   show ab (vT e3 hlt) (aN (hn3 _ _ #[#[_,rfl],#[_,bV e3,?_],?_,(k2.trans k3).late (G3 _)]))
   ·rw[HJ,ht,Hh,<- KM];exact h2.put
   ·rw[cf (by have:=k1.len; have:=cj e1; omega)]; exact k3.get _ _ el
  ·rintro Z S2 ⟨⟨a3,rfl⟩,⟨U2,e2,h2⟩,el,k2⟩;rw[GF,HP]at h2;show hK _ _ (aN (hn _ _ #[#[_,_,rfl],#[U2,e2,?_],k2]));unfold bH at h2 ⊢;rw[HJ,hg1,Jr]
   simpa using h2
 ·rintro Z S1 ⟨⟨a2,a3,rfl⟩,⟨U,e1,h1⟩,k1⟩;rw[GF,HP]at h1;exact hK _ _ (st (k _ U S1 e1 h1 (G3 _) k1))
end
abbrev bq:Ss:=
 #v[.set 1 (.lst #v[.tup .nil]),.whl (.cmp .lt (.bi .len #v[.ix (.v 1) (.c (.int 0))]) (.c (.int 3))) #v[.set 1 (.own "longer_orders" 2 #v[.v 1,.c (.int 3)])],.set 2 .dnew,.loop (.nm 3) (.seq (.ix (.v 0) (.c (.int 2)))) #v[.loop (.nm 4) (.seq (.v 1)) #v[.put (.v 2) (.own "part" 3 #v[.v 0,.v 3,.v 4]) (.c (.bl true))]],.ret (.v 2)]
abbrev sK:GP->GD (GD GP)
 | 0=>[[]]
 | i+1=>fM 3 (sK i)
def sL:sK 3=ay:=by decide
def Ci:∀i,i<=3->(∃o,(sK i)[0]?=gV o/\o.length=i)/\(sK i).length<=6/\∀o∈sK i,o.length<=3:=λi hi=>by
 rcases(show i=0\/i=1\/i=2\/i=3 by omega)with rfl|rfl|rfl|rfl
 ·exact#[#[[],rfl,rfl],#v[],#v[]]
 ·exact#[#[[0],rfl,rfl],#v[],#v[]]
 ·exact#[#[[0,1],rfl,rfl],#v[],#v[]]
 ·exact#[#[[0,1,2],rfl,rfl],#v[],#v[]]
section
variable{defs:GD (Hc×Df)}{fuel d:GP}{S:aa}{Q:QW}
def ke (hfu:20 < fuel)(P:Parts defs)(hp:Is defs ("part" : Hc) 3 3 gJ)(hl:Is defs ("longer_orders" : Hc) 2 4 aV)(hg:Is defs ("barred_threes" : Hc) 1 5 bq){m0:W}{ns:GD Hc}{bs:GD G0}{a:GP}{gs:GD Wd}(hb:GoodB bs)(hnl:ns.length=bs.length)(hgs:∀g∈gs,GoodW a bs.length g/\g.length=3)(h64:gs.length<=100)
  (k:∀(q:GP) (U:GD (T×W)) (S':aa),S'[q]?=gV (.dic U)->HasD U (bH bs gs)->S.length<=q->Ka S S'->Q (.ref q,S')) :
  wO (aE (am defs fuel (d+4)) "barred_threes" 1 [.tup [m0,.tup (GY aB ns bs),.tup (gs.map ak)]] S) Q:=by
 show ap hg rfl rfl λQ' hR=>?_
 replace k:∀(q:GP) (U:GD (T×W)) (S':aa),S'[q]?=gV (.dic U)->HasD U (bH bs gs)->S.length<=q->Ka S S'->Q' (.rt (.ref q),S'):=λa b c e f g h=>hR _ _ (k a b c e f g h)
 clear hR;change wZ _ _ bq [gV (.tup [m0,.tup (GY aB ns bs),.tup (gs.map ak)]),td,td,td,td] S Q';generalize hR0:W.tup [m0,.tup (GY aB ns bs),.tup (gs.map ak)]=R;dsimp only[bq];show st ?_;dsimp only[wS,wE,wA,G2];nofun
 show Ak (λm Z S'=>∃(i q:GP),i+m=3/\Z=[gV R,gV (.ref q),td,td,td]/\S'[q]?=gV (.lst (cg (sK i)))/\S.length<=q/\Ka S S') 3 rfl rfl ∅ #[0,S.length,rfl,rfl,aj,G3 _,.push] ?_
 rintro m Z S1 ⟨i,q,him,rfl,e1,hq,k1⟩;obtain⟨⟨o,ho,hol⟩,l6,l3⟩:=Ci i ∅
 dsimp only[wT,wE,wA,wV,wG];show g9 (w:=.tup (au o)) e1 #v[] (by unfold cg; rw[GV,show((0:G0).toNat)=0 from rfl,ho]; rfl) (az ?_)
 rw[show(au o).length=o.length from GF ..,hol]
 dsimp only[y6,bJ,wB];show#[λh=>?_,λh=>?_]
 ·have h:(i:G0) < 3:=Ij h;show#[m - 1,∅,λQ2 hn _=>?_]
  clear hK k;show st ?_;left;show wa (n:=3) (d:=d+2) hl e1 #v[] (λo ho=>by have:=l3 o ho; omega) ∅ λq2 S2 e2 hq2 k2=>aN (hn _ _ #[i+1,q2,∅,rfl,e2,?_,k1.trans k2])
  exact Hs k1.len hq2
 ·have h:¬ (i:G0) < 3:=JB h;obtain rfl:i=3:=∅
  rw[sL]at e1;show hK _ _ ?_;clear hK K l6 l3 ho hol h him;show st ?_;dsimp only[wS,wE,G2];nofun
  have hq1:=cj e1;show for_tup (gs.map ak) (λi Z S'=>(∃a3 a4,Z=[gV R,gV (.ref q),gV (.ref S1.length),a3,a4])/\(∃U,S'[S1.length]?=gV (.dic U)/\HasD U (bH bs (gs.take i)))/\S'[q]?=gV (.lst (cg ay))/\Ka S S') rfl rfl ?_ ?_ ?_
  ·dsimp only[wE,wV,wG];subst hR0;exact ac #v[] rfl #[rfl,#[_,_,rfl],#[[],aj,.nil],aw e1,k1.trans .push]
  ·rintro i w Z S2 hw ⟨⟨a3,a4,rfl⟩,⟨U,e2,h2⟩,el2,k2⟩;clear hK k;rw[GV,GM]at hw;obtain⟨g,hg1,rfl⟩:=hw;obtain⟨gg,g3⟩:=hgs g (G7 hg1);have hi:i < gs.length:=(G5.mp hg1).1;show ab (show fq (.nm 3) (ak g) [gV R,gV (.ref q),gV (.ref S1.length),a3,a4] S2=gV ([gV R,gV (.ref q),gV (.ref S1.length),gV (ak g),a4],S2)from rfl) ?_
   intro Q2 hn _;nofun
   show jr q (cg ay) (λj Z S'=>(∃a4,Z=[gV R,gV (.ref q),gV (.ref S1.length),gV (ak g),a4])/\(∃U,S'[S1.length]?=gV (.dic U)/\HasD U (bH bs (gs.take i)++(ay.take j).map (ar bs g)))/\S'[q]?=gV (.lst (cg ay))/\Ka S S') rfl rfl #[rfl,#[_,rfl],#[U,e2,by rw[MB,Nv,Iy]; exact h2],el2,k2] (λj Z S' h=>h.2.2.1) ?_ ?_
   ·rintro j w Z S3 hw ⟨⟨a4,rfl⟩,⟨U3,e3,h3⟩,el3,k3⟩;clear hK hn;unfold cg at hw;rw[GV,GM]at hw;obtain⟨t,ht,rfl⟩:=hw;have tk:t.length<=3/\t.Nodup/\∀p∈t,p < 3:=by
     have:∀t∈ay,t.length<=3/\t.Nodup/\∀p∈t,p < 3:=by decide
     exact this t (G7 ht)
    show ab (show fq (.nm 4) (.tup (au t)) [gV R,gV (.ref q),gV (.ref S1.length),gV (ak g),a4] S3=gV ([gV R,gV (.ref q),gV (.ref S1.length),gV (ak g),gV (.tup (au t))],S3)from rfl) ?_
    intro Q3 hn3 _;show st ?_;left;subst hR0;show Ej (d:=d) P hp hb hnl gg (λp hp=>by have:=tk.2.2 p hp; omega) tk.2.1 ∅ λS4 k4=>?_
    have e4:=k4.get _ _ e3;have hlt:U3.length < sizeLine:=by
     have b1:=h3.len;have b2:=kb bs (gs.take i);rw[GJ,b2,GF,Hm,Hm,show ay.length=6 from rfl]at b1
     rw[Ik]; omega
    show ab (vT e4 hlt) (aN (hn3 _ _ #[#[_,rfl],#[_,bV e4,?_],?_,(k3.trans k4).late k1.len]))
    ·rw[HJ,ht,Hh,<- KM];exact h3.put
    ·rw[cf ∅]; exact k4.get _ _ el3
   ·rintro Z S3 ⟨⟨a4,rfl⟩,⟨U3,e3,h3⟩,el3,k3⟩;rw[show(cg ay).length=ay.length from GF ..,HP]at h3
    show hK _ _ (aN (hn _ _ #[#[_,_,rfl],#[U3,e3,?_],el3,k3]));unfold bH at h3 ⊢;rw[HJ,hg1,Jr]
    simpa using h3
  ·rintro Z S2 ⟨⟨a3,a4,rfl⟩,⟨U,e2,h2⟩,el2,k2⟩;rw[GF,HP]at h2;exact hK _ _ (st (k _ U S2 e2 h2 k1.len k2))
end
abbrev aK:Ss:=
 #v[.loop (.nm 6) (.rng2 #v[.bi .len #v[.v 5],.bi .len #v[.v 3]]) #v[.set 7 (.lst .nil),.loop (.nm 8) (.rng #v[.bi .len #v[.ix (.v 1) (.c (.int 1))]]) #v[.set 9 (.lst .nil),.loop (.nm 10) (.rng #v[.v 6]) #v[.ex (.me .append (.v 9) #v[.cmp .isin (.tup #v[.tup #v[.ix (.ix (.v 3) (.v 10)) (.c (.int 0)),.tup .nil],.tup #v[.ix (.ix (.v 3) (.v 6)) (.c (.int 0)),.tup #v[.ix (.ix (.ix (.v 3) (.v 6)) (.c (.int 1))) (.v 10)]],.tup #v[.v 4,.tup #v[.ix (.v 5) (.v 10),.v 8]]]) (.v 2)])],.ite (.cmp .notin (.c (.bl true)) (.v 9)) #v[.ex (.me .append (.v 7) #v[.v 8])] .nil],.ite (.cmp .eq (.v 7) (.lst .nil)) #v[.ret (.c .non)] .nil,.set 5 (.op .add (.v 5) (.tup #v[.ix (.v 7) (.own "_law_pick" 2 #v[.v 0,.bi .len #v[.v 7]])]))],.ret (.v 5)]
abbrev bp (U:GD (T×W))(u:Wd)(mk:G0)(i m:GP)(x y:G0):Hj:=(bT U (dy [((u.getD i (0,[])).1,[]),((u.getD m (0,[])).1,[(u.getD m (0,[])).2.getD i 0]),(mk,[x,y])])).isSome
def wc {S:aa}{l:GP}{bl:GD Hj}(h:S[l]?=gV (.lst (bl.map W.bl))):∃b,aJ .notin (.bl true) (.ref l) S=gV (.bl b,S)/\(b=true->∀x∈bl,x=false):=by
 have hf:(bU (.bl true)&&(bl.map W.bl).all bU)=true:=by
  simp only[bU,Kv,Hk];intro x hx;obtain⟨z,_,rfl⟩:=Hi.mp hx;rfl
 show#[!(bl.map W.bl).any λz=>nC z (.bl true),?_,λhb x hx=>?_]
 ·simp only[aJ,mP h,dB,rT,Bl,fA,aI h,hf,J1,HA]
 ·rw[Jc,NF]at hb;cases x with
  | false=>rfl
  | true=>exact absurd rfl (hb (.bl true) (Hi.mpr #[true,hx,rfl]))
section
variable{defs:GD (Hc×Df)}{fuel d:GP}{S:aa}{r:GP}{Q:QW}
def kg (G:Gen defs)(hg:Is defs ("_law_new_ways" : Hc) 6 11 aK){m0 b0:W}{N:GD W}{a n q:GP}{u:Wd}{mk:G0}{U:GD (T×W)}(hN:N.length=n)(hn3:n<=3)(hu:GoodW a n u)(hl:u.length<=900){t0:GD G0}(ht:t0.length<=u.length)(hr0:∀x∈t0,0<=x/\x < (n:G0))(e:S[q]?=gV (.dic U))(hqr:q≠r)(hf:Fl S r)
  (k:∀w S',(w=.non\/∃to:GD G0,w=.tup (al to)/\to.length=u.length/\(∀x∈to,0<=x/\x < (n:G0))/\∀j < u.length,t0.length<=j->∀i < j,bp U u mk i j (to.getD i 0) (to.getD j 0)=false)->Fl S' r->Kp r S S'->Q (w,S')) :
  wO (aE (am defs fuel (d+2)) "_law_new_ways" 6 [.ref r,.tup [m0,.tup N,b0],.ref q,ak u,.int mk,.tup (al t0)] S) Q:=by
 show ap hg rfl rfl λQ' hR=>?_
 replace k:∀w S',(w=.non\/∃to:GD G0,w=.tup (al to)/\to.length=u.length/\(∀x∈to,0<=x/\x < (n:G0))/\∀j < u.length,t0.length<=j->∀i < j,bp U u mk i j (to.getD i 0) (to.getD j 0)=false)->Fl S' r->Kp r S S'->Q' (.rt w,S'):=λw S' h1 h2 h3=>hR _ _ (k w S' h1 h2 h3)
 clear hR;change wZ _ _ aK [gV (.ref r),gV (.tup [m0,.tup N,b0]),gV (.ref q),gV (ak u),gV (.int mk),gV (.tup (al t0)),td,td,td,td,td] S Q';generalize hR0:W.tup [m0,.tup N,b0]=R;have ul:(u.map ag).length=u.length:=GF ..;have hqS:=cj e;have hrS:=hf.lt;dsimp only[aK];nofun
 show cp (t0.length:G0) (u.length:G0) (λm Z S'=>∃(to:GD G0) (a6 a7 a8 a9 a10:GN W),Z=[gV (.ref r),gV R,gV (.ref q),gV (ak u),gV (.int mk),gV (.tup (al to)),a6,a7,a8,a9,a10]/\to.length=t0.length+m/\(∀x∈to,0<=x/\x < (n:G0))/\(∀j < t0.length+m,t0.length<=j->∀i < j,bp U u mk i j (to.getD i 0) (to.getD j 0)=false)/\Fl S' r/\Kp r S S') rfl rfl rfl ∅ ?_ ?_ ?_
 ·dsimp only[wE,wA,wV,wG];show az #[by change W.int ((al t0).length:G0)=_; rw[show(al t0).length=t0.length from GF ..],az ?_]
  rw[ul];exact#[rfl,t0,_,_,_,_,_,rfl,rfl,hr0,(λj hj hj2=>∅),hf,.refl]
 ·rintro m0 Z S1 hm ⟨to,a6,a7,a8,a9,a10,rfl,htl,hto,hbp,f1,k1⟩ Q2 hn2 hr2;clear hK;rw[show(t0.length:G0)+m0=((t0.length+m0:GP):G0) by omega]
  have em:t0.length+(m0+1)=(t0.length+m0)+1:=∅
  rw[em]at hn2;obtain⟨m,hm0⟩ : ∃m,m=t0.length+m0:=#[_,rfl];rw[<- hm0]at htl hbp hn2 ⊢;have hmu:m < u.length:=∅
  have e1:S1[q]?=gV (.dic U):=k1.get _ _ hqr e;have s1:S.length<=S1.length:=k1.len;have lm:=hu.len m _ (aq (d:=(0,[])) hmu);dsimp only[G2];show st ?_;dsimp only[wS,wE,wA,G2];nofun
  show bB (n:G0) (λx Z S'=>(∃a8 a9 a10,Z=[gV (.ref r),gV R,gV (.ref q),gV (ak u),gV (.int mk),gV (.tup (al to)),gV (.int m),gV (.ref S1.length),a8,a9,a10])/\(∃ls:GD G0,S'[S1.length]?=gV (.lst (al ls))/\ls.length<=x/\(∀y∈ls,0<=y/\y < (n:G0))/\∀y∈ls,∀i < m,bp U u mk i m (to.getD i 0) y=false)/\S'[q]?=gV (.dic U)/\Fl S' r/\Kp r S S') rfl rfl ∅ ?_ ?_ ?_
  ·dsimp only[wE,wA,wV,wG];subst hR0;show ac #v[] rfl (az ?_)
   rw[hN];exact#[rfl,#[_,_,_,rfl],#[[],aj,G3 _,(λy hy=>nomatch hy),λy hy=>nomatch hy],aw e1,f1.ka .push,k1.trans .push]
  ·rintro x Z S2 hx ⟨⟨a8,a9,a10,rfl⟩,⟨ls,e2,hll,hls,hlb⟩,q2,f2,k2⟩ Q3 hn3' hr3;clear hK;have l2:=cj e2;dsimp only[G2];show st ?_;dsimp only[wS,wE,wA,G2];nofun
   show bB (m:G0) (λi Z S'=>(∃a10,Z=[gV (.ref r),gV R,gV (.ref q),gV (ak u),gV (.int mk),gV (.tup (al to)),gV (.int m),gV (.ref S1.length),gV (.int x),gV (.ref S2.length),a10])/\S'[S2.length]?=gV (.lst (((G8 i).map λj=>bp U u mk j m (to.getD j 0) (x:G0)).map W.bl))/\S'[S1.length]?=gV (.lst (al ls))/\S'[q]?=gV (.dic U)/\Fl S' r/\Kp r S S') rfl rfl ∅ #[rfl,#[_,rfl],aj,aw e2,aw q2,f2.ka .push,k2.trans .push] ?_ ?_
   ·rintro i Z S3 hi ⟨⟨a10,rfl⟩,e3,el3,q3,f3,k3⟩ Q4 hn4 _;clear hK;have hiu:i < u.length:=∅
    have him:i < (u.getD m (0,[])).2.length:=∅
    have hit:i < to.length:=∅
    dsimp only[G2];show st ?_;left;show#[da e3,?_];show ac (GZ i) (cm hiu) (ac #v[] rfl (ac (GZ m) (cm hmu) (ac #v[] rfl (ac (GZ m) (cm hmu) (ac #v[] rfl (ac (w:=.int ((u.getD m (0,[])).2.getD i 0)) (GZ i) (by rw[Ha,GV,aq (d:=0) him]; rfl) (ac (w:=.int (to.getD i 0)) (GZ i) (by rw[Ha]; unfold al; rw[GV,aq (d:=0) hit]; rfl) ?_)))))))
    show ab (a:=(.bl (bp U u mk i m (to.getD i 0) (x:G0)),S3)) ?_ ?_
    ·change aJ .isin (ak [((u.getD i (0,[])).1,[]),((u.getD m (0,[])).1,[(u.getD m (0,[])).2.getD i 0]),(mk,[to.getD i 0,(x:G0)])]) (.ref q) S3=_;simp only[aJ,eR q3,gH]; rfl
    show jb e3 (by rw[GF,GF,Hq]; omega) (aN (hn4 _ _ #[#[_,rfl],?_,?_,?_,f3.own ∅,k3.late ∅]))
    ·rw[bV e3,IL,Hh,Hh]; rfl
    ·rw[cf ∅]; exact el3
    ·rw[cf ∅]; exact q3
   ·rintro Z S3 ⟨⟨a10,rfl⟩,e3,el3,q3,f3,k3⟩;show hK _ _ ?_;clear hK K;nofun
    dsimp only[wS,wT,wE,wA,wV,wG];obtain⟨b,eb,hb⟩:=wc e3;show ab eb ?_;dsimp only[wB];show ae (Q0:=Q3) (λhbt Q5 hn5 _=>?_) (λ_ Q5 hn5 _=>aN (hn5 _ _ (hK _ _ (aN (hn3' _ _ #[#[_,_,_,rfl],#[ls,el3,∅,hls,hlb],q3,f3,k3])))))
    show st ?_;left;show#[da el3,jb el3 (by unfold al; rw[GF]; omega) (aN (hn5 _ _ (hK _ _ (aN (hn3' _ _ #[#[_,_,_,rfl],#[ls++[(x:G0)],?_,by rw[GJ,HB]; omega,λy hy=>?_,λy hy i hi=>?_],?_,f3.own ∅,k3.late ∅])))))]
    ·rw[bV el3]; unfold al; rw[Hh]; rfl
    ·rcases Ht.mp hy with h|h
     ·exact hls y h
     ·rw[G6.mp h]; omega
    ·rcases Ht.mp hy with h|h
     ·exact hlb y h i hi
     ·rw[G6.mp h];exact hb hbt _ (Hi.mpr #[i,Hd.mpr ∅,rfl])
    ·rw[cf ∅]; exact q3
  ·rintro Z S2 ⟨⟨a8,a9,a10,rfl⟩,⟨ls,e2,hll,hls,hlb⟩,q2,f2,k2⟩;show hK _ _ ?_;clear hK K;rw[Ha]at hll;nofun
   dsimp only[wS,wT,wE,wA,wV,wG];show ab (Ap (aw e2) aj) ?_;dsimp only[wB];show ae (Q0:=Q2) (λ_ Q5 _ hr5=>?_) (λhne Q5 hn5 _=>aN (hn5 _ _ (hK _ _ ?_)))
   ·show st ?_;dsimp only[wS,wE];exact hr5 _ _ (hr2 _ _ (k _ _ (.inl rfl) (f2.ka .push) (k2.trans .push)))
   clear hn5 hK;have hpos:0 < ls.length:=by
    cases ls with
    | nil=>cases hne
    | cons _ _=>simp
   show st ?_;left;have e2':=aw (u:=O.lst []) e2;show qY e2' ?_;rw[show(al ls).length=ls.length from GF ..]
   show aQ (d:=d) G.pick (f2.ka .push) ∅ ∅ λv S4 v0 v1 f4 k4=>?_
   have hv:v.toNat < ls.length:=∅
   have e4:=k4.get _ _ (by have:=cj e2; omega) e2'
   show g9 (w:=.int ls[v.toNat]) e4 v0 (by unfold al; rw[GV,G1 hv]; rfl) ?_
   show ab (aP (cH (by rw[GJ,show(al to).length=to.length from GF ..]; show _+1<=_; omega))) (aN (hn2 _ _ #[to++[ls[v.toNat]],gV (.int m),gV (.ref S1.length),a8,a9,a10,?_,by rw[GJ,htl]; rfl,λy hy=>?_,λj hj hj2 i hi=>?_,f4,(k2.trans .push).trans k4]))
   ·rw[show al to++[W.int ls[v.toNat]]=al (to++[ls[v.toNat]]) by unfold al; rw[Hh]; rfl]
   ·rcases Ht.mp hy with h|h
    ·exact hto y h
    ·rw[G6.mp h]; exact hls _ (HW hv)
   ·have gl:∀j:GP,j < to.length->(to++[ls[v.toNat]]).getD j 0=to.getD j 0:=λj hj=>by rw[Hg,Hg,HC hj]
    rw[gl i ∅]
    by_cases ej:j=m
    ·subst ej;rw[show(to++[ls[v.toNat]]).getD j 0=ls[v.toNat] by rw[<- htl,Hg,HN (G3 _),J5]; rfl]
     exact hlb _ (HW hv) i hi
    ·rw[gl j ∅]
     exact hbp j ∅ hj2 i hi
 ·rintro Z S1 ⟨to,a6,a7,a8,a9,a10,rfl,htl,hto,hbp,f1,k1⟩;show hK _ _ (st ?_);dsimp only[wS,wE,wV,wG];exact k _ _ (.inr #[to,rfl,∅,hto,λj hj hj2=>hbp j ∅ hj2]) f1 k1
def kh (G:Gen defs)(hg:Is defs ("_law_new_ways" : Hc) 6 11 aK){m0 b0:W}{N:GD W}{a n q:GP}{u:Wd}{mk:G0}{U:GD (T×W)}(hN:N.length=n)(hn3:n<=3)(hu:GoodW a n u)(hl:u.length<=900)(e:S[q]?=gV (.dic U))(hqr:q≠r)(hf:Fl S r)
  (k:∀w S',(w=.non\/∃to:GD G0,w=.tup (al to)/\to.length=u.length/\(∀x∈to,0<=x/\x < (n:G0))/\∀j < u.length,∀i < j,bp U u mk i j (to.getD i 0) (to.getD j 0)=false)->Fl S' r->Kp r S S'->Q (w,S')) :
  wO (aE (am defs fuel (d+2)) "_law_new_ways" 6 [.ref r,.tup [m0,.tup N,b0],.ref q,ak u,.int mk,.tup []] S) Q:=by
 show kg (t0:=[]) G hg hN hn3 hu hl (IB _) (λx hx=>nomatch hx) e hqr hf λw S' h f' k'=>k w S' ?_ f' k'
 rcases h with h|⟨to,h1,h2,h3,h4⟩
 ·exact .inl h
 ·exact .inr #[to,h1,h2,h3,λj hj=>h4 j hj (IB _)]
end
abbrev dm:Ss:=
 #v[.set 4 (.tup .nil),.loop (.nm 5) (.rng #v[.v 3]) #v[.set 6 (.own "_law_pick" 2 #v[.v 0,.bi .len #v[.ix (.v 1) (.c (.int 0))]]),.set 7 (.own "_law_new_ways" 6 #v[.v 0,.v 1,.v 2,.v 4,.v 6,.tup .nil]),.ite (.cmp .isnot (.v 7) (.c .non)) #v[.set 4 (.op .add (.v 4) (.tup #v[.tup #v[.v 6,.v 7]]))] .nil],.ret (.v 4)]
abbrev bY:Ss:=
 #v[.ret (.own "first_three" 2 #v[.own "barred_threes" 1 #v[.v 0],.v 1])]
def aD {u:Wd}{h:Pt}{p:GP}(hp:p < u.length):(u++[h]).getD p (0,[])=u.getD p (0,[]):=by
 rw[Hg,Hg,HC hp]
def bK {u:Wd}{h:Pt}:(u++[h]).getD u.length (0,[])=h:=by
 rw[Hg,HN (G3 _),J5]; rfl
abbrev Std (U:GD (T×W))(u:Wd):Prop:=∀k < u.length,∀j < k,∀i < j,bG U u i j k=false
def Std.snoc {U:GD (T×W)}{u:Wd}{m:G0}{to:GD G0}(h:Std U u)(hb:∀j < u.length,∀i < j,bp U u m i j (to.getD i 0) (to.getD j 0)=false):Std U (u++[(m,to)]):=by
 intro k hk j hj i hi;rw[GJ,HB]at hk
 by_cases e:k=u.length
 ·subst e;have:=hb j hj i hi;unfold bp at this;unfold bG bX;rw[aD (Jt hi hj),aD hj,bK];exact this
 ·have hk':k < u.length:=∅
  have:=h k hk' j hj i hi;unfold bG bX at this ⊢;rw[aD (Jt hi (Jt hj hk')),aD (Jt hj hk'),aD hk'];exact this
section
variable{defs:GD (Hc×Df)}{fuel d:GP}{S:aa}{r:GP}{Q:QW}
def zA (G:Gen defs)(hw:Is defs ("_law_new_ways" : Hc) 6 11 aK)(hg:Is defs ("_law_world" : Hc) 4 8 dm){Mqa N:GD W}{b0:W}{a n q many:GP}{U:GD (T×W)}(hM:Mqa.length=a)(ha1:0 < a)(ha3:a<=3)(hN:N.length=n)(hn3:n<=3)(hm:many<=900)(e:S[q]?=gV (.dic U))(hqr:q≠r)(hf:Fl S r)
  (k:∀(u:Wd) S',u.length<=many->GoodW a n u->Std U u->Fl S' r->Kp r S S'->Q (ak u,S')) :
  wO (aE (am defs fuel (d+3)) "_law_world" 4 [.ref r,.tup [.tup Mqa,.tup N,b0],.ref q,.int many] S) Q:=by
 show ap hg rfl rfl λQ' hR=>?_
 replace k:∀(u:Wd) S',u.length<=many->GoodW a n u->Std U u->Fl S' r->Kp r S S'->Q' (.rt (ak u),S'):=λu S' h1 h2 h3 h4 h5=>hR _ _ (k u S' h1 h2 h3 h4 h5)
 clear hR;change wZ _ _ dm [gV (.ref r),gV (.tup [.tup Mqa,.tup N,b0]),gV (.ref q),gV (.int many),td,td,td,td] S Q';generalize hR0:W.tup [.tup Mqa,.tup N,b0]=R;dsimp only[dm];show st ?_;dsimp only[wS,wE,wA,G2];nofun
 show bB (many:G0) (λi Z S'=>∃(u:Wd) (a5 a6 a7:GN W),Z=[gV (.ref r),gV R,gV (.ref q),gV (.int many),gV (ak u),a5,a6,a7]/\u.length<=i/\GoodW a n u/\Std U u/\Fl S' r/\Kp r S S') rfl rfl ∅ #[rfl,[],_,_,_,rfl,G3 _,.nil,(λk hk=>by cases hk),hf,.refl] ?_ ?_
 ·rintro i Z S1 hi ⟨u,a5,a6,a7,rfl,hul,hu,hst,f1,k1⟩ Q2 hn _;clear hK;have e1:=k1.get _ _ hqr e;dsimp only[G2];show st ?_;left;subst hR0;show ac #v[] rfl (az ?_)
  rw[hM];show aQ (d:=d+1) G.pick f1 ∅ ∅ λv S2 v0 v1 f2 k2=>?_
  have e2:=k2.get _ _ hqr e1;show st ?_;left;show kh (d:=d) G hw hN hn3 hu ∅ e2 hqr f2 λw S3 hw3 f3 k3=>?_
  nofun
  dsimp only[wS,wT,wE,wA,wV,wG];rcases hw3 with rfl|⟨to,rfl,htl,hto,hbp⟩
  ·show ab (show aJ .isnot .non .non S3=gV (.bl false,S3)from rfl) ?_
   dsimp only[wB];exact ae (Q0:=Q2) (λz=>by cases z) (λ_ Q5 hn5 _=>aN (hn5 _ _ (hK _ _ (aN (hn _ _ #[u,_,_,_,rfl,∅,hu,hst,f3,(k1.trans k2).trans k3])))))
  ·show ab (show aJ .isnot (.tup (al to)) .non S3=gV (.bl true,S3)from rfl) ?_
   dsimp only[wB];show ae (Q0:=Q2) (λ_ Q5 hn5 _=>?_) (λz=>by cases z)
   show st ?_;dsimp only[wS,wE,wA,wV,wG,G2,ak];show ab (aP (cH (by rw[GJ,GF]; show _+1<=_; omega))) (aN (hn5 _ _ (hK _ _ (aN (hn _ _ #[u++[(v,to)],gV (.int i),gV (.int v),gV (.tup (al to)),?_,?_,hu.snoc #[v0,v1] htl hto,hst.snoc hbp,f3,(k1.trans k2).trans k3])))))
   ·unfold ak;rw[Hh]; rfl
   ·rw[GJ,HB]; omega
 ·rintro Z S1 ⟨u,a5,a6,a7,rfl,hul,hu,hst,f1,k1⟩;rw[Ha]at hul;show hK _ _ (st ?_);dsimp only[wS,wE,wV,wG];exact k u S1 hul hu hst f1 k1
def ki (hfu:20 < fuel)(P:Parts defs)(hp:Is defs ("part" : Hc) 3 3 gJ)(hl:Is defs ("longer_orders" : Hc) 2 4 aV)(hbt:Is defs ("barred_threes" : Hc) 1 5 bq)(h3:Is defs ("three_at" : Hc) 4 6 aW)(hft:Is defs ("first_three" : Hc) 2 5 bP)(hg:Is defs ("first_barred" : Hc) 2 2 bY)
  {m0:W} {ns:GD Hc} {bs:GD G0} {a:GP} {gs:GD Wd} {u:Wd} (hb:GoodB bs) (hnl:ns.length=bs.length) (hgs:∀g∈gs,GoodW a bs.length g/\g.length=3) (h64:gs.length<=100) (hu:GoodW a bs.length u) (hul:u.length<=1000)
  (k:∀w S',Ans (λi j k=>decide (dy (bX u i j k)∈(bH bs gs).map dy)) u.length w->Ka S S'->Q (w,S')) :
  wO (aE (am defs fuel (d+5)) "first_barred" 2 [.tup [m0,.tup (GY aB ns bs),.tup (gs.map ak)],ak u] S) Q:=by
 show ap hg rfl rfl λQ' hR=>?_
 change wZ _ _ bY [gV (.tup [m0,.tup (GY aB ns bs),.tup (gs.map ak)]),gV (ak u)] S Q';dsimp only[bY];show st ?_;left;show ke (d:=d) hfu P hp hl hbt hb hnl hgs h64 λq U S1 e1 h1 _ k1=>?_
 show kK (d:=d+2) h3 hft hu hul e1 λw hw=>hR _ _ (k w S1 ?_ k1)
 exact hw.congr λi j k _ _ _=>h1.get _
end
section
variable{M:Hc->FF}{Z:Fm}{S:aa}
def Cj {α:Type}{elt:E}{tg:Tg}{it:Ie}{cs:Es}{cap:GD (GN GP)}{mi:MI}{S1:aa}{Q:QW}(L:GD α)(f:α->W)(p:α->Hj)(g:α->W)(tv:Fm->Prop)(fr:α->Fm)(hJ:∀x Z S,tv Z->fq tg (f x) Z S=gV (fr x,S)/\tv (fr x))(oe:dD elt=true)(oc:lC cs=true)(hc:tv (eC cap Z))(hl:L.length<=1000000)(hi:jk M it Z S=gV (mi,S1))(k1:Ka S S1)(hat:∀i S',Ka S1 S'->mi.at S' i=gV (L.map f)[i]?)(hn:mi.len S1=gV (L.map f).length)
  (hstep:∀x∈L,∀S',Ka S S'->fm M elt cs (fr x) S' (λy _ S2=>p x=true/\y=g x/\Ka S' S2) (λ_ S2=>p x=false/\Ka S' S2))
  (k:∀S',Ka S S'->Q (.ref S'.length,S'++[.lst ((L.filter p).map g)])):Wp (aA M (.comp elt tg it cs cap) Z S) Q:=by
 rw[vx];show#[_,hi,_,hn,?_];show(dC (xs:=L.map f) (Q:=λq=>q.1.length<=sizeLine/\Q (.ref q.2.length,q.2++[.lst q.1])) (λi ys Z' S'=>tv Z'/\ys=((L.take i).filter p).map g/\Ka S1 S') (λi ys Z' S' h=>hat i S' h.2.2) (λi w ys Z' S' hw h=>?_) (λys Z' S' h=>?_) (L.map f).length 0 [] _ S1 ∅ #[hc,rfl,.refl]).mono λq hq=>by simpa using hq
 ·obtain⟨hj,rfl,k2⟩:=h;rw[GV,GM]at hw;obtain⟨x,hx,rfl⟩:=hw;obtain⟨h1,h2⟩:=hJ x Z' S' hj;show#[_,h1,?_];show(Al oc (hstep x (G7 hx) S' (k1.trans k2))).mono λc hc=>#[λz=>(aO elt oe (hc.1 z)).mono λy hy=>#[h2,?_,k2.trans hy.2.2],λz=>#[h2,?_,k2.trans (hc.2 z).2]]
  ·rw[HJ,hx,J4,show(OR (gV x)).filter p=[x]from List.filter_cons_of_pos hy.1,Hh,hy.2.1]; rfl
  ·rw[HJ,hx,J4,show(OR (gV x)).filter p=[]from List.filter_cons_of_neg (by rw[(hc.2 z).1]; exact Hb),Iy]
 ·obtain⟨_,rfl,k2⟩:=h;dsimp only;rw[show(L.map f).length=L.length from GF ..,HP]
  show#[cH ?_,k S' (k1.trans k2)];rw[GF];exact Hs (IP _ _) hl
def pS {α:Type}{elt:E}{it:Ie}{cs:Es}{cap:GD (GN GP)}{mi:MI}{S1:aa}{Q:QW}(L:GD α)(f:α->W)(p:α->Hj)(g:α->W)(R:Fm)(oe:dD elt=true)(oc:lC cs=true)(hc:eC cap Z=td::td::R)(hl:L.length<=1000000)(hi:jk M it Z S=gV (mi,S1))(k1:Ka S S1)(hat:∀i S',Ka S1 S'->mi.at S' i=gV (L.map f)[i]?)(hn:mi.len S1=gV (L.map f).length)
  (hstep:∀x∈L,∀S',Ka S S'->fm M elt cs (td::gV (f x)::R) S' (λy _ S2=>p x=true/\y=g x/\Ka S' S2) (λ_ S2=>p x=false/\Ka S' S2))
  (k:∀S',Ka S S'->Q (.ref S'.length,S'++[.lst ((L.filter p).map g)])):Wp (aA M (.comp elt (.nm 1) it cs cap) Z S) Q:=
 Cj L f p g (λZ=>∃a,Z=td::a::R) (λx=>td::gV (f x)::R) (λ_ _ _ h=>let ⟨_,e⟩:=h; e ▸ #[rfl,_,rfl]) oe oc #[_,hc] hl hi k1 hat hn hstep k
def kj {α:Type}{elt e:E}{cs:Es}{cap:GD (GN GP)}{Q:QW}(L:GD α)(f:α->W)(p:α->Hj)(g:α->W)(R:Fm)(oi:dD e=true)(oe:dD elt=true)(oc:lC cs=true)(hc:eC cap Z=td::td::R)(hl:L.length<=1000000)
  (he:wE M e Z S λq=>∃t,q.1=.ref t/\q.2[t]?=gV (.lst (L.map f))/\Ka S q.2)
  (hstep:∀x∈L,∀S',Ka S S'->fm M elt cs (td::gV (f x)::R) S' (λy _ S2=>p x=true/\y=g x/\Ka S' S2) (λ_ S2=>p x=false/\Ka S' S2))
  (k:∀S',Ka S S'->Q (.ref S'.length,S'++[.lst ((L.filter p).map g)])):Wp (aA M (.comp elt (.nm 1) (.seq e) cs cap) Z S) Q:=by
 obtain⟨w,S1,e1,t,rfl,ht,k1⟩:=bW oi he;exact pS (mi:=.live t) L f p g R oe oc hc hl (by simp only[jk,ff,e1,aI ht]) k1 (λi S' h=>by simp only[MI.at,aI (h.get _ _ ht)]) (by simp only[MI.len,aI ht,HA]) hstep k
def iR {α:Type}{elt e:E}{cs:Es}{cap:GD (GN GP)}{Q:QW}(L:GD α)(f:α->W)(p:α->Hj)(g:α->W)(R:Fm)(oi:dD e=true)(oe:dD elt=true)(oc:lC cs=true)(hc:eC cap Z=td::td::R)(hl:L.length<=1000000)
  (he:wE M e Z S λq=>q.1=.tup (L.map f)/\Ka S q.2)
  (hstep:∀x∈L,∀S',Ka S S'->fm M elt cs (td::gV (f x)::R) S' (λy _ S2=>p x=true/\y=g x/\Ka S' S2) (λ_ S2=>p x=false/\Ka S' S2))
  (k:∀S',Ka S S'->Q (.ref S'.length,S'++[.lst ((L.filter p).map g)])):Wp (aA M (.comp elt (.nm 1) (.seq e) cs cap) Z S) Q:=by
 obtain⟨w,S1,e1,rfl,k1⟩:=bW oi he;exact pS (mi:=.its (L.map f)) L f p g R oe oc hc hl (by simp only[jk,ff,e1]) k1 (λ_ _ _=>rfl) rfl hstep k
def oP (n:GP):cV 0 n=(G8 n).map λi=>W.int (i:GP):=by
 unfold cV;show Im λi _=>?_
 rw[Lc]
def mZ {elt e:E}{cs:Es}{cap:GD (GN GP)}{Q:QW}(n:GP)(p:GP->Hj)(g:GP->W)(R:Fm)(oi:dD e=true)(oe:dD elt=true)(oc:lC cs=true)(hc:eC cap Z=td::td::R)(hl:n<=1000000)
  (he:wE M e Z S λq=>q.1=.int n/\Ka S q.2)
  (hstep:∀x < n,∀S',Ka S S'->fm M elt cs (td::gV (.int (x:GP))::R) S' (λy _ S2=>p x=true/\y=g x/\Ka S' S2) (λ_ S2=>p x=false/\Ka S' S2))
  (k:∀S',Ka S S'->Q (.ref S'.length,S'++[.lst (((G8 n).filter p).map g)])):Wp (aA M (.comp elt (.nm 1) (.rng #v[e]) cs cap) Z S) Q:=by
 obtain⟨w,S1,e1,rfl,k1⟩:=bW oi he;show pS (mi:=.its (cV 0 n)) (G8 n) (λi=>W.int (i:GP)) p g R oe oc hc (by rw[Hq]; exact hl) ?_ k1 (λi S' _=>by rw[<- oP]; rfl) (by rw[<- oP]; rfl) (λx hx=>hstep x (Hd.mp hx)) k
 simp only[jk,cL,dz,gY,pB,e1];rw[Ho #[∅,∅]]; rfl
def bO {α:Type}(L:GD α):L.filter (λ_=>true)=L:=List.filter_eq_self.mpr λ_ _=>rfl
end
abbrev bS (U:GD (T×W))(u:Wd)(h:Pt)(p q:GP):Hj:=(bT U (dy [((u.getD p (0,[])).1,[]),((u.getD q (0,[])).1,[(u.getD q (0,[])).2.getD p 0]),(h.1,[h.2.getD p 0,h.2.getD q 0])])).isSome
def km {U:GD (T×W)}{u:Wd}{h:Pt}{p q:GP}(h1:p < q)(h2:q < u.length):bG U (u++[h]) p q u.length=bS U u h p q:=by
 unfold bG bS bX;rw[aD (Jt h1 h2),aD h2,bK]
def kn {u:Wd}{p s:GP}(h:p < s):(u.take s).getD p (0,[])=u.getD p (0,[]):=by
 rw[Hg,Hg,Ks h]
abbrev hX (U:GD (T×W))(v:Wd):Hj:=(G8 (v.length - 2)).all λp=>!bG U v p (v.length - 2) (v.length - 1)
def sM {U:GD (T×W)}{u:Wd}{h:Pt}{s:GP}(hs:s < u.length):hX U (u.take (s+1)++[h])=(G8 s).all λp=>!bS U u h p s:=by
 have hl:(u.take (s+1)).length=s+1:=by rw[Hm]; omega
 unfold hX;rw[GJ,hl,HB,show s+1+1 - 2=s by omega,show s+1+1 - 1=s+1 by omega,Jp,Hk,Hk]
 show MY λp=>MY λhp=>?_
 have hp:=Hd.mp hp;have e:=km (U:=U) (u:=u.take (s+1)) (h:=h) (p:=p) (q:=s) hp ∅
 rw[hl]at e;rw[e];unfold bS;rw[kn ∅,kn ∅]
abbrev cQ (n:GP)(hs:GD Pt):GD Pt:=hs.flatMap λh=>(G8 n).map λ(w:GP)=>(h.1,h.2++[(w:G0)])
abbrev cF (U:GD (T×W))(u:Wd)(n:GP)(m:G0):GP->GD Pt
 | 0=>[(m,[])]
 | s+1=>(cQ n (cF U u n m s)).filter λh=>hX U (u.take (s+1)++[h])
abbrev ko (U:GD (T×W))(u:Wd)(a n:GP):GD Pt:=(G8 a).flatMap λ(m:GP)=>cF U u n (m:G0) u.length
def aX {ws:GD G0}{x:G0}{p:GP}(hp:p < ws.length):(ws++[x]).getD p 0=ws.getD p 0:=by
 rw[Hg,Hg,HC hp]
def kq {U:GD (T×W)}{u:Wd}{m x:G0}{ws:GD G0}{p q:GP}(h1:p < q)(h2:q < ws.length):bS U u (m,ws++[x]) p q=bS U u (m,ws) p q:=by
 unfold bS;dsimp only;rw[aX (Jt h1 h2),aX h2]
def dL {U:GD (T×W)}{u:Wd}{n:GP}{m:G0}:∀ {s:GP} {h:Pt},s<=u.length->(h∈cF U u n m s↔h.1=m/\h.2.length=s/\(∀w∈h.2,0<=w/\w < (n:G0))/\∀p q,p < q->q < s->bS U u h p q=false)
 | 0,h,_=>by
  rw[cF,G6];constructor
  ·rintro rfl;exact#[rfl,rfl,(λw hw=>nomatch hw),λp q _ h=>absurd h (Ob _)]
  ·rintro⟨h1,h2,_⟩;rw[<- h1,<- K4 h2]
 | s+1,h,hs=>by
  rw[cF,IR,sM ∅,Hk]
  unfold cQ;rw[Iv];constructor
  ·rintro⟨⟨h0,hm,hw⟩,hb⟩;obtain⟨w,hwr,rfl⟩:=Hi.mp hw;obtain⟨h1,h2,h3,h4⟩:=(dL ∅).mp hm
   have hwr:=Hd.mp hwr;show#[h1,by rw[GJ,h2]; rfl,λx hx=>?_,λp q hpq hq=>?_]
   ·rcases Ht.mp hx with z|z
    ·exact h3 x z
    ·rw[G6.mp z]; omega
   ·by_cases e:q=s
    ·subst e;have:=hb p (Hd.mpr hpq)
     simpa using this
    ·rw[kq hpq ∅]; exact h4 p q hpq ∅
  ·rintro⟨h1,h2,h3,h4⟩;obtain⟨m',ws⟩:=h;dsimp only at h1 h2 h3 h4;have hne:ws≠[]:=λz=>by rw[z]at h2; cases h2
   have hd:=List.dropLast_concat_getLast hne;have hx:=h3 _ (List.getLast_mem hne);generalize ws.getLast hne=x at hd hx;have hdl:ws.dropLast.length=s:=by rw[Ja]; omega
   generalize ws.dropLast=vs at hd hdl;subst hd;show#[#[(m',vs),(dL ∅).mpr #[h1,hdl,λw hw=>h3 w (Jk _ hw),λp q hpq hq=>?_],?_],λp hp=>?_]
   ·rw[<- kq (x:=x) hpq ∅]; exact h4 p q hpq ∅
   ·exact Hi.mpr #[x.toNat,Hd.mpr ∅,by dsimp only; rw[show((x.toNat:GP):G0)=x by omega]]
   ·rw[h4 p s (Hd.mp hp) ∅]; rfl
def eL {U:GD (T×W)}{u:Wd}{n:GP}{m:G0}:∀s:GP,(cF U u n m s).length<=n ^ s
 | 0=>G3 _
 | s+1=>by
  rw[cF];show Hs (IP _ _) ?_;have:=eL (U:=U) (u:=u) (n:=n) (m:=m) s;have e:∀hs:GD Pt,(cQ n hs).length=hs.length*n:=λhs=>by
   unfold cQ
   induction hs with
   | nil=>simp
   | cons h hs ih=>rw[JO,GJ,ih,GF,Hq,HK,LX]; omega
  rw[e,Nat.pow_succ];exact MA _ this
def lJ {n:GP}(hs:GD Pt):(cQ n hs).length=hs.length*n:=by
 unfold cQ
 induction hs with
 | nil=>simp
 | cons h hs ih=>rw[JO,GJ,ih,GF,Hq,HK,LX]; omega
def kv {U:GD (T×W)}{u:Wd}{a n:GP}{h:Pt}:h∈ko U u a n↔(0<=h.1/\h.1 < a)/\h.2.length=u.length/\(∀w∈h.2,0<=w/\w < (n:G0))/\∀p q,p < q->q < u.length->bS U u h p q=false:=by
 unfold ko;rw[Iv];constructor
 ·rintro⟨m,hm,hh⟩;obtain⟨h1,h2⟩:=(dL (G3 _)).mp hh;have:=Hd.mp hm;exact#[∅,h2]
 ·rintro⟨h1,h2⟩;exact#[h.1.toNat,Hd.mpr ∅,(dL (G3 _)).mpr #[∅,h2]]
abbrev aS:Ss:=
 #v[.set 2 (.op .sub (.bi .len #v[.v 1]) (.c (.int 1))),.loop (.nm 3) (.rng #v[.op .sub (.v 2) (.c (.int 1))]) #v[.ite (.cmp .isin (.own "three_at" 4 #v[.v 1,.v 3,.op .sub (.v 2) (.c (.int 1)),.v 2]) (.v 0)) #v[.ret (.v 3)] .nil],.ret (.c .non)]
abbrev cq:Ss:=
 #v[.set 3 (.lst .nil),.loop (.nm 4) (.rng #v[.bi .len #v[.ix (.v 0) (.c (.int 0))]]) #v[.set 5 (.lst #v[.tup #v[.v 4,.tup .nil]]),.loop (.nm 6) (.rng2 #v[.c (.int 1),.op .add (.bi .len #v[.v 2]) (.c (.int 1))]) #v[.set 5 (.comp (.v 1) (.nm 1) (.seq (.own "longer_wishes" 2 #v[.v 0,.v 5])) #v[.cmp .is (.own "first_bar" 2 #v[.v 2,.op .add (.sl (.v 4) .no (.yes (.v 3))) (.tup #v[.v 1])]) (.c .non)] [td,td,gV 1,gV 6,gV 2])],.ex (.me .extend (.v 3) #v[.v 5])],.ret (.v 3)]
abbrev br:Ss:=
 #v[.set 2 (.lst .nil),.loop (.tp [3,4]) (.seq (.v 1)) #v[.ex (.me .extend (.v 2) #v[.comp (.tup #v[.v 2,.op .add (.v 3) (.tup #v[.v 1])]) (.nm 1) (.rng #v[.bi .len #v[.ix (.v 0) (.c (.int 1))]]) .nil [td,td,gV 3,gV 4]])],.ret (.v 2)]
def kw {U:GD (T×W)}{v:Wd}{s:GP}(hs:v.length=s+2):hX U v=true↔∀i < s,bG U v i s (s+1)=false:=by
 unfold hX;rw[hs,show s+2 - 2=s from rfl,show s+2 - 1=s+1 from rfl,Hk]
 show MY λi=>?_
 rw[Hd,Jc]
def sN {a n s:GP}{u:Wd}(hu:GoodW a n u):GoodW a n (u.take s):=by
 have key:∀(k:GP) (x:Pt),(u.take s)[k]?=gV x->u[k]?=gV x:=λk x e=>by
  rw[Ng]at e;split at e
  ·exact e
  ·cases e
 exact#[λk x e=>hu.mark k x (key k x e),λk x e=>hu.len k x (key k x e),λk x e=>hu.way k x (key k x e)]
section
variable{defs:GD (Hc×Df)}{fuel d:GP}{S:aa}{Q:QW}
def jc (h3:Is defs ("three_at" : Hc) 4 6 aW)(hg:Is defs ("first_bar" : Hc) 2 4 aS){a n q:GP}{v:Wd}{U:GD (T×W)}(hv:GoodW a n v)(h2:2<=v.length)(hl:v.length<=1000)(e:S[q]?=gV (.dic U))(k:∀w,((w=.non/\hX U v=true)\/∃i:G0,w=.int i/\hX U v=false)->Q (w,S)) :
  wO (aE (am defs fuel (d+2)) "first_bar" 2 [.ref q,ak v] S) Q:=by
 show ap hg rfl rfl λQ' hR=>?_
 replace k:∀w,((w=.non/\hX U v=true)\/∃i:G0,w=.int i/\hX U v=false)->Q' (.rt w,S):=λw h=>hR _ _ (k w h)
 clear hR;change wZ _ _ aS [gV (.ref q),gV (ak v),td,td] S Q';have ul:(v.map ag).length=v.length:=GF ..;obtain⟨s,hs⟩ : ∃s,v.length=s+2:=#[v.length - 2,∅]
 dsimp only[aS];show st ?_;left;show az (ab ja ?_);rw[ul,show((v.length:GP):G0) - 1=((s+1:GP):G0) by omega]
 nofun
 show bB (s:G0) (λi Z S'=>(∃a3,Z=[gV (.ref q),gV (ak v),gV (.int ((s+1:GP):G0)),a3])/\S'=S/\∀i' < i,bG U v i' s (s+1)=false) rfl rfl ∅ ?_ ?_ ?_
 ·dsimp only[wE,wV,wG];show ab ja #[?_,#[_,rfl],rfl,λi' z=>∅]
  dsimp only;rw[show((s+1:GP):G0) - 1=(s:G0) by omega]
 ·rintro i Z S1 hi ⟨⟨a3,rfl⟩,rfl,no⟩ Q2 hn hr;clear hK;dsimp only[G2];nofun
  dsimp only[wS,wT,wE,wA,wV,wG];show ab ja ?_;dsimp only;rw[show((s+1:GP):G0) - 1=(s:G0) by omega]
  show mY (d:=d) h3 hv ∅ (IZ s) ∅ ?_
  show ab (show aJ .isin (ak (bX v i s (s+1))) (.ref q) S1=gV (.bl (bG U v i s (s+1)),S1) by simp only[aJ,eR e,gH]; rfl) ?_
  dsimp only[wB];show ae (Q0:=Q2) (λh Q5 _ hr5=>?_) (λh Q5 hn5 _=>aN (hn5 _ _ (hK _ _ (aN (hn _ _ #[#[_,rfl],rfl,λi' z=>?_])))))
  ·show st ?_;dsimp only[wS,wE,wV,wG];show hr5 _ _ (hr _ _ (k _ (.inr #[i,rfl,?_])));rw[Jd];intro z;rw[(kw hs).mp z i ∅]at h
   cases h
  ·by_cases ei:i'=i
   ·rw[ei]; exact h
   ·exact no i' ∅
 ·rintro Z S1 ⟨⟨a3,rfl⟩,rfl,no⟩;show hK _ _ (st ?_);dsimp only[wS,wE];exact k _ (.inl #[rfl,(kw hs).mpr no])
def jm (hg:Is defs ("longer_wishes" : Hc) 2 5 br){m0 b0:W}{N:GD W}{n l:GP}{hs:GD Pt}(hN:N.length=n)(hn:n<=3)(e:S[l]?=gV (.lst (hs.map ag)))(hol:∀h∈hs,h.2.length<=100)(hos:hs.length<=10000)
  (k:∀(q:GP) (S':aa),S'[q]?=gV (.lst ((cQ n hs).map ag))->S.length<=q->Ka S S'->Q (.ref q,S')) :
  wO (aE (am defs fuel (d+1)) "longer_wishes" 2 [.tup [m0,.tup N,b0],.ref l] S) Q:=by
 show ap hg rfl rfl λQ' hR=>?_
 replace k:∀(q:GP) (S':aa),S'[q]?=gV (.lst ((cQ n hs).map ag))->S.length<=q->Ka S S'->Q' (.rt (.ref q),S'):=λa b c e f=>hR _ _ (k a b c e f)
 clear hR;change wZ _ _ br [gV (.tup [m0,.tup N,b0]),gV (.ref l),td,td,td] S Q';generalize hR0:W.tup [m0,.tup N,b0]=R;have hlS:=cj e;dsimp only[br];show st ?_;dsimp only[wS,wE,wA,G2];nofun
 show jr l (hs.map ag) (λi Z S'=>(∃a3 a4,Z=[gV R,gV (.ref l),gV (.ref S.length),a3,a4])/\S'[l]?=gV (.lst (hs.map ag))/\S'[S.length]?=gV (.lst ((cQ n (hs.take i)).map ag))/\Ka S S') rfl rfl #[rfl,#[td,td,rfl],aw e,aj,.push] (λi Z S' h=>h.2.1) ?_ ?_
 ·rintro i w Z S1 hw ⟨⟨a3,a4,rfl⟩,e0,e1,k1⟩;clear hK k;rw[GV,GM]at hw;obtain⟨h,ho,rfl⟩:=hw;have hol:=hol h (G7 ho);show ab (show fq (.tp [3,4]) (ag h) [gV R,gV (.ref l),gV (.ref S.length),a3,a4] S1=gV ([gV R,gV (.ref l),gV (.ref S.length),gV (.int h.1),gV (.tup (al h.2))],S1)from rfl) ?_
  intro Q2 hn2 _;show st ?_;left;show#[da e1,?_];show mZ n (λ_=>true) (λ(w:GP)=>ag (h.1,h.2++[(w:G0)])) [gV (.int h.1),gV (.tup (al h.2))] rfl rfl rfl rfl ∅ ?_ (λx hx S2 k2=>?_) λS2 k2=>?_
  ·dsimp only[wE,wA,wV,wG];subst hR0;show ac #v[] rfl (az ?_)
   rw[hN];exact#[rfl,.refl]
  ·dsimp only[fm,wC,wE,wA,wV,wG];show#[λ_=>ab (aP (cH ?_)) #[rfl,?_,.refl],λz=>by cases z]
   ·rw[GJ,show(al h.2).length=h.2.length from GF ..]; show _+1<=_; omega
   ·simp[ag,al]
  ·rw[bO];have e1':=aw (u:=O.lst ((G8 n).map λ(w:GP)=>ag (h.1,h.2++[(w:G0)]))) (k2.get _ _ e1)
   have hle:(cQ n (hs.take i)).length<=30000:=by
    rw[lJ,Hm];exact Hs (Oz (show min i hs.length<=10000 by omega) hn) #v[]
   show pR e1' aj (by rw[GF,GF,Hq]; omega) (aN (hn2 _ _ #[#[_,_,rfl],?_,?_,((k1.trans k2).trans .push).late (G3 _)]))
   ·rw[cf ∅]; exact aw (k2.get _ _ e0)
   ·rw[bV e1'];unfold cQ;rw[HJ,ho];simp
 ·rintro Z S1 ⟨⟨a3,a4,rfl⟩,e0,e1,k1⟩;rw[GF,HP]at e1;exact hK _ _ (st (k _ _ e1 (G3 _) k1))
def m3 {n s:GP}(hn:n<=3)(hs:s<=5):n ^ s<=243:=Hs (MQ hn s) (MC (n:=3) #v[] hs)
def pT {U:GD (T×W)}{u:Wd}{n i:GP}(hn:n<=3)(hu:u.length<=5):((G8 i).flatMap λ(m:GP)=>cF U u n (m:G0) u.length).length<=i*243:=by
 induction i with
 | zero=>simp
 | succ i ih=>
  rw[IL,Jr,GJ,JO,NX,Iy];have:=Hs (eL (U:=U) (u:=u) (n:=n) (m:=(i:GP)) u.length) (m3 hn hu);omega
def kL (h3:Is defs ("three_at" : Hc) 4 6 aW)(hfb:Is defs ("first_bar" : Hc) 2 4 aS)(hlw:Is defs ("longer_wishes" : Hc) 2 5 br)(hg:Is defs ("wishes_over" : Hc) 3 7 cq){Mqa N:GD W}{b0:W}{a n q:GP}{u:Wd}{U:GD (T×W)}(hM:Mqa.length=a)(hN:N.length=n)(ha3:a<=3)(hn3:n<=3)(hu:GoodW a n u)(hul:u.length<=5)(e:S[q]?=gV (.dic U))
  (k:∀(l:GP) (S':aa),S'[l]?=gV (.lst ((ko U u a n).map ag))->S.length<=l->Ka S S'->Q (.ref l,S')) :
  wO (aE (am defs fuel (d+3)) "wishes_over" 3 [.tup [.tup Mqa,.tup N,b0],.ref q,ak u] S) Q:=by
 show ap hg rfl rfl λQ' hR=>?_
 replace k:∀(l:GP) (S':aa),S'[l]?=gV (.lst ((ko U u a n).map ag))->S.length<=l->Ka S S'->Q' (.rt (.ref l),S'):=λa b c e f=>hR _ _ (k a b c e f)
 clear hR;change wZ _ _ cq [gV (.tup [.tup Mqa,.tup N,b0]),gV (.ref q),gV (ak u),td,td,td,td] S Q';generalize hR0:W.tup [.tup Mqa,.tup N,b0]=R;have hqS:=cj e;have ul:(u.map ag).length=u.length:=GF ..;dsimp only[cq];show st ?_;dsimp only[wS,wE,wA,G2];nofun
 show bB (a:G0) (λi Z S'=>(∃a4 a5 a6,Z=[gV R,gV (.ref q),gV (ak u),gV (.ref S.length),a4,a5,a6])/\S'[S.length]?=gV (.lst (((G8 i).flatMap λ(m:GP)=>cF U u n (m:G0) u.length).map ag))/\Ka S S') rfl rfl ∅ ?_ ?_ ?_
 ·dsimp only[wE,wA,wV,wG];subst hR0;show ac #v[] rfl (az ?_)
  rw[hM];exact#[rfl,#[_,_,_,rfl],aj,.push]
 ·rintro i Z S1 hi ⟨⟨a4,a5,a6,rfl⟩,e1,k1⟩ Q2 hn2 _;clear hK k;have hl1:=cj e1;dsimp only[G2];show st ?_;left;nofun
  show cp 1 ((u.length:G0)+1) (λm Z S'=>∃(t:GP) (a6:GN W),Z=[gV R,gV (.ref q),gV (ak u),gV (.ref S.length),gV (.int i),gV (.ref t),a6]/\S'[t]?=gV (.lst ((cF U u n i m).map ag))/\Ka S1 S') rfl rfl rfl ∅ ?_ ?_ ?_
  ·dsimp only[wE,wA,wV,wG];show#[rfl,az (ab cM ?_)];rw[ul];exact#[rfl,S1.length,a6,rfl,aj,.push]
  ·rintro m Z S2 hm ⟨t,a6,rfl,e2,k2⟩ Q3 hn3 _;clear hK hn2;have hmu:m < u.length:=∅
   rw[show(1:G0)+m=((m+1:GP):G0) by omega]
   have hhl:(cF U u n i m).length<=243:=Hs (eL m) (m3 ‹n<=3› ∅)
   have hll:(cQ n (cF U u n i m)).length<=729:=by rw[lJ]; exact Oz hhl ‹n<=3›
   dsimp only[G2];show st ?_;dsimp only[wS,wE,G2];show kj (cQ n (cF U u n i m)) ag (λh=>hX U (u.take (m+1)++[h])) ag [gV (.ref q),gV (.int ((m+1:GP):G0)),gV (ak u)] rfl rfl rfl rfl ∅ ?_ (λh hh S4 k4=>?_) λS4 k4=>?_
   ·dsimp only[wE,wA,wV,wG];subst hR0;exact jm (d:=d+1) hlw hN ‹n<=3› e2 (λh hh=>by have:=((dL ∅).mp hh).2.1; omega) ∅ λl S3 e3 _ k3=>#[l,rfl,e3,k3]
   ·have hgd:GoodW a n (u.take (m+1)++[h]):=by
     unfold cQ at hh;obtain⟨h0,hm0,hw⟩:=Iv.mp hh;obtain⟨w,hwr,rfl⟩:=Hi.mp hw;obtain⟨g1,g2,g3,_⟩:=(dL ∅).mp hm0
     have hwr:=Hd.mp hwr;show(sN hu).snoc (by rw[g1]; omega) (by rw[GJ,g2,Hm,HB]; omega) λx hx=>?_
     rcases Ht.mp hx with z|z
     ·exact g3 x z
     ·rw[G6.mp z]; omega
    have hvl:(u.take (m+1)++[h]).length=m+2:=by rw[GJ,Hm,HB]; omega
    dsimp only[fm,wC,wT,wE,wA,wP,wV,wG,wN];show ab (show fR (ak u) td (gV ((m+1:GP):G0)) S4=gV (.tup ((u.map ag).take (m+1)),S4) by simp only[ak,fR,cO]) ?_
    dsimp only;have ev:(u.map ag).take (m+1)++[ag h]=(u.take (m+1)++[h]).map ag:=by rw[Hh,Kb]; rfl
    show ab (aP (cH (by rw[ev,GF]; omega))) ?_
    dsimp only;rw[ev];show jc (d:=d) (v:=u.take (m+1)++[h]) h3 hfb hgd ∅ ∅ (k4.get _ _ (k2.get _ _ (k1.get _ _ e))) λw hw=>?_
    show ab (show aJ .is w .non S4=gV (.bl (hX U (u.take (m+1)++[h])),S4) by rcases hw with⟨rfl,hb⟩|⟨i,rfl,hb⟩ <;> rw[hb] <;> rfl) ?_
    dsimp only[wB];exact#[λz=>#[z,rfl,.refl],λz=>#[z,.refl]]
   ·exact aN (hn3 _ _ #[_,_,rfl,aj,(k2.trans k4).trans .push])
  ·rintro Z S2 ⟨t,a6,rfl,e2,k2⟩;rw[show((u.length:G0)+1 - 1).toNat=u.length by omega]at e2
   show hK _ _ ?_;clear hK K;have e1':=k2.get _ _ e1;have hhl:(cF U u n i u.length).length<=243:=Hs (eL _) (m3 hn3 hul);have hfl:=pT (U:=U) (i:=i) hn3 hul;show st ?_;left;show#[da e1',pR e1' e2 (by rw[GF,GF]; omega) (aN (hn2 _ _ #[#[_,_,_,rfl],?_,(k1.trans k2).late (G3 _)]))]
   rw[bV e1',IL,Jr,Hh];simp
 ·rintro Z S1 ⟨⟨a4,a5,a6,rfl⟩,e1,k1⟩;rw[Ha]at e1;exact hK _ _ (st (k _ _ e1 (G3 _) k1))
end
abbrev aF:Ss:=
 #v[.asg [4,5] (.ix (.v 2) (.v 3)),.loop (.nm 6) (.rng2 #v[.c (.int 1),.v 3]) #v[.loop (.nm 7) (.rng #v[.v 6]) #v[.ite (.cmp .isin (.tup #v[.tup #v[.ix (.ix (.v 2) (.v 7)) (.c (.int 0)),.tup .nil],.tup #v[.ix (.ix (.v 2) (.v 6)) (.c (.int 0)),.tup #v[.ix (.ix (.ix (.v 2) (.v 6)) (.c (.int 1))) (.v 7)]],.tup #v[.v 4,.tup #v[.ix (.v 5) (.v 7),.ix (.v 5) (.v 6)]]]) (.v 1)) #v[.ret (.c (.bl false))] .nil]],.ret (.c (.bl true))]
abbrev b9 (U:GD (T×W))(u:Wd)(s:GP)(h:Pt):Hj:=(G8 s).all λq=>(G8 q).all λp=>!bS U u h p q
def bC {U:GD (T×W)}{u:Wd}{s:GP}{h:Pt}:b9 U u s h=true↔∀q < s,∀p < q,bS U u h p q=false:=by
 unfold b9;simp only[Hk,Hd,Jc]
section
variable{defs:GD (Hc×Df)}{fuel d:GP}{S:aa}{Q:QW}
def kz (hg:Is defs ("_law_last_may" : Hc) 4 8 aF){R:W}{a n q:GP}{u:Wd}{h:Pt}{U:GD (T×W)}(hu:GoodW a n u)(hh:h.2.length=u.length)(hl:u.length<=1000)(e:S[q]?=gV (.dic U))(k:Q (.bl (b9 U u u.length h),S)) :
  wO (aE (am defs fuel (d+1)) "_law_last_may" 4 [R,.ref q,ak (u++[h]),.int (u.length:G0)] S) Q:=by
 show ap hg rfl rfl λQ' hR=>?_
 replace k:=hR _ _ k;clear hR;change wZ _ _ aF [gV R,gV (.ref q),gV (ak (u++[h])),gV (.int (u.length:G0)),td,td,td,td] S Q';have hvl:u.length < (u++[h]).length:=by rw[GJ,HB]; omega
 have at':∀p < u.length,(((u++[h]).map ag)[((p:GP):G0).toNat]?=gV (ag (u.getD p (0,[])))):=λp hp=>by
  rw[cm ∅,aD hp]
 have hw:∀p < u.length,(al h.2)[((p:GP):G0).toNat]?=gV (.int (h.2.getD p 0)):=λp hp=>by
  rw[Ha]; unfold al; rw[GV,aq (d:=0) ∅]; rfl
 dsimp only[aF];show st ?_;dsimp only[wS,wE,wV,wG];show ac (GZ _) (cm hvl) ?_;rw[bK];dsimp only[wU,ag];show ab (show cC [4,5] [.int h.1,.tup (h.2.map W.int)] [gV R,gV (.ref q),gV (ak (u++[h])),gV (.int (u.length:G0)),td,td,td,td]=gV [gV R,gV (.ref q),gV (ak (u++[h])),gV (.int (u.length:G0)),gV (.int h.1),gV (.tup (al h.2)),td,td]from rfl) ?_
 nofun
 show cp 1 (u.length:G0) (λm Z S'=>(∃a6 a7,Z=[gV R,gV (.ref q),gV (ak (u++[h])),gV (.int (u.length:G0)),gV (.int h.1),gV (.tup (al h.2)),a6,a7])/\S'=S/\∀j < m+1,∀p < j,bS U u h p j=false) rfl rfl rfl ∅ #[rfl,rfl,#[_,_,rfl],rfl,λj hj p hp=>∅] ?_ ?_
 ·rintro m Z S1 hm ⟨⟨a6,a7,rfl⟩,rfl,no⟩ Q2 hn2 hr2;clear hK;rw[show(1:G0)+m=((m+1:GP):G0) by omega]
  have hmu:m+1 < u.length:=∅
  generalize hj:m+1=j at hmu hn2 no;dsimp only[G2];nofun
  show bB (j:G0) (λi Z S'=>(∃a7,Z=[gV R,gV (.ref q),gV (ak (u++[h])),gV (.int (u.length:G0)),gV (.int h.1),gV (.tup (al h.2)),gV (.int (j:G0)),a7])/\S'=S1/\∀p < i,bS U u h p j=false) rfl rfl ∅ #[rfl,#[_,rfl],rfl,λp hp=>∅] ?_ ?_
  ·rintro i Z S2 hi ⟨⟨a7,rfl⟩,rfl,no2⟩ Q3 hn3 hr3;clear hK;have hij:i < j:=∅
   have hiu:i < u.length:=∅
   have lj:i < (u.getD j (0,[])).2.length:=by rw[hu.len j _ (aq (d:=(0,[])) hmu)]; exact hij
   dsimp only[G2];nofun
   dsimp only[wS,wT,wE,wA,wV,wG];show ac (GZ i) (at' i hiu) (ac #v[] rfl (ac (GZ j) (at' j hmu) (ac #v[] rfl (ac (GZ j) (at' j hmu) (ac #v[] rfl (ac (w:=.int ((u.getD j (0,[])).2.getD i 0)) (GZ i) (by rw[Ha,GV,aq (d:=0) lj]; rfl) (ac (GZ i) (hw i hiu) (ac (GZ j) (hw j hmu) ?_))))))))
   show ab (show aJ .isin (ak [((u.getD i (0,[])).1,[]),((u.getD j (0,[])).1,[(u.getD j (0,[])).2.getD i 0]),(h.1,[h.2.getD i 0,h.2.getD j 0])]) (.ref q) S2=gV (.bl (bS U u h i j),S2) by simp only[aJ,eR e,gH]; rfl) ?_
   dsimp only[wB];show ae (Q0:=Q3) (λhb Q5 _ hr5=>?_) (λhb Q5 hn5 _=>aN (hn5 _ _ (hK _ _ (aN (hn3 _ _ #[#[_,rfl],rfl,λp hp=>?_])))))
   ·show st ?_;dsimp only[wS,wE];have:b9 U u u.length h=false:=by
     rw[Jd];intro z;rw[bC.mp z j hmu i hij]at hb;cases hb
    rw[this]at k;exact hr5 _ _ (hr3 _ _ (hr2 _ _ k))
   ·by_cases ep:p=i
    ·rw[ep]; exact hb
    ·exact no2 p ∅
  ·rintro Z S2 ⟨⟨a7,rfl⟩,rfl,no2⟩;rw[Ha]at no2;show hK _ _ (aN (hn2 _ _ #[#[_,_,rfl],rfl,λj' hj' p hp=>?_]))
   by_cases ej:j'=j
   ·subst ej; exact no2 p hp
   ·exact no j' ∅ p hp
 ·rintro Z S1 ⟨⟨a6,a7,rfl⟩,rfl,no⟩;show hK _ _ (st ?_);dsimp only[wS,wE];rw[bC.mpr λq hq p hp=>no q ∅ p hp]at k
  exact k
end
def Ck {bs:GD G0}{a:GP}{v:Wd}{i j:GP}(hb:GoodB bs)(hv:GoodW a bs.length v)(hi:i < v.length)(hj:j < v.length)(hij:i≠j):0<=bv bs v i j/\bv bs v i j < (bs.length:G0):=by
 unfold bv
 by_cases h:j < i
 ·rw[Ho h];have hp:=aq (d:=(0,[])) hi;have hw:j < (v.getD i (0,[])).2.length:=by rw[hv.len i _ hp]; exact h
  exact hv.way i _ hp _ (G7 (aq (d:=0) hw))
 ·rw[HD h];have hp:=aq (d:=(0,[])) hj;have hw:i < (v.getD j (0,[])).2.length:=by rw[hv.len j _ hp]; omega
  obtain⟨g1,g2⟩:=hv.way j _ hp _ (G7 (aq (d:=0) hw));exact(hb.at g1 g2).2
def iS {bs:GD G0}{a:GP}{v:Wd}{ps:GD GP}(hb:GoodB bs)(hv:GoodW a bs.length v)(hps:∀p∈ps,p < v.length)(hnd:ps.Nodup):GoodW a bs.length (ar bs v ps):=by
 have at':∀(k:GP) (q:Pt),(ar bs v ps)[k]?=gV q->∃hk:k < ps.length,q=((v.getD ps[k] (0,[])).1,(ps.take k).map λj=>bv bs v ps[k] j):=λk q e=>by
  have hk:k < ps.length:=by
   have:=(G5.mp e).1;rw[aT]at this; exact this
  show#[hk,?_];unfold ar at e;rw[GV,Jf hk,HA,show ps.getD k 0=ps[k] by simp[hk]]at e
  exact(Io e).symm
 show#[λk q e=>?_,λk q e=>?_,λk q e=>?_]
 ·obtain⟨hk,rfl⟩:=at' k q e;have:=hv.mark _ _ (aq (d:=(0,[])) (hps _ (HW hk)));exact this
 ·obtain⟨hk,rfl⟩:=at' k q e;dsimp only;rw[GF,Hm]; omega
 ·obtain⟨hk,rfl⟩:=at' k q e;intro w hw;obtain⟨j,hj,rfl⟩:=Hi.mp hw;have hjm:=JN hj;show Ck hb hv (hps _ (HW hk)) (hps _ hjm) λe=>?_
  obtain⟨m,hm,e2⟩:=Kj.mp hj;rw[Hm]at hm;rw[Ke]at e2;have:=(Ji hnd).mp (e.trans e2.symm);omega
section
variable{defs:GD (Hc×Df)}{fuel d:GP}{S:aa}{Q:QW}
def Cm (hd:Is defs ("_law_flow" : Hc) 1 1 dW){ns:GD G0}{u:GP}(hu:S[u]?=gV (.fro (ns.map W.int)))(k:∀r S',Ka S S'->Fl S' r->Q (.ref r,S')) :
  wO (aE (am defs fuel (d+1)) "_law_flow" 1 [.ref u] S) Q:=by
 show ap hd rfl rfl λQ' hR=>?_
 change wZ _ _ dW [gV (.ref u)] S Q';dsimp only[dW];show st ?_;left;have e:Bi.list.fn [.ref u] S=gV (.ref S.length,S++[.lst (ns.map W.int)]):=by
  have h1:ut S u=td:=by simp[ut,hu]
  simp only[Bi.fn,BP,i5,h1,gw,fA,y9 hu]
 show ab e (hR _ _ (k _ _ (Ka.push.trans .push) #[S.length,ns,0,0,1,0,?_,?_,?_,#v[],#v[],#v[],#v[]]))
 ·exact aj
 ·exact aw aj
 ·simp
end
structure Ord (n:GP)(o:GD GP):Prop where
 nd:o.Nodup
 lt:∀p∈o,p < n
abbrev we:GP->GD (GD GP)
 | 0=>[[]]
 | k+1=>(we k).flatMap λo=>(G8 (k+1)).map λi=>o.take i++[k]++o.drop i
def m4:∀ {n:GP} {o:GD GP},o∈we n↔Ord n o/\o.length=n
 | 0,o=>by
  rw[we,G6];exact#[λh=>by subst h; exact#[#[.nil,λp hp=>nomatch hp],rfl],λh=>K4 h.2]
 | n+1,o=>by
  rw[we,Iv];constructor
  ·rintro⟨o',h1,h2⟩;obtain⟨i,hi,rfl⟩:=Hi.mp h2;obtain⟨⟨nd,lt⟩,hl⟩:=m4.mp h1;have hi:=Hd.mp hi;have hp:(o'.take i++[n]++o'.drop i).Perm (n::o'):=by
    have e:o'.take i++[n]++o'.drop i=o'.take i++n::o'.drop i:=by simp
    rw[e];show LQ.trans ?_;rw[Kd]
   show#[#[hp.nodup_iff.mpr (IS.mpr #[λz=>absurd (lt _ z) (HY _),nd]),λp hpm=>?_],by rw[hp.length_eq,HK,hl]]
   rcases Hn.mp (hp.mem_iff.mp hpm)with z|z
   ·omega
   ·have:=lt p z; omega
  ·rintro⟨⟨nd,lt⟩,hl⟩;have hm:n∈o:=by
    by_cases z:n∈o
    ·exact z
    ·have h1:=mT o (G8 n) nd λp hp=>Hd.mpr (by
      have:=lt p hp;have:p≠n:=λe=>z (e ▸ hp)
      omega)
     rw[Hq]at h1;omega
   obtain⟨a,b,rfl⟩:=List.append_of_mem hm;have hp:(a++n::b).Perm (n::(a++b)):=LQ;have nd2:=hp.nodup_iff.mp nd;obtain⟨nn,nd3⟩:=IS.mp nd2;show#[a++b,m4.mpr #[#[nd3,λp hpm=>?_],?_],Hi.mpr #[a.length,Hd.mpr ?_,?_]]
   ·have h1:=lt p (hp.mem_iff.mpr (Hv _ hpm));have:p≠n:=λe=>nn (e ▸ hpm)
    omega
   ·have:=hp.length_eq;rw[hl,HK]at this;omega
   ·rw[GJ,HK]at hl;omega
   ·rw[List.take_left',List.drop_left'] <;> simp
def eM {bs:GD G0}{u:Wd}{o:GD GP}{i:GP}(hi:i < o.length):(ar bs u o).getD i (0,[])=((u.getD (o.getD i 0) (0,[])).1,(o.take i).map λj=>bv bs u (o.getD i 0) j):=by
 unfold ar;rw[Hg,GV,Jf hi]; rfl
def oQ {bs:GD G0}{u:Wd}{o:GD GP}{i j:GP}(hi:i < o.length)(hj:j < i):((ar bs u o).getD i (0,[])).2.getD j 0=bv bs u (o.getD i 0) (o.getD j 0):=by
 rw[eM hi];dsimp only;rw[Hg,GV,Ks hj,aq (d:=0) (show j < o.length by omega)]; rfl
def wf {bs:GD G0}{a:GP}{u:Wd}{o:GD GP}{i j:GP}(hb:GoodB bs)(hu:GoodW a bs.length u)(hO:Ord u.length o)(hi:i < o.length)(hj:j < o.length)(hij:i≠j):bv bs (ar bs u o) i j=bv bs u (o.getD i 0) (o.getD j 0):=by
 have gi:=aq (d:=0) hi;have gj:=aq (d:=0) hj;have li:=hO.lt _ (G7 gi);have lj:=hO.lt _ (G7 gj);have ne:o.getD i 0≠o.getD j 0:=λe=>by
  have h1:o[i]=o.getD i 0:=by simp[hi]
  have h2:o[j]=o.getD j 0:=by simp[hj]
  exact hij ((Ji hO.nd).mp (by rw[h1,h2,e]))
 by_cases h:j < i
 ·have:bv bs (ar bs u o) i j=((ar bs u o).getD i (0,[])).2.getD j 0:=by unfold bv; rw[Ho h]
  rw[this,oQ hi h]
 ·have:bv bs (ar bs u o) i j=bs.getD (((ar bs u o).getD j (0,[])).2.getD i 0).toNat 0:=by unfold bv; rw[HD h]
  rw[this,oQ hj ∅]
  generalize o.getD i 0=x at *
  generalize o.getD j 0=y at *
  unfold bv
  by_cases h2:x < y
  ·rw[Ho h2,HD ∅]
  ·rw[HD h2,Ho ∅]
   have hp:=aq (d:=(0,[])) li;have hw:y < (u.getD x (0,[])).2.length:=by rw[hu.len x _ hp]; omega
   obtain⟨w0,w1⟩:=hu.way x _ hp _ (G7 (aq (d:=0) hw));have:=hb.inv ((u.getD x (0,[])).2.getD y 0).toNat ∅
   rw[this]; omega
def iT {bs:GD G0}{a:GP}{u:Wd}{o p:GD GP}(hb:GoodB bs)(hu:GoodW a bs.length u)(hO:Ord u.length o)(hP:Ord o.length p):ar bs (ar bs u o) p=ar bs u (p.map λi=>o.getD i 0):=by
 show KY (by rw[aT,aT,GF]) λk h1 h2=>?_
 rw[aT]at h1;have e1:=eM (bs:=bs) (u:=ar bs u o) (o:=p) h1;have e2:=eM (bs:=bs) (u:=u) (o:=p.map λi=>o.getD i 0) (i:=k) (by rw[GF]; exact h1)
 have hk:p.getD k 0 < o.length:=hP.lt _ (G7 (aq (d:=0) h1));have ek:(p.map λi=>o.getD i 0).getD k 0=o.getD (p.getD k 0) 0:=by
  rw[Hg,GV,aq (d:=0) h1]; rfl
 rw[ek]at e2;rw[eM hk]at e1;have f:∀(v:Wd) (hv:k < v.length),v[k]=v.getD k (0,[]):=λv hv=>by simp[hv]
 rw[f _ (by rw[aT]; exact h1),f _ h2,e1,e2]
 congr 1;rw[<- Kb,IG];show Im λj hj=>?_
 obtain⟨m,hm,rfl⟩:=Kj.mp hj;rw[Hm]at hm;rw[Ke];have hpm:p[m]=p.getD m 0:=by simp[show m < p.length by omega]
 rw[hpm];show wf hb hu hO hk (hP.lt _ (G7 (aq (d:=0) (show m < p.length by omega)))) λe=>?_
 have h3:p[k]=p.getD k 0:=by simp[h1]
 have:=(Ji hP.nd).mp (h3.trans (e.trans hpm.symm));omega
def eN {n:GP}{x:G0}(h:x∈eT n):0<=x/\x < n:=by
 obtain⟨k,hk,rfl⟩:=Hi.mp h;have:=Hd.mp hk;omega
def pU {a n:GP}{u:Wd}(h:u∈oG a n):GoodW a n u/\u.length=3:=by
 unfold oG at h;simp only[Iv,Hi]at h;obtain⟨m0,h0,m1,h1,m2,h2,w1,g1,w2,g2,w3,g3,rfl⟩:=h;show#[?_,rfl];have s1:GoodW a n ([]++[(m0,[])]):=GoodW.nil.snoc (eN h0) rfl (λw hw=>nomatch hw)
 have s2:GoodW a n ([(m0,[])]++[(m1,[w1])]):=s1.snoc (eN h1) rfl (λw hw=>by rw[G6.mp hw]; exact eN g1)
 exact s2.snoc (eN h2) rfl (λw hw=>by
  simp only[Hn,Ih,JX]at hw;rcases hw with rfl|rfl
  ·exact eN g2
  ·exact eN g3)
def sO {a:GP}{bs:GD G0}{g:Wd}(hb:GoodB bs)(h:g∈bc a bs):GoodW a bs.length g/\g.length=3:=by
 unfold bc at h;rw[Lk]at h;obtain⟨u,hu,rfl⟩:=Hi.mp h;obtain⟨gu,u3⟩:=pU hu;unfold j5;have hm:mD ((ay.map (ar bs u)).map dy) < (ay.map (ar bs u)).length:=by
  unfold mD;show Lj (eS _ _) ?_;rw[GF,GF]; decide
 have:=G7 (aq (d:=[]) hm);obtain⟨t,ht,e⟩:=Hi.mp this;rw[<- e];have tk:∀t∈ay,t.length=3/\t.Nodup/\∀p∈t,p < 3:=by decide
 obtain⟨t1,t2,t3⟩:=tk t ht;exact#[iS hb gu (λp hp=>by have:=t3 p hp; omega) t2,by rw[aT]; exact t1]
def sP {a n:GP}{u:Wd}(hu:GoodW a n u):GoodW a n u.dropLast:=by
 have key:∀(k:GP) (x:Pt),(u.dropLast)[k]?=gV x->u[k]?=gV x:=λk x e=>by
  rw[L6]at e;split at e
  ·exact e
  ·cases e
 exact#[λk x e=>hu.mark k x (key k x e),λk x e=>hu.len k x (key k x e),λk x e=>hu.way k x (key k x e)]
def iU {t:GD GP}:t∈ay↔Ord 3 t/\t.length=3:=by
 constructor
 ·intro h;have:∀t∈ay,t.Nodup/\(∀p∈t,p < 3)/\t.length=3:=by decide
  obtain⟨h1,h2,h3⟩:=this t h;exact#[#[h1,h2],h3]
 ·intro h;have h1:=m4.mpr h;have:∀t∈we 3,t∈ay:=by decide
  exact this t h1
abbrev iV:Ss:=
 #v[.ret (.ix (.ix (.ix (.v 0) (.c (.int 1))) (.v 1)) (.c (.int 1)))]
abbrev dq:Ss:=
 #v[.ret (.own "all_bars" 5 #v[.v 0,.own "barred_threes" 1 #v[.v 0],.v 1,.v 2,.v 3])]
abbrev eU:Ss:=
 #v[.set 5 (.comp (.own "first_bar" 2 #v[.v 2,.own "with_both" 5 #v[.v 6,.v 3,.v 4,.v 5,.v 1]]) (.nm 1) (.rng #v[.bi .len #v[.ix (.v 0) (.c (.int 1))]]) .nil [td,td,gV 1,gV 2,gV 3,gV 4,gV 0]),.ret (.bi .tuple #v[.op .add (.v 5) (.lst #v[.own "same_bar" 2 #v[.v 3,.v 4]])])]
abbrev dt:Ss:=
 #v[.ret (.op .add (.v 1) (.tup #v[.v 2,.tup #v[.ix (.v 3) (.c (.int 0)),.op .add (.ix (.v 3) (.c (.int 1))) (.tup #v[.own "back" 2 #v[.v 0,.v 4]])]]))]
abbrev dY:Ss:=
 #v[.ite (.cmp .ne (.ix (.v 0) (.c (.int 0))) (.ix (.v 1) (.c (.int 0)))) #v[.ret (.neg (.c (.int 1)))] .nil,.set 2 (.comp (.v 1) (.nm 1) (.rng #v[.bi .len #v[.ix (.v 0) (.c (.int 1))]]) #v[.cmp .ne (.ix (.ix (.v 2) (.c (.int 1))) (.v 1)) (.ix (.ix (.v 3) (.c (.int 1))) (.v 1))] [td,td,gV 0,gV 1]),.ret (.ite (.v 2) (.ix (.v 2) (.c (.int 0))) (.c .non))]
abbrev bQ (P:GP->Hj)(s:GP):W:=match (G8 s).find? P with
 | some i=>.int (i:G0)
 | none=>.non
def pV {P:GP->Hj}{s:GP}(h:∀i < s,P i=false):bQ P s=.non:=by
 unfold bQ;have:(G8 s).find? P=td:=JC.mpr λi hi=>by rw[h i (Hd.mp hi)]; exact Hb
 rw[this]
def gK {P:GP->Hj}:∀ {s i:GP},i < s->P i=true->(∀j < i,P j=false)->(G8 s).find? P=gV i
 | s+1,i,hi,hp,hn=>by
  rw[IL,List.find?_append]
  by_cases e:i=s
  ·subst e;have:(G8 i).find? P=td:=JC.mpr λj hj=>by rw[hn j (Hd.mp hj)]; exact Hb
   rw[this];simp[hp]
  ·rw[gK ∅ hp hn]; rfl
def pW {P:GP->Hj}{s i:GP}(hi:i < s)(hp:P i=true)(hn:∀j < i,P j=false):bQ P s=.int (i:G0):=by
 unfold bQ;rw[gK hi hp hn]
def pX {P:GP->Hj}{s:GP}:(((G8 s).filter P).map (λ(i:GP)=>W.int (i:G0))++[.non])[0]?=gV (bQ P s):=by
 unfold bQ;rw[<- List.head?_filter];cases(G8 s).filter P <;> rfl
def jd (P:GP->Hj)(s:GP):bQ P s=.non\/∃i:G0,bQ P s=.int i:=by
 unfold bQ;cases(G8 s).find? P with
 | none=>exact .inl rfl
 | some i=>exact .inr #[_,rfl]
abbrev cG (bs:GD G0)(u:Wd)(one other:Pt)(n:GP):Wd:=u++[one]++[(other.1,other.2++[bs.getD n 0])]
abbrev hZ (one other:Pt):W:=if one.1=other.1 then bQ (λp=>!(one.2.getD p 0==other.2.getD p 0)) one.2.length else .int (-1)
abbrev dZ (P:Wd->GP->Hj)(bs:GD G0)(u:Wd)(one other:Pt):GD W:=(G8 bs.length).map (λn=>bQ (P (cG bs u one other n)) u.length)++[hZ one other]
def pY (one other:Pt):hZ one other=.non\/∃i:G0,hZ one other=.int i:=by
 unfold hZ;split
 ·exact jd _ _
 ·exact .inr #[_,rfl]
structure GoodP (a n k:GP)(p:Pt):Prop where
 mark:0<=p.1/\p.1 < a
 len:p.2.length=k
 way:∀w∈p.2,0<=w/\w < (n:G0)
def sQ {bs:GD G0}{a:GP}{u:Wd}{one other:Pt}{n:GP}(hb:GoodB bs)(hu:GoodW a bs.length u)(h1:GoodP a bs.length u.length one)(h2:GoodP a bs.length u.length other)(hn:n < bs.length):GoodW a bs.length (cG bs u one other n)/\(cG bs u one other n).length=u.length+2:=by
 show#[(hu.snoc (m:=one.1) (ws:=one.2) h1.mark h1.len h1.way).snoc h2.mark ?_ λw hw=>?_,?_]
 ·rw[GJ,GJ,h2.len]; rfl
 ·rcases Ht.mp hw with z|z
  ·exact h2.way w z
  ·rw[G6.mp z];obtain⟨b,hb1,hb2,hb3⟩:=hb.rng n hn;rw[getD_some hb1]; exact#[hb2,hb3]
 ·unfold cG;rw[GJ,GJ]; rfl
section
variable{defs:GD (Hc×Df)}{fuel d:GP}{S:aa}{Q:QW}
def oR (h3:Is defs ("three_at" : Hc) 4 6 aW)(hg:Is defs ("first_bar" : Hc) 2 4 aS){a n q s:GP}{v:Wd}{U:GD (T×W)}(hv:GoodW a n v)(hs:v.length=s+2)(hl:v.length<=1000)(e:S[q]?=gV (.dic U))(k:Q (bQ (λp=>bG U v p s (s+1)) s,S)) :
  wO (aE (am defs fuel (d+2)) "first_bar" 2 [.ref q,ak v] S) Q:=by
 show ap hg rfl rfl λQ' hR=>?_
 replace k:=hR _ _ k;clear hR;change wZ _ _ aS [gV (.ref q),gV (ak v),td,td] S Q';have ul:(v.map ag).length=v.length:=GF ..;dsimp only[aS];show st ?_;left;show az (ab ja ?_);rw[ul,show((v.length:GP):G0) - 1=((s+1:GP):G0) by omega]
 nofun
 show bB (s:G0) (λi Z S'=>(∃a3,Z=[gV (.ref q),gV (ak v),gV (.int ((s+1:GP):G0)),a3])/\S'=S/\∀i' < i,bG U v i' s (s+1)=false) rfl rfl ∅ ?_ ?_ ?_
 ·dsimp only[wE,wV,wG];show ab ja #[?_,#[_,rfl],rfl,λi' z=>∅]
  dsimp only;rw[show((s+1:GP):G0) - 1=(s:G0) by omega]
 ·rintro i Z S1 hi ⟨⟨a3,rfl⟩,rfl,no⟩ Q2 hn hr;clear hK;dsimp only[G2];nofun
  dsimp only[wS,wT,wE,wA,wV,wG];show ab ja ?_;dsimp only;rw[show((s+1:GP):G0) - 1=(s:G0) by omega]
  show mY (d:=d) h3 hv ∅ (IZ s) ∅ ?_
  show ab (show aJ .isin (ak (bX v i s (s+1))) (.ref q) S1=gV (.bl (bG U v i s (s+1)),S1) by simp only[aJ,eR e,gH]; rfl) ?_
  dsimp only[wB];show ae (Q0:=Q2) (λh Q5 _ hr5=>?_) (λh Q5 hn5 _=>aN (hn5 _ _ (hK _ _ (aN (hn _ _ #[#[_,rfl],rfl,λi' z=>?_])))))
  ·show st ?_;dsimp only[wS,wE,wV,wG];rw[pW (P:=λp=>bG U v p s (s+1)) ∅ h no]at k
   exact hr5 _ _ (hr _ _ k)
  ·by_cases ei:i'=i
   ·rw[ei]; exact h
   ·exact no i' ∅
 ·rintro Z S1 ⟨⟨a3,rfl⟩,rfl,no⟩;show hK _ _ (st ?_);dsimp only[wS,wE];rw[pV (P:=λp=>bG U v p s (s+1)) λi hi=>no i ∅]at k
  exact k
def Cn (hg:Is defs ("back" : Hc) 2 2 iV){m0 b0:W}{ns:GD Hc}{bs:GD G0}{n:GP}(hnl:ns.length=bs.length)(hn:n < bs.length)(k:Q (.int (bs.getD n 0),S)) :
  wO (aE (am defs fuel (d+1)) "back" 2 [.tup [m0,.tup (GY aB ns bs),b0],.int n] S) Q:=by
 show ap hg rfl rfl λQ' hR=>?_
 replace k:=hR _ _ k;change wZ _ _ iV [gV (.tup [m0,.tup (GY aB ns bs),b0]),gV (.int n)] S Q';have hb:=aq (d:=0) hn;dsimp only[iV];show st ?_;dsimp only[wS,wE,wV,wG];exact ac #v[] rfl (ac (GZ n) (by rw[Ha]; exact j6 (G1 ∅) hb) (ac #v[] rfl k))
def oS (hbk:Is defs ("back" : Hc) 2 2 iV)(hg:Is defs ("with_both" : Hc) 5 5 dt){m0 b0:W}{ns:GD Hc}{bs:GD G0}{u:Wd}{one other:Pt}{n:GP}(hnl:ns.length=bs.length)(hn:n < bs.length)(hu:u.length<=900)(ho:other.2.length<=900)(k:Q (ak (cG bs u one other n),S)) :
  wO (aE (am defs fuel (d+2)) "with_both" 5 [.tup [m0,.tup (GY aB ns bs),b0],ak u,ag one,ag other,.int n] S) Q:=by
 show ap hg rfl rfl λQ' hR=>?_
 replace k:=hR _ _ k;change wZ _ _ dt [gV (.tup [m0,.tup (GY aB ns bs),b0]),gV (ak u),gV (ag one),gV (ag other),gV (.int n)] S Q';dsimp only[dt];show st ?_;left;show ac #v[] rfl (ac #v[] rfl ?_)
 show Cn (d:=d) hbk hnl hn ?_;show ab (aP (cH ?_)) ?_
 ·rw[GJ,GF]; show _+1<=_; omega
 dsimp only;have ev:u.map ag++[ag one,.tup [.int other.1,.tup (other.2.map W.int++[.int (bs.getD n 0)])]]=(cG bs u one other n).map ag:=by
  unfold cG;simp[ag]
 unfold ak at k ⊢;show ab (aP (cH ?_)) ?_
 ·rw[GJ,GF]; show _+2<=_; omega
 dsimp only;rw[ev];exact k
def pZ (hg:Is defs ("same_bar" : Hc) 2 3 dY){one other:Pt}(h:other.2.length=one.2.length)(hl:one.2.length<=900)(k:∀S',Ka S S'->Q (hZ one other,S')) :
  wO (aE (am defs fuel (d+1)) "same_bar" 2 [ag one,ag other] S) Q:=by
 show ap hg rfl rfl λQ' hR=>?_
 replace k:∀S',Ka S S'->Q' (.rt (hZ one other),S'):=λS' a=>hR _ _ (k S' a)
 clear hR;change wZ _ _ dY [gV (ag one),gV (ag other),td] S Q';have wl:∀(p:Pt) (i:GP),i < p.2.length->(p.2.map W.int)[((i:GP):G0).toNat]?=gV (.int (p.2.getD i 0)):=λp i hi=>by
  rw[Ha,GV,aq (d:=0) hi]; rfl
 dsimp only[dY];nofun
 dsimp only[wS,wT,wE,wV,wG];show ac #v[] rfl (ac #v[] rfl (ab vz ?_))
 dsimp only[wB];unfold hZ at k;show ae (Q0:=Q') (λhm Q2 _ hr=>?_) (λhm Q2 hn _=>aN (hn _ _ (hK _ _ ?_)))
 ·have hm:one.1≠other.1:=λz=>by rw[z]at hm; simp at hm
  show st ?_;dsimp only[wS,wE,wN];rw[HD hm]at k;exact hr _ _ (k S .refl)
 clear hK K hn;have hm:one.1=other.1:=by
  by_cases z:one.1=other.1
  ·exact z
  ·have:(!(one.1==other.1))=true:=by simp[z]
   rw[this]at hm; cases hm
 rw[Ho hm]at k;show st ?_;dsimp only[wS,wE,G2];show mZ one.2.length (λp=>!(one.2.getD p 0==other.2.getD p 0)) (λ(i:GP)=>W.int (i:G0)) [gV (ag one),gV (ag other)] rfl rfl rfl rfl ∅ ?_ (λi hi S2 k2=>?_) λS2 k2=>?_
 ·dsimp only[wE,wA,wV,wG];show ac #v[] rfl (az ?_)
  rw[GF];exact#[rfl,.refl]
 ·dsimp only[fm,wC,wT,wE,wV,wG];show ac #v[] rfl (ac (GZ i) (wl one i hi) (ac #v[] rfl (ac (GZ i) (wl other i ∅) (ab vz ?_))))
  dsimp only[wB];exact#[λz=>#[z,rfl,.refl],λz=>#[z,.refl]]
 ·have hh:=pX (P:=λp=>!(one.2.getD p 0==other.2.getD p 0)) (s:=one.2.length)
  show st ?_;dsimp only[wS,wE,wT,wV,wG];cases hL:((G8 one.2.length).filter λp=>!(one.2.getD p 0==other.2.getD p 0))with
  | nil=>
   rw[hL]at hh;show ab (show cX (S2++[O.lst []]) (.ref S2.length)=gV false by simp only[cX,aI aj]; rfl) #[λz=>(by cases z),λ_=>?_]
   have e:bQ (λp=>!(one.2.getD p 0==other.2.getD p 0)) one.2.length=.non:=(Io hh).symm
   rw[e]at k;exact k _ (k2.trans .push)
  | cons x L=>
   rw[hL]at hh;show ab (show cX (S2++[O.lst ((x::L).map λ(i:GP)=>W.int (i:G0))]) (.ref S2.length)=gV true by simp only[cX,aI aj]; rfl) #[λ_=>?_,λz=>by cases z]
   have e:bQ (λp=>!(one.2.getD p 0==other.2.getD p 0)) one.2.length=.int (x:G0):=(Io hh).symm
   rw[e]at k;exact eG (i:=0) aj rfl (k _ (k2.trans .push))
end
abbrev CH:W->Hj
 | .non=>true
 | _=>false
abbrev NI (w:W):Prop:=w=.non\/∃i:G0,w=.int i
abbrev PB (X:GD T)(s:GP)(v:Wd)(p:GP):Hj:=decide (dy (bX v p s (s+1))∈X)
def lK {P:Wd->GP->Hj}{bs:GD G0}{u:Wd}{one other:Pt}:(dZ P bs u one other).length=bs.length+1:=by
 unfold dZ;rw[GJ,GF,Hq]; rfl
def wg {S:aa}{xs:GD W}(h:xs≠[]):gW (.tup xs) (.int (-1)) S=gV (xs.getLastD (.int 0),S):=by
 have hp:0 < xs.length:=JV.mpr h;have hs:qp xs.length (-1)=gV (xs.length - 1):=by
  unfold qp;rw[HD #v[]]
  exact(Ho ∅).trans (by congr 1; omega)
 have hg:xs[xs.length - 1]?=gV (xs.getLastD (.int 0)):=by
  rw[Lr,Ls];have:xs.length - 1 < xs.length:=∅
  simp[this]
 simp only[gW,rV,nv,hs,hg,Option.bind_some,HA]
section
variable{defs:GD (Hc×Df)}{fuel d:GP}{S:aa}{Q:QW}
structure Fil (defs:GD (Hc×Df)):Prop where
 parts:Parts defs
 part:Is defs ("part" : Hc) 3 3 gJ
 longer:Is defs ("longer_orders" : Hc) 2 4 aV
 barred:Is defs ("barred_threes" : Hc) 1 5 bq
 three:Is defs ("three_at" : Hc) 4 6 aW
 fbar:Is defs ("first_bar" : Hc) 2 4 aS
 back:Is defs ("back" : Hc) 2 2 iV
 both:Is defs ("with_both" : Hc) 5 5 dt
 same:Is defs ("same_bar" : Hc) 2 3 dY
 all:Is defs ("all_bars" : Hc) 5 6 eU
def gL (F:Fil defs){m0 b0:W}{ns:GD Hc}{bs:GD G0}{a q:GP}{u:Wd}{one other:Pt}{U:GD (T×W)}(hb:GoodB bs)(hnl:ns.length=bs.length)(hu:GoodW a bs.length u)(h1:GoodP a bs.length u.length one)(h2:GoodP a bs.length u.length other)(hul:u.length<=800)(e:S[q]?=gV (.dic U))
  (k:∀S',Ka S S'->Q (.tup (dZ (λv p=>bG U v p u.length (u.length+1)) bs u one other),S')) :
  wO (aE (am defs fuel (d+3)) "all_bars" 5 [.tup [m0,.tup (GY aB ns bs),b0],.ref q,ak u,ag one,ag other] S) Q:=by
 show ap F.all rfl rfl λQ' hR=>?_
 replace k:∀S',Ka S S'->Q' (.rt (.tup (dZ (λv p=>bG U v p u.length (u.length+1)) bs u one other)),S'):=λS' a=>hR _ _ (k S' a)
 clear hR;change wZ _ _ eU [gV (.tup [m0,.tup (GY aB ns bs),b0]),gV (.ref q),gV (ak u),gV (ag one),gV (ag other),td] S Q';generalize hR0:W.tup [m0,.tup (GY aB ns bs),b0]=R;have hb3:bs.length<=3:=by rcases hb with rfl|rfl|rfl|rfl|rfl|rfl <;> decide
 dsimp only[eU];show st ?_;dsimp only[wS,wE,G2];show mZ bs.length (λ_=>true) (λn=>bQ (λp=>bG U (cG bs u one other n) p u.length (u.length+1)) u.length) [gV (.ref q),gV (ak u),gV (ag one),gV (ag other),gV R] rfl rfl rfl rfl ∅ ?_ (λn hn S2 k2=>?_) λS2 k2=>?_
 ·dsimp only[wE,wA,wV,wG];subst hR0;show ac #v[] rfl (az ?_)
  rw[IC,hnl,Ju];exact#[rfl,.refl]
 ·obtain⟨g1,g2⟩:=sQ hb hu h1 h2 hn;dsimp only[fm,wC,wE,wA,wV,wG];subst hR0;show#[λ_=>?_,λz=>by cases z]
  show oS (d:=d) F.back F.both hnl hn ∅ (by rw[h2.len]; omega) ?_
  exact oR (d:=d) F.three F.fbar g1 g2 ∅ (k2.get _ _ e) #[rfl,rfl,.refl]
 ·rw[bO];show st ?_;left;show pZ (d:=d+1) F.same (by rw[h1.len,h2.len]) (by rw[h1.len]; omega) λS3 k3=>?_
  dsimp only;show ab (jY (aw (k3.get _ _ aj)) aj (cH ?_)) (dX aj (k _ (((k2.trans .push).trans k3).trans (Ka.push.trans .push))));rw[GJ,GF,Hq]; show _+1<=_; omega
def oT (hfu:20 < fuel)(F:Fil defs)(hby:Is defs ("barred_by" : Hc) 4 4 dq){m0:W}{ns:GD Hc}{bs:GD G0}{a:GP}{gs:GD Wd}{u:Wd}{one other:Pt}(hb:GoodB bs)(hnl:ns.length=bs.length)(hgs:∀g∈gs,GoodW a bs.length g/\g.length=3)(h64:gs.length<=100)(hu:GoodW a bs.length u)(h1:GoodP a bs.length u.length one)(h2:GoodP a bs.length u.length other)(hul:u.length<=800)
  (k:∀S',Ka S S'->Q (.tup (dZ (PB ((bH bs gs).map dy) u.length) bs u one other),S')) :
  wO (aE (am defs fuel (d+5)) "barred_by" 4 [.tup [m0,.tup (GY aB ns bs),.tup (gs.map ak)],ak u,ag one,ag other] S) Q:=by
 show ap hby rfl rfl λQ' hR=>?_
 change wZ _ _ dq [gV (.tup [m0,.tup (GY aB ns bs),.tup (gs.map ak)]),gV (ak u),gV (ag one),gV (ag other)] S Q';dsimp only[dq];show st ?_;left;show ke (d:=d) hfu F.parts F.part F.longer F.barred hb hnl hgs h64 λq U S1 e1 hk _ k1=>?_
 have ep:(λ(v:Wd) p=>bG U v p u.length (u.length+1))=PB ((bH bs gs).map dy) u.length:=funext λv=>funext λp=>hk.get _
 show gL (d:=d+1) F hb hnl hu h1 h2 hul e1 λS2 k2=>hR _ _ ?_
 rw[ep];exact k S2 (k1.trans k2)
end
abbrev cv:Ss:=
 #v[.set 4 (.own "_law_pick" 2 #v[.v 0,.bi .len #v[.ix (.v 1) (.c (.int 0))]]),.loop (.nm 5) (.rng #v[.bi .len #v[.ix (.v 1) (.c (.int 0))]]) #v[.set 6 (.op .mod (.op .add (.v 4) (.v 5)) (.bi .len #v[.ix (.v 1) (.c (.int 0))])),.set 7 (.own "_law_new_ways" 6 #v[.v 0,.v 1,.v 2,.v 3,.v 6,.tup .nil]),.ite (.cmp .isnot (.v 7) (.c .non)) #v[.ret (.tup #v[.v 6,.v 7])] .nil],.ret (.c .non)]
abbrev eV:Ss:=
 #v[.asg [5,6] (.v 4),.set 7 (.own "_law_pick" 2 #v[.v 0,.c (.int 4)]),.ite (.cmp .eq (.v 7) (.c (.int 1))) #v[.set 5 (.own "_law_pick" 2 #v[.v 0,.bi .len #v[.ix (.v 1) (.c (.int 0))]])] #v[.ite (.and (.cmp .gt (.v 7) (.c (.int 1))) (.cmp .ne (.v 6) (.tup .nil))) #v[.set 8 (.own "_law_pick" 2 #v[.v 0,.bi .len #v[.v 6]]),.set 6 (.op .add (.op .add (.sl (.v 6) .no (.yes (.v 8))) (.tup #v[.own "_law_pick" 2 #v[.v 0,.bi .len #v[.ix (.v 1) (.c (.int 1))]]])) (.sl (.v 6) (.yes (.op .add (.v 8) (.c (.int 1)))) .no))] .nil],.ite (.own "_law_last_may" 4 #v[.v 1,.v 2,.op .add (.v 3) (.tup #v[.tup #v[.v 5,.v 6]]),.bi .len #v[.v 3]]) #v[.ret (.tup #v[.v 5,.v 6])] .nil,.ret (.v 4)]
abbrev eW:Ss:=
 #v[.set 4 (.own "_law_world" 4 #v[.v 0,.v 1,.v 2,.v 3]),.set 5 (.own "_law_new_point" 4 #v[.v 0,.v 1,.v 2,.v 4]),.ite (.cmp .is (.v 5) (.c .non)) #v[.set 5 (.ix (.v 4) (.neg (.c (.int 1)))),.set 4 (.sl (.v 4) .no (.yes (.neg (.c (.int 1)))))] .nil,.set 6 (.c .non),.ite (.cmp .eq (.own "_law_pick" 2 #v[.v 0,.c (.int 2)]) (.c (.int 0))) #v[.set 6 (.own "_law_new_point" 4 #v[.v 0,.v 1,.v 2,.v 4])] .nil,.ite (.cmp .is (.v 6) (.c .non)) #v[.set 6 (.own "_law_near" 5 #v[.v 0,.v 1,.v 2,.v 4,.v 5])] .nil,.ret (.tup #v[.v 4,.v 5,.v 6])]
def Eo {S:aa}{xs:GD G0}:aJ .ne (.tup (al xs)) (.tup []) S=gV (.bl (!decide (xs=[])),S):=by
 cases xs <;> rfl
def Std.last {U:GD (T×W)}{u:Wd}(h:Std U u):Std U u.dropLast/\b9 U u.dropLast u.dropLast.length (u.getD (u.length - 1) (0,[]))=true:=by
 have e:∀p,p < u.length - 1->u.dropLast.getD p (0,[])=u.getD p (0,[]):=λp hp=>by
  rw[Hg,Hg,L6,Ho hp]
 show#[λk hk j hj i hi=>?_,bC.mpr λj hj i hi=>?_]
 ·rw[Ja]at hk;have:=h k ∅ j hj i hi
  unfold bG bX at this ⊢;rw[e i ∅,e j ∅,e k hk]
  exact this
 ·rw[Ja]at hj;have:=h (u.length - 1) ∅ j hj i hi
  unfold bG bX at this;unfold bS;rw[e i ∅,e j ∅]
  exact this
section
variable{defs:GD (Hc×Df)}{fuel d:GP}{S:aa}{r:GP}{Q:QW}
structure Pai (defs:GD (Hc×Df)):Prop where
 un:Is defs ("_law_unlaying_rule" : Hc) 1 10 ba
 ways:Is defs ("_law_new_ways" : Hc) 6 11 aK
 world:Is defs ("_law_world" : Hc) 4 8 dm
 lmay:Is defs ("_law_last_may" : Hc) 4 8 aF
 point:Is defs ("_law_new_point" : Hc) 4 8 cv
 near:Is defs ("_law_near" : Hc) 5 9 eV
 pair:Is defs ("_law_pair" : Hc) 4 7 eW
def p4 (G:Gen defs)(hg:Is defs ("_law_new_ways" : Hc) 6 11 aK){m0 b0:W}{N:GD W}{a n q:GP}{u:Wd}{mk:G0}{U:GD (T×W)}(hN:N.length=n)(hn3:n<=3)(hu:GoodW a n u)(hl:u.length<=900)(e:S[q]?=gV (.dic U))(hqr:q≠r)(hf:Fl S r)
  (k:∀w S',((w=.non/\u≠[])\/∃to:GD G0,w=.tup (al to)/\to.length=u.length/\(∀x∈to,0<=x/\x < (n:G0))/\∀j < u.length,∀i < j,bp U u mk i j (to.getD i 0) (to.getD j 0)=false)->Fl S' r->Kp r S S'->Q (w,S')) :
  wO (aE (am defs fuel (d+2)) "_law_new_ways" 6 [.ref r,.tup [m0,.tup N,b0],.ref q,ak u,.int mk,.tup []] S) Q:=by
 by_cases z:u=[]
 ·subst z;show ap hg rfl rfl λQ' hR=>?_
  change wZ _ _ aK [gV (.ref r),gV (.tup [m0,.tup N,b0]),gV (.ref q),gV (ak []),gV (.int mk),gV (.tup (al [])),td,td,td,td,td] S Q';dsimp only[aK];nofun
  show cp 0 0 (λm Z S'=>Z=[gV (.ref r),gV (.tup [m0,.tup N,b0]),gV (.ref q),gV (ak []),gV (.int mk),gV (.tup (al [])),td,td,td,td,td]/\S'=S) rfl rfl rfl #v[] ?_ (λm Z S1 hm=>∅) ?_
  ·dsimp only[wE,wA,wV,wG];exact az #[rfl,az #[rfl,rfl,rfl]]
  ·rintro Z S1 ⟨rfl,rfl⟩;show hK _ _ (st ?_);dsimp only[wS,wE,wV,wG];exact hR _ _ (k _ _ (.inr #[[],rfl,rfl,(λx hx=>nomatch hx),λj hj=>by cases hj]) hf .refl)
 ·show kh G hg hN hn3 hu hl e hqr hf λw S' hw f' k'=>k w S' ?_ f' k'
  rcases hw with h|h
  ·exact .inl #[h,z]
  ·exact .inr h
def fN (G:Gen defs)(P:Pai defs){Mqa N:GD W}{b0:W}{a n q:GP}{u:Wd}{U:GD (T×W)}(hM:Mqa.length=a)(ha1:0 < a)(ha3:a<=3)(hN:N.length=n)(hn3:n<=3)(hu:GoodW a n u)(hl:u.length<=900)(e:S[q]?=gV (.dic U))(hqr:q≠r)(hf:Fl S r)
  (k:∀w S',((w=.non/\u≠[])\/∃p,w=ag p/\GoodP a n u.length p/\b9 U u u.length p=true)->Fl S' r->Kp r S S'->Q (w,S')) :
  wO (aE (am defs fuel (d+3)) "_law_new_point" 4 [.ref r,.tup [.tup Mqa,.tup N,b0],.ref q,ak u] S) Q:=by
 show ap P.point rfl rfl λQ' hR=>?_
 replace k:∀w S',((w=.non/\u≠[])\/∃p,w=ag p/\GoodP a n u.length p/\b9 U u u.length p=true)->Fl S' r->Kp r S S'->Q' (.rt w,S'):=λw S' h1 h2 h3=>hR _ _ (k w S' h1 h2 h3)
 clear hR;change wZ _ _ cv [gV (.ref r),gV (.tup [.tup Mqa,.tup N,b0]),gV (.ref q),gV (ak u),td,td,td,td] S Q';generalize hR0:W.tup [.tup Mqa,.tup N,b0]=R;dsimp only[cv];nofun
 left;have lm:∀(S:aa) (Q:QW),Q (.int (a:G0),S)->wO (gW R (.int 0) S) λp=>wO (Bi.len.fn [p.1] p.2) Q:=λS Q q=>by
  subst hR0;show ac #v[] rfl (az ?_)
  rw[hM]; exact q
 show lm _ _ ?_;show aQ (d:=d+1) G.pick hf ∅ ∅ λv S1 v0 v1 f1 k1=>hK _ _ ?_
 clear hK K;nofun
 show bB (a:G0) (λi Z S'=>(∃a5 a6 a7,Z=[gV (.ref r),gV R,gV (.ref q),gV (ak u),gV (.int v),a5,a6,a7])/\(u=[]->i=0)/\Fl S' r/\Kp r S S') rfl rfl ∅ ?_ ?_ ?_
 ·dsimp only[wE,wA,wV,wG];exact lm _ _ #[rfl,#[_,_,_,rfl],λ_=>rfl,f1,k1]
 ·rintro i Z S2 hi ⟨⟨a5,a6,a7,rfl⟩,_,f2,k2⟩ Q2 hn2 hr2;clear hK;dsimp only[G2];show st ?_;left;show ab cM (lm _ _ (ab (oy ∅) ?_))
  have m0:0<=(v+(i:G0)) % (a:G0):=Ky _ ∅
  have m1:(v+(i:G0)) % (a:G0) < a:=J3 _ ∅
  generalize(v+(i:G0)) % (a:G0)=m at m0 m1;show st ?_;left;subst hR0;show p4 (d:=d) G P.ways hN hn3 hu hl (k2.get _ _ hqr e) hqr f2 λw S3 hw f3 k3=>?_
  nofun
  dsimp only[wS,wT,wE,wA,wV,wG];rcases hw with⟨rfl,hne⟩|⟨to,rfl,htl,hto,hbp⟩
  ·show ab (show aJ .isnot .non .non S3=gV (.bl false,S3)from rfl) ?_
   dsimp only[wB];exact ae (Q0:=Q2) (λz=>by cases z) (λ_ Q5 hn5 _=>aN (hn5 _ _ (hK _ _ (aN (hn2 _ _ #[#[_,_,_,rfl],λz=>absurd z hne,f3,k2.trans k3])))))
  ·show ab (show aJ .isnot (.tup (al to)) .non S3=gV (.bl true,S3)from rfl) ?_
   dsimp only[wB];show ae (Q0:=Q2) (λ_ Q5 _ hr5=>?_) (λz=>by cases z)
   show st ?_;left;exact hr5 _ _ (hr2 _ _ (k _ _ (.inr #[(m,to),rfl,#[#[m0,m1],htl,hto],bC.mpr hbp]) f3 (k2.trans k3)))
 ·rintro Z S2 ⟨⟨a5,a6,a7,rfl⟩,hz,f2,k2⟩;rw[Ha]at hz;show hK _ _ (st ?_);dsimp only[wS,wE];exact k _ _ (.inl #[rfl,λz=>by have:=hz z; omega]) f2 k2
def Co (G:Gen defs)(P:Pai defs){Mqa N:GD W}{b0:W}{a n q:GP}{u:Wd}{p:Pt}{U:GD (T×W)}(hM:Mqa.length=a)(ha1:0 < a)(ha3:a<=3)(hN:N.length=n)(hn1:0 < n)(hn3:n<=3)(hu:GoodW a n u)(hp:GoodP a n u.length p)(hpm:b9 U u u.length p=true)(hl:u.length<=900)(e:S[q]?=gV (.dic U))(hqr:q≠r)(hf:Fl S r)
  (k:∀p' S',GoodP a n u.length p'->b9 U u u.length p'=true->Fl S' r->Kp r S S'->Q (ag p',S')) :
  wO (aE (am defs fuel (d+2)) "_law_near" 5 [.ref r,.tup [.tup Mqa,.tup N,b0],.ref q,ak u,ag p] S) Q:=by
 show ap P.near rfl rfl λQ' hR=>?_
 replace k:∀p' S',GoodP a n u.length p'->b9 U u u.length p'=true->Fl S' r->Kp r S S'->Q' (.rt (ag p'),S'):=λw S' h1 h2 h3 h4=>hR _ _ (k w S' h1 h2 h3 h4)
 clear hR;change wZ _ _ eV [gV (.ref r),gV (.tup [.tup Mqa,.tup N,b0]),gV (.ref q),gV (ak u),gV (ag p),td,td,td,td] S Q';generalize hR0:W.tup [.tup Mqa,.tup N,b0]=R;have lm:∀(S:aa) (Q:QW),Q (.int (a:G0),S)->wO (gW R (.int 0) S) λp=>wO (Bi.len.fn [p.1] p.2) Q:=λS Q q=>by
  subst hR0;show ac #v[] rfl (az ?_)
  rw[hM]; exact q
 have lw:∀(S:aa) (Q:QW),Q (.int (n:G0),S)->wO (gW R (.int 1) S) λp=>wO (Bi.len.fn [p.1] p.2) Q:=λS Q q=>by
  subst hR0;show ac #v[] rfl (az ?_)
  rw[hN]; exact q
 have ul:(u.map ag).length=u.length:=GF ..;dsimp only[eV];show st ?_;dsimp only[wS,wE,wV,wG,wU,ag];show ab (show cC [5,6] [.int p.1,.tup (p.2.map W.int)] [gV (.ref r),gV R,gV (.ref q),gV (ak u),gV (.tup [.int p.1,.tup (p.2.map W.int)]),td,td,td,td]=gV [gV (.ref r),gV R,gV (.ref q),gV (ak u),gV (ag p),gV (.int p.1),gV (.tup (al p.2)),td,td]from rfl) ?_
 nofun
 left;show aQ (d:=d) G.pick hf #v[] #v[] λv S1 _ _ f1 k1=>hK _ _ ?_
 clear hK K;nofun
 have tl:∀(m:G0) (to:GD G0) (a8:GN W) (S2:aa),GoodP a n u.length (m,to)->Fl S2 r->Kp r S S2->K [gV (.ref r),gV R,gV (.ref q),gV (ak u),gV (ag p),gV (.int m),gV (.tup (al to)),gV (.int v),a8] S2:=by
  intro m to a8 S2 hg f2 k2;show hK _ _ ?_;clear hK K;nofun
  dsimp only[wS,wT,wE,wA,wV,wG,ak];have ev:u.map ag++[.tup [.int m,.tup (al to)]]=(u++[(m,to)]).map ag:=by rw[Hh]; rfl
  show ab (aP (cH (by rw[ev,GF,GJ,HB]; omega))) (az ?_)
  dsimp only;rw[ev,ul];have lmay:=λ(Q:QW)=>kz (fuel:=fuel) (d:=d) (Q:=Q) (R:=R) (h:=(m,to)) P.lmay hu hg.len ∅ (k2.get _ _ hqr e)
  unfold ak at lmay;show lmay _ ?_;show ab (show cX S2 (.bl (b9 U u u.length (m,to)))=gV (b9 U u u.length (m,to))from rfl) ?_
  show ae (Q0:=Q') (λhmt Q2 _ hr=>?_) (λ_ Q2 hn _=>aN (hn _ _ (hK _ _ (st ?_))))
  ·show st ?_;left;exact hr _ _ (k (m,to) S2 hg hmt f2 k2)
  ·dsimp only[wS,wE,wV,wG];exact k p S2 hp hpm f2 k2
 dsimp only[wS,wT,wE,wV,wG,iL,bJ,wB];show ae (Q0:=Q') (λ_ Q2 hn _=>?_) (λ_ Q2 hn _=>?_)
 ·show st ?_;left;show lm _ _ (aQ (d:=d) G.pick f1 ∅ ∅ λm S2 m0 m1 f2 k2=>aN (hn _ _ (tl m p.2 td S2 #[#[m0,m1],hp.len,hp.way] f2 (k1.trans k2))))
 ·show aM λK2 hK2=>?_
  dsimp only[wS,wT,wE,wA,wV,wG];have stay:K2 [gV (.ref r),gV R,gV (.ref q),gV (ak u),gV (ag p),gV (.int p.1),gV (.tup (al p.2)),gV (.int v),td] S1:=hK2 _ _ (aN (hn _ _ (tl p.1 p.2 td S1 hp f1 k1)));show ab y8 ?_;dsimp only[wB];show#[λ_=>ab Eo ?_,λ_=>ae (Q0:=Q2) (λz=>by cases z) λ_ Q3 hn3 _=>aN (hn3 _ _ stay)]
  dsimp only[wB];show ae (Q0:=Q2) (λhne Q3 hn3 _=>?_) (λ_ Q3 hn3 _=>aN (hn3 _ _ stay))
  have hne:p.2≠[]:=by simpa using hne
  have hpl:0 < p.2.length:=JV.mpr hne;have il:(al p.2).length=p.2.length:=GF ..;have hpe:=hp.len;show st ?_;left;show az ?_;rw[il];show aQ (d:=d) G.pick f1 ∅ ∅ λv2 S2 v0 v1 f2 k2=>?_
  obtain⟨at',rfl⟩ : ∃k:GP,v2=k:=#[v2.toNat,∅]
  show st ?_;dsimp only[wS,wE,wA,wP,wV,wG,wN,G2];show ab (show fR (.tup (al p.2)) td (gV ((at':GP):G0)) S2=gV (.tup ((al p.2).take at'),S2) by simp only[fR,cO]) ?_
  dsimp only;show lw _ _ (aQ (d:=d) G.pick f2 ∅ ∅ λw S3 w0 w1 f3 k3=>?_)
  show ab (aP (cH (by rw[GJ,Hm,il]; show _+1<=_; omega))) ?_
  dsimp only;show ab cM ?_;dsimp only;show ab (show fR (.tup (al p.2)) (gV ((at':G0)+1)) td S3=gV (.tup ((al p.2).drop (at'+1)),S3) by rw[show(at':G0)+1=((at'+1:GP):G0) by omega]; simp only[fR,j3]) ?_
  dsimp only;show ab (aP (cH (by rw[GJ,GJ,Hm,IY,il]; show _+1+_<=_; omega))) ?_
  have es:(al p.2).take at'++[.int w]++(al p.2).drop (at'+1)=al (p.2.set at' w):=by
   unfold al;rw[List.map_set,List.set_eq_take_append_cons_drop,Ho (by rw[GF]; omega)]
   simp
  dsimp only;rw[es];show aN (hn3 _ _ (hK2 _ _ (aN (hn _ _ (tl p.1 (p.2.set at' w) _ S3 #[hp.mark,?_,λx hx=>?_] f3 ((k1.trans k2).trans k3))))))
  ·show(p.2.set at' w).length=_;rw[N8]; exact hpe
  ·rcases List.mem_or_eq_of_mem_set hx with z|z
   ·exact hp.way x z
   ·rw[z]; exact#[w0,w1]
def Cp (G:Gen defs)(P:Pai defs){Mqa N:GD W}{b0:W}{a n q many:GP}{U:GD (T×W)}(hM:Mqa.length=a)(ha1:0 < a)(ha3:a<=3)(hN:N.length=n)(hn1:0 < n)(hn3:n<=3)(hm:many<=800)(e:S[q]?=gV (.dic U))(hqr:q≠r)(hf:Fl S r)
  (k:∀(u:Wd) (one other:Pt) S',u.length<=many->GoodW a n u->Std U u->GoodP a n u.length one->b9 U u u.length one=true->GoodP a n u.length other->b9 U u u.length other=true->Fl S' r->Kp r S S'->Q (.tup [ak u,ag one,ag other],S')) :
  wO (aE (am defs fuel (d+4)) "_law_pair" 4 [.ref r,.tup [.tup Mqa,.tup N,b0],.ref q,.int many] S) Q:=by
 show ap P.pair rfl rfl λQ' hR=>?_
 replace k:∀(u:Wd) (one other:Pt) S',u.length<=many->GoodW a n u->Std U u->GoodP a n u.length one->b9 U u u.length one=true->GoodP a n u.length other->b9 U u u.length other=true->Fl S' r->Kp r S S'->Q' (.rt (.tup [ak u,ag one,ag other]),S'):=λu x y S' h1 h2 h3 h4 h5 h6 h7 h8 h9=>hR _ _ (k u x y S' h1 h2 h3 h4 h5 h6 h7 h8 h9)
 clear hR;change wZ _ _ eW [gV (.ref r),gV (.tup [.tup Mqa,.tup N,b0]),gV (.ref q),gV (.int many),td,td,td] S Q';generalize hR0:W.tup [.tup Mqa,.tup N,b0]=R;dsimp only[eW];nofun
 left;subst hR0;show zA (d:=d) G P.ways P.world hM ha1 ha3 hN hn3 ∅ e hqr hf λu S1 hul hu hst f1 k1=>hK _ _ ?_
 clear hK K;nofun
 left;show fN (d:=d) G P hM ha1 ha3 hN hn3 hu ∅ (k1.get _ _ hqr e) hqr f1 λw S2 hw f2 k2=>hK _ _ ?_
 clear hK K;have k12:=k1.trans k2;clear f1 k1 k2;nofun
 have tl:∀(u:Wd) (one:Pt),u.length<=many->GoodW a n u->Std U u->GoodP a n u.length one->b9 U u u.length one=true->K [gV (.ref r),gV (.tup [.tup Mqa,.tup N,b0]),gV (.ref q),gV (.int many),gV (ak u),gV (ag one),td] S2:=by
  intro u one hul hu hst h1 h1m;show hK _ _ ?_;clear hK K;show st ?_;dsimp only[wS,wE,G2];nofun
  have tl2:∀(w:W) (S3:aa),(w=.non\/∃p,w=ag p/\GoodP a n u.length p/\b9 U u u.length p=true)->Fl S3 r->Kp r S S3->K [gV (.ref r),gV (.tup [.tup Mqa,.tup N,b0]),gV (.ref q),gV (.int many),gV (ak u),gV (ag one),gV w] S3:=by
   intro w S3 hw f3 k3;show hK _ _ ?_;clear hK K;nofun
   dsimp only[wS,wT,wE,wV,wG];have ret:∀(p:Pt) (S4:aa),GoodP a n u.length p->b9 U u u.length p=true->Fl S4 r->Kp r S S4->K [gV (.ref r),gV (.tup [.tup Mqa,.tup N,b0]),gV (.ref q),gV (.int many),gV (ak u),gV (ag one),gV (ag p)] S4:=λp S4 hp hpm f4 k4=>hK _ _ (st (by
    left;exact k u one p S4 hul hu hst h1 h1m hp hpm f4 k4))
   rcases hw with rfl|⟨p,rfl,hp,hpm⟩
   ·show ab (show aJ .is .non .non S3=gV (.bl true,S3)from rfl) ?_
    dsimp only[wB];show ae (Q0:=Q') (λ_ Q2 hn _=>?_) (λz=>by cases z)
    show st ?_;left;exact Co (d:=d+1) G P hM ha1 ha3 hN hn1 hn3 hu h1 h1m ∅ (k3.get _ _ hqr e) hqr f3 λp S4 hp hpm f4 k4=>aN (hn _ _ (ret p S4 hp hpm f4 (k3.trans k4)))
   ·show ab (show aJ .is (ag p) .non S3=gV (.bl false,S3)from rfl) ?_
    dsimp only[wB];exact ae (Q0:=Q') (λz=>by cases z) (λ_ Q2 hn _=>aN (hn _ _ (ret p S3 hp hpm f3 k3)))
  dsimp only[wS,wT,wE,wA,wV,wG];show aQ (d:=d+2) G.pick f2 #v[] #v[] λv S3 _ _ f3 k3=>?_
  dsimp only[iL,bJ,wB];show ae (Q0:=Q') (λ_ Q2 hn _=>?_) (λ_ Q2 hn _=>aN (hn _ _ (tl2 .non S3 (.inl rfl) f3 (k12.trans k3))))
  show st ?_;left;show fN (d:=d) G P hM ha1 ha3 hN hn3 hu ∅ (k3.get _ _ hqr (k12.get _ _ hqr e)) hqr f3 λw S4 hw f4 k4=>aN (hn _ _ (tl2 w S4 ?_ f4 ((k12.trans k3).trans k4)))
  rcases hw with⟨h,_⟩|h
  ·exact .inl h
  ·exact .inr h
 dsimp only[wS,wT,wE,wV,wG];rcases hw with⟨rfl,hne⟩|⟨p,rfl,hp,hpm⟩
 ·show ab (show aJ .is .non .non S2=gV (.bl true,S2)from rfl) ?_
  dsimp only[wB];show ae (Q0:=Q') (λ_ Q2 hn _=>?_) (λz=>by cases z)
  have hup:0 < u.length:=JV.mpr hne;have hlt:u.length - 1 < u.length:=∅
  have gl:=aq (d:=(0,[])) hlt;show st ?_;dsimp only[wS,wE,wV,wG,wN,G2];have el:(u.map ag).getLastD (.int 0)=ag (u.getD (u.length - 1) (0,[])):=by
   rw[Lr,Ls,GF,GV,gl]; rfl
  show ab (wg (xs:=u.map ag) (by simpa using hne)) ?_
  rw[el];show st ?_;dsimp only[wS,wE,wP,wV,wG,wN,G2];show ab (show fR (ak u) td (gV (-1)) S2=gV (ak u.dropLast,S2) by simp only[ak,fR,j9,List.map_dropLast]) ?_
  show aN (hn _ _ (tl u.dropLast (u.getD (u.length - 1) (0,[])) (by rw[Ja]; omega) (sP hu) hst.last.1 #[hu.mark _ _ gl,?_,hu.way _ _ gl] hst.last.2))
  rw[hu.len _ _ gl,Ja]
 ·show ab (show aJ .is (ag p) .non S2=gV (.bl false,S2)from rfl) ?_
  dsimp only[wB];exact ae (Q0:=Q') (λz=>by cases z) (λ_ Q2 hn _=>aN (hn _ _ (tl u p hul hu hst hp hpm)))
end
abbrev ib (u:Wd)(one other:Pt)(b:G0)(p:GP):Wd:=[((u.getD p (0,[])).1,[]),(one.1,[one.2.getD p 0]),(other.1,[other.2.getD p 0,b])]
def p5 {bs:GD G0}{a k:GP}{u:Wd}{one other:Pt}{n p:GP}(h1:GoodP a k u.length one)(h2:GoodP a k u.length other)(hp:p < u.length):bX (cG bs u one other n) p u.length (u.length+1)=ib u one other (bs.getD n 0) p:=by
 have l1:(u++[one]).length=u.length+1:=by rw[GJ]; rfl
 have g0:(cG bs u one other n).getD p (0,[])=u.getD p (0,[]):=by
  unfold cG;rw[aD ∅,aD hp]
 have g1:(cG bs u one other n).getD u.length (0,[])=one:=by
  unfold cG;rw[aD ∅,bK]
 have g2:(cG bs u one other n).getD (u.length+1) (0,[])=(other.1,other.2++[bs.getD n 0]):=by
  unfold cG;rw[<- l1,bK]
 unfold bX ib;rw[g0,g1,g2];dsimp only;rw[aX (by rw[h2.len]; exact hp)]
 have:(other.2++[bs.getD n 0]).getD u.length 0=bs.getD n 0:=by
  rw[<- h2.len,Hg,HN (G3 _),J5]; rfl
 rw[this]
abbrev ic (X:GD T)(bs:GD G0)(u:Wd)(one other:Pt)(i p:GP):Hj:=decide (dy (ib u one other (bs.getD i 0) p)∈X)
abbrev m5 (one other:Pt)(s:GP):Hj:=(one.1==other.1)&&(G8 s).all λp=>one.2.getD p 0==other.2.getD p 0
abbrev fg (B:GP->GP->Hj)(sm:Hj)(n s:GP):GD G0:=((G8 n).filter λi=>(G8 s).all λp=>!B i p).map (λ(i:GP)=>(i:G0))++(if sm then[-1]else[])
def lL {P:GP->Hj}{s:GP}:CH (bQ P s)=(G8 s).all λp=>!P p:=by
 rw[Jp,Hk];unfold bQ;constructor
 ·intro h p hp;cases hf:(G8 s).find? P with
  | none=>
   have:=JC.mp hf p hp
   simpa using this
  | some i=>rw[hf]at h; cases h
 ·intro h;have:(G8 s).find? P=td:=JC.mpr λp hp=>by simpa using h p hp
  rw[this]; rfl
def lM {B:GP->GP->Hj}{sm:Hj}{n s:GP}{z:G0}:z∈fg B sm n s↔(∃i:GP,z=i/\i < n/\∀p < s,B i p=false)\/(z = -1/\sm=true):=by
 unfold fg;rw[Ht,Hi];constructor
 ·rintro(⟨i,hi,rfl⟩|h)
  ·obtain⟨h1,h2⟩:=IR.mp hi;exact .inl #[i,rfl,Hd.mp h1,λp hp=>by simpa using Hk.mp h2 p (Hd.mpr hp)]
  ·cases sm with
   | true=>exact .inr #[G6.mp h,rfl]
   | false=>cases h
 ·rintro(⟨i,rfl,h1,h2⟩|⟨rfl,rfl⟩)
  ·exact .inl #[i,IR.mpr #[Hd.mpr h1,Hk.mpr λp hp=>by simpa using h2 p (Hd.mp hp)],rfl]
  ·exact .inr (G6.mpr rfl)
abbrev aL (p:Pt)(ps:GD GP):Pt:=(p.1,ps.map λk=>p.2.getD k 0)
def lN {a n s:GP}{p:Pt}{ps:GD GP}(h:GoodP a n s p)(hps:∀k∈ps,k < s):GoodP a n ps.length (aL p ps):=by
 show#[h.mark,by unfold aL; rw[GF],λw hw=>?_]
 unfold aL at hw;obtain⟨k,hk,rfl⟩:=Hi.mp hw;exact h.way _ (G7 (aq (d:=0) (by rw[h.len]; exact hps k hk)))
def dM {p:Pt}{ps:GD GP}{i:GP}(h:i < ps.length):(aL p ps).2.getD i 0=p.2.getD (ps.getD i 0) 0:=by
 unfold aL;rw[Hg,GV,aq (d:=0) h]; rfl
def oU {bs:GD G0}{u:Wd}{one other:Pt}{b:G0}{ps:GD GP}{i:GP}(h:i < ps.length):ib (ar bs u ps) (aL one ps) (aL other ps) b i=ib u one other b (ps.getD i 0):=by
 unfold ib;rw[eM h,dM h,dM h]; rfl
abbrev bh:Ss:=
 #v[.set 2 (.bi .list #v[.v 1]),.set 3 (.lst .nil),.whl (.cmp .ne (.v 2) (.lst .nil)) #v[.ex (.me .append (.v 3) #v[.me .pop (.v 2) #v[.own "_law_pick" 2 #v[.v 0,.bi .len #v[.v 2]]]])],.ret (.v 3)]
def zB {M:Hc->FF}{fuel:GP}{Z:Fm}{S:aa}{K:Fm->aa->Prop}{Q:QO}{tg:Tg}{a:E}{b:Ss}(xs:GD W)(I:GP->Fm->aa->Prop)(oa:dD a=true)(ok:gF b=true)(he:wE M a Z S λp=>EN p.1=gV xs/\I 0 Z p.2)
  (hstep:∀(i:GP) (x:W) (Z:Fm) (S:aa),xs[i]?=gV x->I i Z S->wO (fq tg (.tup [.int i,x]) Z S) λq=>zd M fuel b q.1 q.2 (I (i+1)) Q) (hend:∀Z S,I xs.length Z S->K Z S):Wp (fj M fuel (.loop tg (.enu #v[a]) b) Z S) (pM K Q):=by
 obtain⟨x,S1,e1,h1,h0⟩:=bW oa he;have hl:(iG xs).length=xs.length:=by simp[iG]
 show gG (mi:=.its (iG xs)) (S1:=S1) (xs:=iG xs) I ok (by simp only[jk,cL,dz,gY,u7,e1,h1]) (λ_ _ _ _=>rfl) rfl h0 (λi w Z S hw hI=>?_) λZ S hI=>hend Z S (hl ▸ hI)
 obtain⟨y,hy,rfl⟩:=jQ hw;exact hstep i y Z S hy hI
def Cq {S:aa}{i j:GP}{c:Hj}(h:ir S 20 (.ref i) (.ref j)=gV c):aJ .ne (.ref i) (.ref j) S=gV (.bl (!c),S):=by
 simp only[aJ,dB,rT,h,HA]
def Er {S:aa}{i j:GP}{xs:GD W}(h1:S[i]?=gV (.lst xs))(h2:S[j]?=gV (.lst [])):aJ .ne (.ref i) (.ref j) S=gV (.bl (!xs.isEmpty),S):=by
 show Cq ?_;simp only[ir,bR h1,bR h2];cases xs with
 | nil=>rfl
 | cons x xs=>rfl
abbrev bd (U:GD (T×W))(w:Wd):Hj:=(bT U (dy w)).isSome
abbrev Cl (bs:GD G0)(U:GD (T×W)):Prop:=∀(w:Wd) (t:GD GP),t∈ay->bd U w=true->bd U (ar bs w t)=true
def Et {bs:GD G0}{a:GP}{gs:GD Wd}{U:GD (T×W)}(hb:GoodB bs)(hgs:∀g∈gs,GoodW a bs.length g/\g.length=3)(h:HasD U (bH bs gs)):Cl bs U:=by
 intro w t ht hw;unfold bd at hw ⊢;rw[h.get,Hy]at hw ⊢;obtain⟨w',hw',e⟩:=Hi.mp hw;have e:=mW e;subst e;show Hi.mpr #[_,?_,rfl];unfold bH at hw' ⊢;obtain⟨g,hg,h⟩:=Iv.mp hw';obtain⟨s,hs,rfl⟩:=Hi.mp h;obtain⟨gg,g3⟩:=hgs g hg;obtain⟨s1,s2⟩:=iU.mp hs;show Iv.mpr #[g,hg,?_];rw[iT hb gg (by rw[g3]; exact s1) (by rw[s2]; exact(iU.mp ht).1)]
 have:∀s∈ay,∀t∈ay,(t.map λi=>s.getD i 0)∈ay:=by decide
 exact Hi.mpr #[_,this s hs t ht,rfl]
def lO {bs:GD G0}{u:Wd}{i j k:GP}(h1:i < j)(h2:j < k):bX u i j k=ar bs u [i,j,k]:=by
 have e1:bv bs u j i=(u.getD j (0,[])).2.getD i 0:=by unfold bv; rw[Ho h1]
 have e2:bv bs u k i=(u.getD k (0,[])).2.getD i 0:=by unfold bv; rw[Ho (Jt h1 h2)]
 have e3:bv bs u k j=(u.getD k (0,[])).2.getD j 0:=by unfold bv; rw[Ho h2]
 change _=[((u.getD i (0,[])).1,[]),((u.getD j (0,[])).1,[bv bs u j i]),((u.getD k (0,[])).1,[bv bs u k i,bv bs u k j])];rw[e1,e2,e3];rfl
def zC {bs:GD G0}{a:GP}{U:GD (T×W)}{u:Wd}{x y z:GP}(hb:GoodB bs)(cl:Cl bs U)(hu:GoodW a bs.length u)(hs:Std U u)(hO:Ord u.length [x,y,z]):bd U (ar bs u [x,y,z])=false:=by
 rw[Jd];intro h;have go:∀(i j k:GP) (t:GD GP),t∈ay->(t.map λi=>[x,y,z].getD i 0)=[i,j,k]->i < j->j < k->k < u.length->Iq:=λi j k t ht e h1 h2 h3=>by
  have:=cl _ t ht h;rw[iT hb hu hO (iU.mp ht).1,e,<- lO h1 h2]at this;have h4:=hs k h3 j h2 i h1;unfold bG at h4;unfold bd at this;rw[this]at h4; cases h4
 have lx:=hO.lt x (by simp)
 have ly:=hO.lt y (by simp)
 have lz:=hO.lt z (by simp)
 have nd:=hO.nd;simp only[IS,Hn,Ih,JX,OY]at nd;obtain⟨⟨n1,n2⟩,n3,_⟩:=nd;rcases J6 n1 with h1|h1
 ·rcases J6 n3 with h2|h2
  ·exact go x y z [0,1,2] #v[] rfl h1 h2 lz
  ·rcases J6 n2 with h3|h3
   ·exact go x z y [0,2,1] #v[] rfl h3 h2 ly
   ·exact go z x y [2,0,1] #v[] rfl h3 h1 ly
 ·rcases J6 n2 with h2|h2
  ·exact go y x z [1,0,2] #v[] rfl h1 h2 lz
  ·rcases J6 n3 with h3|h3
   ·exact go y z x [1,2,0] #v[] rfl h3 h2 lx
   ·exact go z y x [2,1,0] #v[] rfl h3 h1 lx
def p7 {ps:GD GP}(h:ps.Nodup){i j:GP}(hi:i < ps.length)(hj:j < ps.length)(e:ps.getD i 0=ps.getD j 0):i=j:=by
 rw[Hg,Hg,G1 hi,G1 hj]at e;exact(Ji h).mp e
def Std.part {bs:GD G0}{a:GP}{U:GD (T×W)}{u:Wd}{ps:GD GP}(hb:GoodB bs)(cl:Cl bs U)(hu:GoodW a bs.length u)(hs:Std U u)(hO:Ord u.length ps):Std U (ar bs u ps):=by
 intro k hk j hj i hi;rw[aT]at hk;have hO3:Ord ps.length [i,j,k]:=#[by simp only[IS,Hn,Ih,JX,OY]; exact#[#[∅,∅],∅,by simp],λp hp=>by
  simp only[Hn,Ih,JX]at hp;rcases hp with rfl|rfl|rfl <;> omega]
 change bd U (bX (ar bs u ps) i j k)=false;rw[lO (bs:=bs) hi hj,iT hb hu hO hO3];have gm:∀m,m < ps.length->ps.getD m 0∈ps:=λm hm=>G7 (aq (d:=0) hm)
 show zC hb cl hu hs #[?_,λp hp=>?_]
 ·simp only[IS,Hn,Ih,JX,OY];exact#[#[λe=>by have:=p7 hO.nd ∅ ∅ e; omega,λe=>by have:=p7 hO.nd ∅ ∅ e; omega],λe=>by have:=p7 hO.nd ∅ ∅ e; omega,by simp]
 ·simp only[Hn,Ih,JX]at hp;rcases hp with rfl|rfl|rfl <;> exact hO.lt _ (gm _ ∅)
def Std.both {U:GD (T×W)}{u:Wd}{p:Pt}:Std U (u++[p])↔Std U u/\b9 U u u.length p=true:=by
 constructor
 ·intro h;have:=h.last;rw[List.dropLast_concat,GJ,HB,M9,bK]at this;exact this
 ·rintro⟨h1,h2⟩;exact h1.snoc (m:=p.1) (to:=p.2) (bC.mp h2)
def wj {bs:GD G0}{u:Wd}{p:Pt}{ps:GD GP}(h:∀k∈ps,k < u.length):ar bs (u++[p]) ps=ar bs u ps:=by
 unfold ar;show Im λk hk=>?_
 have hk:=Hd.mp hk;have g1:=h _ (G7 (aq (d:=0) hk));rw[aD g1];congr 1;show Im λj hj=>?_
 have g2:=h j (JN hj);unfold bv;rw[aD g1,aD g2]
def sR {bs:GD G0}{u:Wd}{p:Pt}{ps:GD GP}(h:∀k∈ps,k < u.length):ar bs (u++[p]) (ps++[u.length])=ar bs u ps++[aL p ps]:=by
 rw[lI,wj h];congr 2;unfold rf aL;rw[bK];congr 1;show Im λj hj=>?_
 unfold bv;rw[Ho (h j hj),bK]
structure Cf (a n:GP)(U:GD (T×W))(u:Wd)(p q:Pt):Prop where
 gu:GoodW a n u
 su:Std U u
 gp:GoodP a n u.length p
 mp:b9 U u u.length p=true
 gq:GoodP a n u.length q
 mq:b9 U u u.length q=true
def GoodP.snoc {a n:GP}{u:Wd}{p:Pt}(hu:GoodW a n u)(h:GoodP a n u.length p):GoodW a n (u++[p]):=hu.snoc (m:=p.1) (ws:=p.2) h.mark h.len h.way
def zD {n:GP}{ps:GD GP}(h:Ord n ps):Ord (n+1) (ps++[n]):=#[by
 rw[Lz];exact#[h.nd,by simp,λx hx y hy e=>by
  rw[G6.mp hy]at e;have:=h.lt x hx; omega],λp hp=>by
 rcases Ht.mp hp with h1|h1
 ·have:=h.lt p h1; omega
 ·rw[G6.mp h1]; omega]
def Cf.part {bs:GD G0}{a:GP}{U:GD (T×W)}{u:Wd}{p q:Pt}{ps:GD GP}(hb:GoodB bs)(cl:Cl bs U)(h:Cf a bs.length U u p q)(hO:Ord u.length ps):Cf a bs.length U (ar bs u ps) (aL p ps) (aL q ps):=by
 have pl:(ar bs u ps).length=ps.length:=aT ..;have one:∀p:Pt,GoodP a bs.length u.length p->b9 U u u.length p=true->b9 U (ar bs u ps) (ar bs u ps).length (aL p ps)=true:=λp gp mp=>by
  have s1:Std U (u++[p]):=Std.both.mpr #[h.su,mp];have l1:(u++[p]).length=u.length+1:=by rw[GJ]; rfl
  have s2:=s1.part hb cl (gp.snoc h.gu) (ps:=ps++[u.length]) (by rw[l1]; exact zD hO)
  rw[sR hO.lt]at s2;exact(Std.both.mp s2).2
 exact#[iS hb h.gu hO.lt hO.nd,h.su.part hb cl h.gu hO,by rw[pl]; exact lN h.gp hO.lt,one p h.gp h.mp,by rw[pl]; exact lN h.gq hO.lt,one q h.gq h.mq]
abbrev bo (U:GD (T×W))(bs:GD G0)(u:Wd)(p q:Pt)(i:GP):Hj:=if i < bs.length then(G8 u.length).any λk=>bd U (ib u p q (bs.getD i 0) k)else !m5 p q u.length
abbrev Full (U:GD (T×W))(bs:GD G0)(c:GP)(u:Wd)(p q:Pt):Prop:=∀i < c,bo U bs u p q i=true
def dH {U:GD (T×W)}{bs:GD G0}{u:Wd}{p q:Pt}{i:GP}(hi:i < bs.length):bo U bs u p q i=true↔∃k < u.length,bd U (ib u p q (bs.getD i 0) k)=true:=by
 unfold bo;rw[Ho hi,K1];exact#[λ#[k,h1,h2]=>#[k,Hd.mp h1,h2],λ#[k,h1,h2]=>#[k,Hd.mpr h1,h2]]
def wm {p q:Pt}{s:GP}:m5 p q s=false↔p.1≠q.1\/∃k < s,p.2.getD k 0≠q.2.getD k 0:=by
 unfold m5;rw[Kc,Nz];constructor
 ·rintro(h|⟨k,h1,h2⟩)
  ·exact .inl (by simpa using h)
  ·exact .inr #[k,Hd.mp h1,by simpa using h2]
 ·rintro(h|⟨k,h1,h2⟩)
  ·exact .inl (by simpa using h)
  ·exact .inr #[k,Hd.mpr h1,by simpa using h2]
def fO {U:GD (T×W)}{bs:GD G0}{u:Wd}{p q:Pt}{i:GP}(hi:¬ i < bs.length):bo U bs u p q i=true↔p.1≠q.1\/∃k < u.length,p.2.getD k 0≠q.2.getD k 0:=by
 unfold bo;rw[HD hi,Jc,wm]
def rg {ps:GD GP}{k:GP}:(ps++[k]).getD ps.length 0=k:=by
 rw[Hg,HN (G3 _),J5]; rfl
def rh {ps:GD GP}{k:GP}(h:k∈ps):∃j < ps.length,ps.getD j 0=k:=by
 obtain⟨j,hj,e⟩:=K9 h;exact#[j,hj,by rw[Hg,G1 hj]; exact e]
def wn {U:GD (T×W)}{bs:GD G0}{u:Wd}{p q:Pt}{ps:GD GP}{i:GP}(h:bo U bs u p q i=true)(hn:bo U bs (ar bs u ps) (aL p ps) (aL q ps) i=false):∃k < u.length,k∉ps/\bo U bs (ar bs u (ps++[k])) (aL p (ps++[k])) (aL q (ps++[k])) i=true:=by
 have pl:∀ps,(ar bs u ps).length=ps.length:=λps=>aT ..
 have no:¬ bo U bs (ar bs u ps) (aL p ps) (aL q ps) i=true:=by rw[hn]; exact Hb
 have el:∀k,ps.length < (ps++[k]).length:=λk=>by rw[GJ,HB]; omega
 by_cases hi:i < bs.length
 ·rw[dH hi]at h no;obtain⟨k,hk,hb⟩:=h;show#[k,hk,λz=>?_,?_]
  ·obtain⟨j,hj,e⟩:=rh z;exact no #[j,by rw[pl]; exact hj,by rw[oU hj,e]; exact hb]
  ·rw[dH hi];exact#[ps.length,by rw[pl]; exact el k,by rw[oU (el k),rg]; exact hb]
 ·rw[fO hi]at h no;rcases h with h|⟨k,hk,hb⟩
  ·exact absurd (.inl h) no
  show#[k,hk,λz=>?_,?_]
  ·obtain⟨j,hj,e⟩:=rh z;exact no (.inr #[j,by rw[pl]; exact hj,by rw[dM hj,dM hj,e]; exact hb])
  ·rw[fO hi];exact .inr #[ps.length,by rw[pl]; exact el k,by rw[dM (el k),dM (el k),rg]; exact hb]
def wo {U:GD (T×W)}{bs:GD G0}{u:Wd}{p q x:Pt}{v w:G0}{i:GP}(hp:p.2.length=u.length)(hq:q.2.length=u.length)(h:bo U bs u p q i=true):bo U bs (u++[x]) (p.1,p.2++[v]) (q.1,q.2++[w]) i=true:=by
 have l1:(u++[x]).length=u.length+1:=by rw[GJ]; rfl
 by_cases hi:i < bs.length
 ·rw[dH hi]at h ⊢;obtain⟨k,hk,hb⟩:=h;show#[k,∅,?_]
  unfold ib at hb ⊢;dsimp only;rw[aD hk,aX ∅,aX ∅]
  exact hb
 ·rw[fO hi]at h ⊢;rcases h with h|⟨k,hk,hb⟩
  ·exact .inl h
  ·show .inr #[k,∅,?_]
   dsimp only;rw[aX ∅,aX ∅]
   exact hb
abbrev rj (U:GD (T×W))(bs:GD G0)(c:GP)(u:Wd)(p q:Pt):GP:=((G8 c).filter λi=>!bo U bs u p q i).length
def zE {c i:GP}{f g:GP->Hj}(hi:i < c)(h:∀j,f j=true->g j=true)(h1:f i=false)(h2:g i=true):((G8 c).filter λj=>!g j).length < ((G8 c).filter λj=>!f j).length:=by
 have e:(G8 c).filter (λj=>!g j)=((G8 c).filter λj=>!f j).filter λj=>!g j:=by
  rw[List.filter_filter];show List.filter_congr λj _=>?_
  cases hf:f j with
  | true=>rw[h j hf]; rfl
  | false=>simp
 rw[e];exact List.length_filter_lt_length_iff_exists.mpr #[i,IR.mpr #[Hd.mpr hi,by rw[h1]; rfl],by rw[h2]; exact Hb]
abbrev gM (U:GD (T×W))(v:Wd)(n:GP)(p:Pt):GD Pt:=((G8 n).map λ(w:GP)=>(p.1,p.2++[(w:G0)])).filter λh=>hX U (v++[h])
abbrev iW (U:GD (T×W))(a n:GP)(u:Wd)(p q:Pt):GD (Wd×Pt×Pt):=(ko U u a n).flatMap λx=>(gM U (u++[x]) n p).flatMap λh=>(gM U (u++[x]) n q).map λh'=>(u++[x],h,h')
def m6 {U:GD (T×W)}{u:Wd}{x p h:Pt}{n:GP}:h∈gM U (u++[x]) n p↔∃w:GP,w < n/\h=(p.1,p.2++[(w:G0)])/\∀i < u.length,bS U (u++[x]) h i u.length=false:=by
 have l1:(u++[x]).length=u.length+1:=by rw[GJ]; rfl
 have key:∀h:Pt,hX U (u++[x]++[h])=true↔∀i < u.length,bS U (u++[x]) h i u.length=false:=λh=>by
  rw[kw (s:=u.length) (by rw[GJ,l1]; rfl)]
  constructor <;> intro z i hi
  ·have:=z i hi;rw[<- l1,km hi ∅]at this; exact this
  ·rw[<- l1,km hi ∅]; exact z i hi
 unfold gM;rw[IR,key,Hi];exact#[λ#[#[w,hw,e],z]=>#[w,Hd.mp hw,e.symm,z],λ#[w,hw,e,z]=>#[#[w,Hd.mpr hw,e.symm],z]]
def Aq {U:GD (T×W)}{u:Wd}{x p h:Pt}{a n:GP}(gp:GoodP a n u.length p)(mp:b9 U u u.length p=true)(hh:h∈gM U (u++[x]) n p):GoodP a n (u++[x]).length h/\b9 U (u++[x]) (u++[x]).length h=true:=by
 have l1:(u++[x]).length=u.length+1:=by rw[GJ]; rfl
 obtain⟨w,hw,rfl,hb⟩:=m6.mp hh;have gl:=gp.len;show#[#[gp.mark,?_,λz hz=>?_],bC.mpr λq hq i hi=>?_]
 ·rw[l1,GJ,gl]; rfl
 ·rcases Ht.mp hz with z1|z1
  ·exact gp.way z z1
  ·rw[G6.mp z1]; omega
 ·by_cases e:q=u.length
  ·subst e; exact hb i hi
  ·have hq':q < u.length:=∅
   have:=bC.mp mp q hq' i hi;unfold bS at this ⊢;dsimp only;rw[aD (Jt hi hq'),aD hq',aX ∅,aX ∅]
   exact this
def zF {bs:GD G0}{U:GD (T×W)}{u:Wd}{p q:Pt}{a n:GP}{c:Wd×Pt×Pt}(h:Cf a n U u p q)(hc:c∈iW U a n u p q):Cf a n U c.1 c.2.1 c.2.2/\c.1.length=u.length+1/\∀i,bo U bs u p q i=true->bo U bs c.1 c.2.1 c.2.2 i=true:=by
 unfold iW at hc;obtain⟨x,hx,hc⟩:=Iv.mp hc;obtain⟨h1,hh1,hc⟩:=Iv.mp hc;obtain⟨h2,hh2,rfl⟩:=Hi.mp hc;obtain⟨g1,g2,g3,g4⟩:=kv.mp hx;obtain⟨p1,p2⟩:=Aq h.gp h.mp hh1;obtain⟨q1,q2⟩:=Aq h.gq h.mq hh2;show#[#[h.gu.snoc (m:=x.1) (ws:=x.2) g1 g2 g3,Std.both.mpr #[h.su,bC.mpr λj hj i hi=>g4 i j hi hj],p1,p2,q1,q2],by rw[GJ]; rfl,λi hi=>?_]
 obtain⟨w1,_,rfl,_⟩:=m6.mp hh1;obtain⟨w2,_,rfl,_⟩:=m6.mp hh2;exact wo h.gp.len h.gq.len hi
def sS {p:Pt}{ps:GD GP}{k:GP}:aL p (ps++[k])=((aL p ps).1,(aL p ps).2++[p.2.getD k 0]):=by
 unfold aL;rw[Hh]; rfl
def wp {bs:GD G0}{U:GD (T×W)}{u:Wd}{p q:Pt}{a:GP}{ps:GD GP}{k:GP}(hb:GoodB bs)(cl:Cl bs U)(h:Cf a bs.length U u p q)(hO:Ord u.length (ps++[k])):(ar bs u (ps++[k]),aL p (ps++[k]),aL q (ps++[k]))∈iW U a bs.length (ar bs u ps) (aL p ps) (aL q ps):=by
 have C:=h.part hb cl hO;have hk:k < u.length:=hO.lt k (by simp)
 rw[lI]at C ⊢;generalize rf bs u ps k=x at C;generalize ar bs u ps=v at C;have l1:(v++[x]).length=v.length+1:=by rw[GJ]; rfl
 have hx:(v++[x])[v.length]?=gV x:=by rw[HN (G3 _),J5]; rfl
 obtain⟨_,mx⟩:=Std.both.mp C.su;have one:∀r:Pt,GoodP a bs.length u.length r->b9 U (v++[x]) (v++[x]).length (aL r (ps++[k]))=true->aL r (ps++[k])∈gM U (v++[x]) bs.length (aL r ps):=λr gr mr=>by
  obtain⟨w0,w1⟩:=gr.way _ (G7 (aq (d:=0) (by rw[gr.len]; exact hk)))
  show m6.mpr #[(r.2.getD k 0).toNat,∅,?_,λi hi=>bC.mp mr v.length ∅ i hi]
  rw[sS,JU w0]
 unfold iW;show Iv.mpr #[x,kv.mpr #[C.gu.mark _ _ hx,C.gu.len _ _ hx,C.gu.way _ _ hx,λi j hi hj=>bC.mp mx j hj i hi],Iv.mpr #[_,one p h.gp C.mp,Hi.mpr #[_,one q h.gq C.mq,rfl]]]
abbrev Sub (bs:GD G0)(Uq:Wd)(P Q:Pt)(u:Wd)(p q:Pt):Prop:=∃ps,Ord Uq.length ps/\u=ar bs Uq ps/\p=aL P ps/\q=aL Q ps
abbrev fP (a:GP)(bs:GD G0)(U:GD (T×W))(c:GP)(u:Wd)(p q:Pt):Prop:=∀Uq P Q,Cf a bs.length U Uq P Q->Full U bs c Uq P Q->¬ Sub bs Uq P Q u p q
def Cr {bs:GD G0}{U:GD (T×W)}{u:Wd}{p q:Pt}{a c i:GP}(hb:GoodB bs)(cl:Cl bs U)(hi:i < c)(hn:bo U bs u p q i=false)(h:∀x∈iW U a bs.length u p q,bo U bs x.1 x.2.1 x.2.2 i=true->fP a bs U c x.1 x.2.1 x.2.2):fP a bs U c u p q:=by
 rintro Uq P Q hC hF ⟨ps,hO,rfl,rfl,rfl⟩;obtain⟨k,hk,hkp,hh⟩:=wn (hF i hi) hn;have hO':Ord Uq.length (ps++[k]):=#[by
  rw[Lz];exact#[hO.nd,by simp,λx hx y hy e=>by rw[G6.mp hy]at e; exact hkp (e ▸ hx)],λx hx=>by
  rcases Ht.mp hx with h1|h1
  ·exact hO.lt x h1
  ·rw[G6.mp h1]; exact hk]
 exact h _ (wp hb cl hC hO') hh Uq P Q hC hF #[_,hO',rfl,rfl,rfl]
def sT {bs:GD G0}{u:Wd}{one other:Pt}{b:G0}{p:GP}:ar bs (ib u one other b p) [0,2,1]=ib u other one (bs.getD b.toNat 0) p:=rfl
def Full.turn {bs:GD G0}{U:GD (T×W)}{u:Wd}{p q:Pt}{c:GP}(hb:GoodB bs)(cl:Cl bs U)(hc:bs.length<=c)(h:Full U bs c u p q):Full U bs c u q p:=by
 intro i hi
 by_cases hn:i < bs.length
 ·obtain⟨b,hb1,hb2,hb3⟩:=hb.rng i hn;have hj:(bs.getD i 0).toNat < bs.length:=by rw[getD_some hb1]; omega
  obtain⟨k,hk,hh⟩:=(dH hj).mp (h _ (Hr hj hc));rw[hb.inv i hn]at hh;show(dH hn).mpr #[k,hk,?_];have:=cl _ [0,2,1] #v[] hh
  rw[sT,Ha]at this;exact this
 ·show(fO hn).mpr ?_;rcases(fO hn).mp (h i hi)with z|⟨k,hk,z⟩
  ·exact .inl λe=>z e.symm
  ·exact .inr #[k,hk,λe=>z e.symm]
def Cf.turn {a n:GP}{U:GD (T×W)}{u:Wd}{p q:Pt}(h:Cf a n U u p q):Cf a n U u q p:=#[h.gu,h.su,h.gq,h.mq,h.gp,h.mp]
def zG {bs:GD G0}{Uq:Wd}{P Q:Pt}:Sub bs Uq P Q [] (P.1,[]) (Q.1,[]):=#[[],#[.nil,λ_ h=>nomatch h],rfl,rfl,rfl]
abbrev Gg (a:GP)(bs:GD G0)(U:GD (T×W))(c:GP):Prop:=∃Uq P Q,Cf a bs.length U Uq P Q/\Full U bs c Uq P Q
def Eu {bs:GD G0}{U:GD (T×W)}{a c:GP}(hb:GoodB bs)(cl:Cl bs U)(hc:bs.length<=c)(h:∀i j:GP,i < a->i<=j->j < a->fP a bs U c [] ((i:G0),[]) ((j:G0),[])):¬ Gg a bs U c:=by
 rintro⟨Uq,P,Q,hC,hF⟩;have go:∀P Q:Pt,Cf a bs.length U Uq P Q->Full U bs c Uq P Q->P.1<=Q.1->Iq:=λP Q hC hF hle=>by
  obtain⟨p0,p1⟩:=hC.gp.mark;obtain⟨q0,q1⟩:=hC.gq.mark;have:=h P.1.toNat Q.1.toNat ∅ ∅ ∅ Uq P Q hC hF
  rw[JU p0,JU q0]at this;exact this zG
 rcases Int.le_total P.1 Q.1 with hle|hle
 ·exact go P Q hC hF hle
 ·exact go Q P hC.turn (hF.turn hb cl hc) hle
abbrev bx:Ss:=
 #v[.set 4 (.comp (.tup #v[.ix (.v 2) (.c (.int 0)),.op .add (.ix (.v 2) (.c (.int 1))) (.tup #v[.v 1])]) (.nm 1) (.rng #v[.bi .len #v[.ix (.v 0) (.c (.int 1))]]) .nil [td,td,gV 3]),.ret (.comp (.v 1) (.nm 1) (.seq (.v 4)) #v[.cmp .is (.own "first_bar" 2 #v[.v 2,.op .add (.v 3) (.tup #v[.v 1])]) (.c .non)] [td,td,gV 1,gV 2])]
abbrev bD:Ss:=
 #v[.set 3 (.lst .nil),.loop (.nm 4) (.seq (.own "wishes_over" 3 #v[.v 0,.v 1,.ix (.v 2) (.c (.int 0))])) #v[.set 5 (.op .add (.ix (.v 2) (.c (.int 0))) (.tup #v[.v 4])),.set 6 (.own "longer_by_a_way" 4 #v[.v 0,.v 1,.v 5,.ix (.v 2) (.c (.int 2))]),.loop (.nm 7) (.seq (.own "longer_by_a_way" 4 #v[.v 0,.v 1,.v 5,.ix (.v 2) (.c (.int 1))])) #v[.ex (.me .extend (.v 3) #v[.comp (.tup #v[.v 2,.v 3,.v 1]) (.nm 1) (.seq (.v 6)) .nil [td,td,gV 5,gV 7]])]],.ret (.v 3)]
abbrev cW (c:Wd×Pt×Pt):W:=.tup [ak c.1,ag c.2.1,ag c.2.2]
def m7 {U:GD (T×W)}{v:Wd}{n:GP}{p:Pt}:(gM U v n p).length<=n:=by
 unfold gM;exact Hs (IP _ _) (by rw[GF,Hq]; exact G3 _)
def ie {α β:Type}{m:GP}{F:α->GD β}(h:∀x,(F x).length<=m):∀xs:GD α,(xs.flatMap F).length<=xs.length*m
 | []=>by simp
 | x::xs=>by
  rw[JO,GJ,HK,Nat.add_mul,Nat.one_mul];have:=ie h xs;have:=h x;omega
def wq {U:GD (T×W)}{u:Wd}{a n:GP}(ha:a<=3)(hn:n<=3)(hu:u.length<=3):(ko U u a n).length<=81:=by
 have h1:n ^ u.length<=27:=Hs (MQ hn _) (MC (n:=3) #v[] hu)
 have:=ie (F:=λ(m:GP)=>cF U u n (m:G0) u.length) (λm=>Hs (eL u.length) h1) (G8 a)
 rw[Hq]at this;exact Hs this ∅
section
variable{defs:GD (Hc×Df)}{fuel d:GP}{S:aa}{Q:QW}
def wt (h3:Is defs ("three_at" : Hc) 4 6 aW)(hfb:Is defs ("first_bar" : Hc) 2 4 aS)(hg:Is defs ("longer_by_a_way" : Hc) 4 5 bx){m0 b0:W}{N:GD W}{a n q:GP}{v:Wd}{p:Pt}{U:GD (T×W)}(hN:N.length=n)(hn3:n<=3)(hv:GoodW a n v)(hv1:1<=v.length)(hvl:v.length<=10)(hp0:0<=p.1/\p.1 < a)(hpl:p.2.length+1=v.length)(hpw:∀w∈p.2,0<=w/\w < (n:G0))(e:S[q]?=gV (.dic U))
  (k:∀(l:GP) S',S'[l]?=gV (.lst ((gM U v n p).map ag))->S.length<=l->Ka S S'->Q (.ref l,S')) :
  wO (aE (am defs fuel (d+3)) "longer_by_a_way" 4 [.tup [m0,.tup N,b0],.ref q,ak v,ag p] S) Q:=by
 show ap hg rfl rfl λQ' hR=>?_
 replace k:∀(l:GP) S',S'[l]?=gV (.lst ((gM U v n p).map ag))->S.length<=l->Ka S S'->Q' (.rt (.ref l),S'):=λl S' a b c=>hR _ _ (k l S' a b c)
 clear hR;change wZ _ _ bx [gV (.tup [m0,.tup N,b0]),gV (.ref q),gV (ak v),gV (ag p),td] S Q';dsimp only[bx];show st ?_;dsimp only[wS,wE,G2];show mZ n (λ_=>true) (λ(w:GP)=>ag (p.1,p.2++[(w:G0)])) [gV (ag p)] rfl rfl rfl rfl ∅ ?_ (λw hw S2 k2=>?_) λS2 k2=>?_
 ·dsimp only[wE,wA,wV,wG];show ac #v[] rfl (az ?_)
  rw[hN];exact#[rfl,.refl]
 ·dsimp only[fm,wC,wE,wA,wV,wG];show#[λ_=>?_,λz=>by cases z]
  show ac #v[] rfl (ac #v[] rfl ?_)
  show ab (aP (cH (by rw[GJ,GF]; show _+1<=_; omega))) ?_
  show#[rfl,?_,.refl];unfold ag;dsimp only;rw[Hh]; rfl
 ·rw[bO];show st ?_;dsimp only[wS,wE];have em:((G8 n).map λ(w:GP)=>ag (p.1,p.2++[(w:G0)]))=(((G8 n).map λ(w:GP)=>((p.1,p.2++[(w:G0)]):Pt)).map ag):=by rw[IG]; rfl
  rw[em];show kj ((G8 n).map λ(w:GP)=>((p.1,p.2++[(w:G0)]):Pt)) ag (λh=>hX U (v++[h])) ag [gV (.ref q),gV (ak v)] rfl rfl rfl rfl (by rw[GF,Hq]; omega) #[_,rfl,aj,.refl] (λh hh S3 k3=>?_) λS3 k3=>?_
  ·obtain⟨w,hw,rfl⟩:=Hi.mp hh;have hw:=Hd.mp hw;have gv:GoodW a n (v++[(p.1,p.2++[(w:G0)])]):=hv.snoc hp0 (by rw[GJ]; exact hpl) λx hx=>by
    rcases Ht.mp hx with z|z
    ·exact hpw x z
    ·rw[G6.mp z]; omega
   generalize((p.1,p.2++[(w:G0)]):Pt)=h at gv;have vl:(v++[h]).length=v.length+1:=by rw[GJ]; rfl
   dsimp only[fm,wC,wT,wE,wA,wV,wG,ak];have ev:v.map ag++[ag h]=(v++[h]).map ag:=by rw[Hh]; rfl
   show ab (aP (cH (by rw[ev,GF]; omega))) ?_
   dsimp only;rw[ev];have fb:=λ(Q:QW)=>jc (fuel:=fuel) (d:=d) (Q:=Q) h3 hfb gv ∅ ∅ ((k2.trans (Ka.push.trans k3)).get _ _ e)
   unfold ak at fb;show fb _ λz hz=>?_
   rcases hz with⟨rfl,hz⟩|⟨i,rfl,hz⟩
   ·show ab (show aJ .is .non .non S3=gV (.bl true,S3)from rfl) ?_
    dsimp only[wB];exact#[λ_=>#[hz,rfl,.refl],λz=>by cases z]
   ·show ab (show aJ .is (.int i) .non S3=gV (.bl false,S3)from rfl) ?_
    dsimp only[wB];exact#[λz=>(by cases z),λ_=>#[hz,.refl]]
  ·show k _ _ aj ?_ ((k2.trans (Ka.push.trans k3)).trans .push);have:=(k2.trans (Ka.push.trans k3)).len;exact this
structure Sea (defs:GD (Hc×Df)):Prop where
 three:Is defs ("three_at" : Hc) 4 6 aW
 fbar:Is defs ("first_bar" : Hc) 2 4 aS
 lwish:Is defs ("longer_wishes" : Hc) 2 5 br
 wover:Is defs ("wishes_over" : Hc) 3 7 cq
 byway:Is defs ("longer_by_a_way" : Hc) 4 5 bx
 bypt:Is defs ("longer_by_a_point" : Hc) 3 8 bD
def p8 (X:Sea defs){Mqa N:GD W}{b0:W}{a n q:GP}{u:Wd}{p r:Pt}{U:GD (T×W)}(hM:Mqa.length=a)(hN:N.length=n)(ha3:a<=3)(hn3:n<=3)(hC:Cf a n U u p r)(hul:u.length<=3)(e:S[q]?=gV (.dic U))
  (k:∀(l:GP) S',S'[l]?=gV (.lst ((iW U a n u p r).map cW))->S.length<=l->Ka S S'->Q (.ref l,S')) :
  wO (aE (am defs fuel (d+4)) "longer_by_a_point" 3 [.tup [.tup Mqa,.tup N,b0],.ref q,.tup [ak u,ag p,ag r]] S) Q:=by
 show ap X.bypt rfl rfl λQ' hR=>?_
 replace k:∀(l:GP) S',S'[l]?=gV (.lst ((iW U a n u p r).map cW))->S.length<=l->Ka S S'->Q' (.rt (.ref l),S'):=λl S' a b c=>hR _ _ (k l S' a b c)
 clear hR;change wZ _ _ bD [gV (.tup [.tup Mqa,.tup N,b0]),gV (.ref q),gV (.tup [ak u,ag p,ag r]),td,td,td,td,td] S Q';have wl:=wq (U:=U) (u:=u) ha3 hn3 hul;have ww:=λ(S:aa) (Q:QW) e=>kL (defs:=defs) (fuel:=fuel) (d:=d) (S:=S) (Q:=Q) (Mqa:=Mqa) (N:=N) (b0:=b0) (q:=q) X.three X.fbar X.lwish X.wover hM hN ha3 hn3 hC.gu (Hs hul #v[]) (U:=U) e
 have bw:=λ(v:Wd) (p:Pt) (S:aa) (Q:QW) hv hv1 hvl hp0 hpl hpw e=>wt (defs:=defs) (fuel:=fuel) (d:=d) (S:=S) (Q:=Q) (m0:=.tup Mqa) (N:=N) (b0:=b0) (q:=q) (a:=a) (n:=n) (U:=U) (v:=v) (p:=p) X.three X.fbar X.byway hN hn3 hv hv1 hvl hp0 hpl hpw e
 generalize W.tup [.tup Mqa,.tup N,b0]=R at ww bw;have hF:∀x:Pt,((gM U (u++[x]) n p).flatMap λh=>(gM U (u++[x]) n r).map λh'=>(u++[x],h,h')).length<=9:=λx=>by
  have h1:=ie (F:=λh=>(gM U (u++[x]) n r).map λh'=>(u++[x],h,h')) (m:=3) (λh=>by rw[GF]; exact Hs m7 hn3) (gM U (u++[x]) n p)
  have h2:=m7 (U:=U) (v:=u++[x]) (n:=n) (p:=p);omega
 unfold iW at k;generalize hwF:ko U u a n=ws at k wl ww;dsimp only[bD];show st ?_;dsimp only[wS,wE,wA,G2];nofun
 show eI rfl rfl ?_;dsimp only[wE,wA,wV,wG];show ac #v[] rfl (ww _ _ (aw e) λt S2 e2 ht k2=>?_)
 have hSt:S.length < t:=by
  have h1:(S++[O.lst []]).length=S.length+1:=by simp
  have h2:(S++[O.lst []]).length<=t:=ht;omega
 show#[t,ws.map ag,λi Z S'=>(∃a4 a5 a6 a7,Z=[gV R,gV (.ref q),gV (.tup [ak u,ag p,ag r]),gV (.ref S.length),a4,a5,a6,a7])/\S'[S.length]?=gV (.lst (((ws.take i).flatMap λx=>(gM U (u++[x]) n p).flatMap λh=>(gM U (u++[x]) n r).map λh'=>(u++[x],h,h')).map cW))/\S'[t]?=gV (.lst (ws.map ag))/\Ka S S',rfl,#[#[_,_,_,_,rfl],k2.get _ _ aj,e2,Ka.push.trans k2],λ_ _ _ h=>h.2.2.1,?_,?_]
 ·rintro i w Z S3 hw ⟨⟨a4,a5,a6,a7,rfl⟩,e3,t3,k3⟩;clear hK;rw[GV,GM]at hw;obtain⟨x,hx,rfl⟩:=hw;have hxm:=G7 hx;rw[<- hwF]at hxm;obtain⟨g1,g2,g3,_⟩:=kv.mp hxm;have gv:GoodW a n (u++[x]):=hC.gu.snoc (m:=x.1) (ws:=x.2) g1 g2 g3;have vl:(u++[x]).length=u.length+1:=by rw[GJ]; rfl
  have hil:i < ws.length:=(G5.mp hx).1;show ab (show fq (.nm 4) (ag x) [gV R,gV (.ref q),gV (.tup [ak u,ag p,ag r]),gV (.ref S.length),a4,a5,a6,a7] S3=gV ([gV R,gV (.ref q),gV (.tup [ak u,ag p,ag r]),gV (.ref S.length),gV (ag x),a5,a6,a7],S3)from rfl) ?_
  intro Q3 hn _;show st ?_;left;show ac #v[] rfl ?_
  dsimp only[ak];have ev:u.map ag++[ag x]=(u++[x]).map ag:=by rw[Hh]; rfl
  show ab (aP (cH (by rw[ev,GF]; omega))) ?_
  dsimp only;rw[ev];have hs:∀xs:Wd,W.tup (xs.map ag)=ak xs:=λ_=>rfl
  rw[hs,hs];show st ?_;left;show ac #v[] rfl (bw (u++[x]) r _ _ gv ∅ ∅ hC.gq.mark (by rw[hC.gq.len,vl]) hC.gq.way (k3.get _ _ e) λt6 S4 e6 ht6 k4=>?_)
  have t4:=k4.get _ _ t3;have e4:=k4.get _ _ e3;have hS3:=cj t3;nofun
  show eI rfl rfl ?_;dsimp only[wE,wA,wV,wG];show ac #v[] rfl (bw (u++[x]) p _ _ gv ∅ ∅ hC.gp.mark (by rw[hC.gp.len,vl]) hC.gp.way ((k3.trans k4).get _ _ e) λt7 S5 e7 ht7 k5=>?_)
  have lp:=m7 (U:=U) (v:=u++[x]) (n:=n) (p:=p);have lr:=m7 (U:=U) (v:=u++[x]) (n:=n) (p:=r);have hF':=hF x;have eD:ws.take (i+1)=ws.take i++[x]:=by rw[HJ,hx]; rfl
  have fl:=ie (F:=λx=>(gM U (u++[x]) n p).flatMap λh=>(gM U (u++[x]) n r).map λh'=>(u++[x],h,h')) hF (ws.take i)
  rw[Hm]at fl;have h46:=cj e6;have h4:S.length < t6:=by have:S3.length<=t6:=ht6; omega
  have h7:S.length < t7:=by have:S4.length<=t7:=ht7; have:=k4.len; omega
  show#[t7,(gM U (u++[x]) n p).map ag,λj Z S'=>(∃a7,Z=[gV R,gV (.ref q),gV (.tup [ak u,ag p,ag r]),gV (.ref S.length),gV (ag x),gV (ak (u++[x])),gV (.ref t6),a7])/\S'[S.length]?=gV (.lst (((ws.take i).flatMap (λx=>(gM U (u++[x]) n p).flatMap λh=>(gM U (u++[x]) n r).map λh'=>(u++[x],h,h'))++((gM U (u++[x]) n p).take j).flatMap λh=>(gM U (u++[x]) n r).map λh'=>(u++[x],h,h')).map cW))/\S'[t7]?=gV (.lst ((gM U (u++[x]) n p).map ag))/\S'[t6]?=gV (.lst ((gM U (u++[x]) n r).map ag))/\S'[t]?=gV (.lst (ws.map ag))/\Ka S S',rfl,#[#[_,rfl],by rw[MB,NX,Iy]; exact k5.get _ _ e4,e7,k5.get _ _ e6,k5.get _ _ t4,(k3.trans k4).trans k5],λ_ _ _ h=>h.2.2.1,?_,?_]
  ·rintro j w Z S6 hw ⟨⟨a7,rfl⟩,e8,f7,f6,ft,k8⟩;clear hK hn;rw[GV,GM]at hw;obtain⟨h,hh,rfl⟩:=hw;have hjl:j < (gM U (u++[x]) n p).length:=(G5.mp hh).1;show ab (show fq (.nm 7) (ag h) [gV R,gV (.ref q),gV (.tup [ak u,ag p,ag r]),gV (.ref S.length),gV (ag x),gV (ak (u++[x])),gV (.ref t6),a7] S6=gV ([gV R,gV (.ref q),gV (.tup [ak u,ag p,ag r]),gV (.ref S.length),gV (ag x),gV (ak (u++[x])),gV (.ref t6),gV (ag h)],S6)from rfl) ?_
   intro Q4 hn4 _;show st ?_;left;show#[da e8,?_];show kj (gM U (u++[x]) n r) ag (λ_=>true) (λh'=>cW (u++[x],h,h')) [gV (ak (u++[x])),gV (ag h)] rfl rfl rfl rfl ∅ #[t6,rfl,f6,.refl] (λh' _ S7 k7=>?_) λS7 k7=>?_
   ·dsimp only[fm,wC,wE,wA,wV,wG];exact#[λ_=>#[rfl,rfl,.refl],λz=>by cases z]
   ·rw[bO];have kk:=k7.trans (Ka.push (o:=O.lst ((gM U (u++[x]) n r).map λh'=>cW (u++[x],h,h'))))
    have gl:=ie (F:=λh=>(gM U (u++[x]) n r).map λh'=>(u++[x],h,h')) (m:=3) (λh=>by rw[GF]; omega) ((gM U (u++[x]) n p).take j)
    rw[Hm]at gl;show El (kk.get _ _ e8) aj ?_ (aN (hn4 _ _ #[#[_,rfl],?_,?_,?_,?_,(k8.trans kk).late (G3 _)]))
    ·rw[GF,GJ,GF];omega
    ·rw[bV (kk.get _ _ e8),HJ,hh];simp[Jr,Hh,cW,KP]
    ·rw[cf ∅]; exact kk.get _ _ f7
    ·rw[cf ∅]; exact kk.get _ _ f6
    ·rw[cf ∅]; exact kk.get _ _ ft
  ·rintro Z S6 ⟨⟨a7,rfl⟩,e8,f7,f6,ft,k8⟩;rw[GF,HP]at e8;show hK _ _ (aN (hn _ _ #[#[_,_,_,_,rfl],?_,ft,k8]));rw[eD,Jr,List.flatMap_singleton];exact e8
 ·rintro Z S3 ⟨⟨a4,a5,a6,a7,rfl⟩,e3,t3,k3⟩;rw[GF,HP]at e3;show hK _ _ (st ?_);dsimp only[wS,wE,wV,wG];exact k _ _ e3 (G3 _) k3
end
abbrev bz:Ss:=
 #v[.set 4 (.sl (.own "all_bars" 5 #v[.v 0,.v 1,.ix (.v 2) (.c (.int 0)),.ix (.v 2) (.c (.int 1)),.ix (.v 2) (.c (.int 2))]) .no (.yes (.v 3))),.ite (.cmp .notin (.c .non) (.v 4)) #v[.ret (.v 2)] .nil,.set 5 (.me .index (.v 4) #v[.c .non]),.loop (.nm 6) (.seq (.own "longer_by_a_point" 3 #v[.v 0,.v 1,.v 2])) #v[.ite (.cmp .isnot (.ix (.own "all_bars" 5 #v[.v 0,.v 1,.ix (.v 6) (.c (.int 0)),.ix (.v 6) (.c (.int 1)),.ix (.v 6) (.c (.int 2))]) (.v 5)) (.c .non)) #v[.set 7 (.own "unfilled_behind" 4 #v[.v 0,.v 1,.v 6,.v 3]),.ite (.cmp .isnot (.v 7) (.c .non)) #v[.ret (.v 7)] .nil] .nil],.ret (.c .non)]
abbrev cb:Ss:=
 #v[.set 2 (.own "barred_threes" 1 #v[.v 0]),.loop (.nm 3) (.rng #v[.bi .len #v[.ix (.v 0) (.c (.int 0))]]) #v[.loop (.nm 4) (.rng2 #v[.v 3,.bi .len #v[.ix (.v 0) (.c (.int 0))]]) #v[.set 5 (.own "unfilled_behind" 4 #v[.v 0,.v 2,.tup #v[.tup .nil,.tup #v[.v 3,.tup .nil],.tup #v[.v 4,.tup .nil]],.v 1]),.ite (.cmp .isnot (.v 5) (.c .non)) #v[.ret (.v 5)] .nil]],.ret (.c .non)]
abbrev ig:Ss:=
 #v[.ret (.own "first_unfilled" 2 #v[.v 0,.op .add (.bi .len #v[.ix (.v 0) (.c (.int 1))]) (.c (.int 1))])]
def kA {U:GD (T×W)}{bs:GD G0}{a k:GP}{u:Wd}{p q:Pt}{i:GP}(h1:GoodP a k u.length p)(h2:GoodP a k u.length q)(hi:i<=bs.length):∃w,(dZ (λv p=>bG U v p u.length (u.length+1)) bs u p q)[i]?=gV w/\NI w/\CH w = !bo U bs u p q i:=by
 by_cases hn:i < bs.length
 ·show#[bQ (λk=>bG U (cG bs u p q i) k u.length (u.length+1)) u.length,?_,jd _ _,?_]
  ·unfold dZ;rw[HC (by rw[GF,Hq]; exact hn),GV,Jf hn]; rfl
  ·unfold bo;rw[Ho hn,lL,List.not_any_eq_all_not];rw[Jp,Hk,Hk];have key:∀k∈G8 u.length,bG U (cG bs u p q i) k u.length (u.length+1)=bd U (ib u p q (bs.getD i 0) k):=λk hk=>by
    unfold bG bd;rw[p5 h1 h2 (Hd.mp hk)]
   exact#[λh k hk=>by rw[<- key k hk]; exact h k hk,λh k hk=>by rw[key k hk]; exact h k hk]
 ·obtain rfl:i=bs.length:=∅
  show#[hZ p q,?_,pY _ _,?_]
  ·unfold dZ;rw[HN (by rw[GF,Hq]; exact G3 _),GF,Hq,J5]; rfl
  ·unfold bo;rw[HD hn,NG];unfold hZ m5
   by_cases e:p.1=q.1
   ·rw[Ho e,lL,h1.len,e,Ip,Kv];congr 1
    funext p
    rw[NG]
   ·rw[HD e,show(p.1==q.1)=false by simpa using e]; rfl
def m8 {w:W}(h:NI w):nC w .non=CH w:=by
 rcases h with rfl|⟨i,rfl⟩ <;> rfl
def lP {Yq:GD W}{c:GP}{f:GP->Hj}(hl:Yq.length=c)(h:∀i < c,∃w,Yq[i]?=gV w/\NI w/\CH w = !f i):(∀w∈Yq,NI w)/\(((Yq.any λz=>nC z .non)=false/\∀i < c,f i=true)\/∃i < c,(Yq.any λz=>nC z .non)=true/\(Yq.findIdx? λz=>nC z .non)=gV i/\f i=false/\∀j < i,f j=true):=by
 have ni:∀w∈Yq,NI w:=λw hw=>by
  obtain⟨i,hi,e⟩:=K9 hw;obtain⟨w',h1,h2,_⟩:=h i ∅
  rw[G1 hi,e]at h1;cases h1; exact h2
 show#[ni,?_];cases hf:Yq.findIdx? λz=>nC z .non with
 | none=>
  rw[List.findIdx?_eq_none_iff]at hf;show .inl #[NF.mpr λx hx=>by rw[hf x hx]; exact Hb,λi hi=>?_]
  obtain⟨w,h1,h2,h3⟩:=h i hi;have:=hf w (G7 h1);rw[m8 h2,h3]at this
  simpa using this
 | some i=>
  obtain⟨hi,h1,h0⟩:=JF.mp hf;obtain⟨w,h2,h3,h4⟩:=h i ∅
  rw[G1 hi]at h2;cases h2;rw[m8 h3,h4]at h1;show .inr #[i,∅,K1.mpr #[_,HW hi,by rw[m8 h3,h4]; exact h1],rfl,by simpa using h1,λj hj=>?_]
  obtain⟨w,w2,w3,w4⟩:=h j ∅
  have:=h0 j hj;rw[G1 ∅]at w2
  cases w2;rw[m8 w3,w4]at this
  simpa using this
def rm {Yq:GD W}(h:∀w∈Yq,NI w):Yq.all bU=true:=Hk.mpr λw hw=>by
 rcases h w hw with rfl|⟨i,rfl⟩ <;> rfl
def oV {S:aa}{Yq:GD W}(h:∀w∈Yq,NI w):aJ .notin .non (.tup Yq) S=gV (.bl (!(Yq.any λz=>nC z .non)),S):=by
 have hf:(bU .non&&Yq.all bU)=true:=by rw[rm h]; rfl
 simp only[aJ,dB,rT,Bl,fA,hf,J1,HA]
def wu {S:aa}{w:W}(h:NI w):aJ .isnot w .non S=gV (.bl (!CH w),S):=by
 rcases h with rfl|⟨i,rfl⟩ <;> rfl
def zH {S:aa}{Yq:GD W}{i:GP}{Q:QW}(h:∀w∈Yq,NI w)(hi:(Yq.findIdx? λz=>nC z .non)=gV i)(q:Q (.int (i:G0),S)):wO (Me.index.fn (.tup Yq) [.non] S) Q:=by
 show ab ?_ q;change gS (.tup Yq) [.non] S=_;simp only[gS,rm h,J1,hi,HA]
abbrev en (U:GD (T×W))(bs:GD G0)(a c:GP):GP->Wd×Pt×Pt->GN (Wd×Pt×Pt)
 | 0,x=>match (G8 c).find? λi=>!bo U bs x.1 x.2.1 x.2.2 i with
  | none=>gV x
  | some _=>td
 | m+1,x=>match (G8 c).find? λi=>!bo U bs x.1 x.2.1 x.2.2 i with
  | none=>gV x
  | some i=>(iW U a bs.length x.1 x.2.1 x.2.2).findSome? λy=>if bo U bs y.1 y.2.1 y.2.2 i then en U bs a c m y else td
abbrev Ev:GN (Wd×Pt×Pt)->W
 | none=>.non
 | some x=>cW x
def oW {U:GD (T×W)}{bs:GD G0}{a c m:GP}{u:Wd}{p r:Pt}(h:∀i < c,bo U bs u p r i=true):en U bs a c m (u,p,r)=gV (u,p,r):=by
 have e:((G8 c).find? λi=>!bo U bs u p r i)=td:=JC.mpr λi hi=>by rw[h i (Hd.mp hi)]; exact Hb
 cases m <;> (unfold en; dsimp only; rw[e])
def wx {U:GD (T×W)}{bs:GD G0}{a c m i:GP}{u:Wd}{p r:Pt}(hi:i < c)(h:bo U bs u p r i=false)(h0:∀j < i,bo U bs u p r j=true):en U bs a c (m+1) (u,p,r)=(iW U a bs.length u p r).findSome? λy=>if bo U bs y.1 y.2.1 y.2.2 i then en U bs a c m y else td:=by
 have e:((G8 c).find? λi=>!bo U bs u p r i)=gV i:=gK (P:=λi=>!bo U bs u p r i) hi (by rw[h]; rfl) λj hj=>by rw[h0 j hj]; rfl
 rw[en];dsimp only;rw[e]
def zI {α β:Type}{L:GD α}{G:α->GN β}{j:GP}{x:α}{z:β}(hx:L[j]?=gV x)(h0:∀y∈L.take j,G y=td)(h1:G x=gV z):L.findSome? G=gV z:=by
 obtain⟨hj,e⟩:=G5.mp hx;have:L=L.take j++x::L.drop (j+1):=by
  conv=>lhs; rw[<- Kd j L]
  rw[List.drop_eq_getElem_cons hj,e]
 rw[this,List.findSome?_append,Ll.mpr h0,List.findSome?_cons,h1]; rfl
abbrev Gh (a:GP)(bs:GD G0)(U:GD (T×W))(c:GP)(u:Wd)(p q:Pt)(w:W):Prop:=(w=.non/\fP a bs U c u p q)\/∃x:Wd×Pt×Pt,w=cW x/\Cf a bs.length U x.1 x.2.1 x.2.2/\Full U bs c x.1 x.2.1 x.2.2/\x.1.length<=c
section
variable{defs:GD (Hc×Df)}{fuel:GP}
def p9 (F:Fil defs)(X:Sea defs)(hg:Is defs ("unfilled_behind" : Hc) 4 8 bz){ms:GD W}{b0:W}{ns:GD Hc}{bs:GD G0}{a q c:GP}{U:GD (T×W)}(hb:GoodB bs)(hnl:ns.length=bs.length)(hml:ms.length=a)(ha3:a<=3)(cl:Cl bs U)(hc1:c<=bs.length+1) :
  ∀(m d:GP) (S:aa) (Q:QW) (u:Wd) (p r:Pt),Cf a bs.length U u p r->rj U bs c u p r<=m->u.length+m<=c->S[q]?=gV (.dic U)->(∀w S',Gh a bs U c u p r w->w=Ev (en U bs a c m (u,p,r))->Ka S S'->Q (w,S'))->
  wO (aE (am defs fuel (d+m+5)) "unfilled_behind" 4 [.tup [.tup ms,.tup (GY aB ns bs),b0],.ref q,.tup [ak u,ag p,ag r],.int (c:G0)] S) Q:=by
 have hb3:bs.length<=3:=by rcases hb with rfl|rfl|rfl|rfl|rfl|rfl <;> decide
 have zl:(GY aB ns bs).length=bs.length:=by rw[IC,hnl]; omega
 intro m
 induction m with
 | zero=>?_
 | succ m ih=>?_
 all_goals
  intro d S Q u p r hC hleft hlen e k;show ap hg rfl rfl λQ' hR=>?_
  replace k:=λw S' x z y=>hR _ _ (k w S' x z y)
  clear hR;change wZ _ _ bz [gV (.tup [.tup ms,.tup (GY aB ns bs),b0]),gV (.ref q),gV (.tup [ak u,ag p,ag r]),gV (.int (c:G0)),td,td,td,td] S Q';dsimp only[bz];nofun
  dsimp only[wS,wE,wA,wP,wV,wG,G2];show ac #v[] rfl (ac #v[] rfl (ac #v[] rfl ?_))
  have bl:(dZ (λv p=>bG U v p u.length (u.length+1)) bs u p r).length=bs.length+1:=lK
  have lk:=lP (c:=c) (Yq:=(dZ (λv p=>bG U v p u.length (u.length+1)) bs u p r).take c) (f:=bo U bs u p r) (by rw[Hm]; omega) (λi hi=>by rw[Ng,Ho hi]; exact kA hC.gp hC.gq ∅)
  show gL F hb hnl hC.gu hC.gp hC.gq ∅ e λS1 k1=>?_
  dsimp only[wN];show ab (show fR (.tup (dZ (λv p=>bG U v p u.length (u.length+1)) bs u p r)) td (gV (c:G0)) S1=gV (.tup ((dZ (λv p=>bG U v p u.length (u.length+1)) bs u p r).take c),S1) by simp only[fR,cO]) ?_
  show hK _ _ ?_;clear hK K;generalize(dZ (λv p=>bG U v p u.length (u.length+1)) bs u p r).take c=Yq at lk
  clear bl;obtain⟨ni,lk⟩:=lk;nofun
  dsimp only[wS,wT,wE,wV,wG];show ab (oV ni) ?_;dsimp only[wB]
 ·rcases lk with⟨h1,h2⟩|⟨i,hi,_,_,h4,_⟩
  ·rw[h1];show ae (Q0:=Q') (λ_ Q2 _ hr=>?_) (λz=>by cases z)
   show st ?_;dsimp only[wS,wE,wV,wG];exact hr _ _ (k _ _ (.inr #[(u,p,r),rfl,hC,h2,by change u.length<=c; omega]) (by rw[oW h2]; rfl) k1)
  ·have:0 < rj U bs c u p r:=L3 (IR.mpr #[Hd.mpr hi,by rw[h4]; rfl])
   omega
 ·rcases lk with⟨h1,h2⟩|⟨i,hi,h1,h3,h4,h5⟩
  ·rw[h1];show ae (Q0:=Q') (λ_ Q2 _ hr=>?_) (λz=>by cases z)
   show st ?_;dsimp only[wS,wE,wV,wG];exact hr _ _ (k _ _ (.inr #[(u,p,r),rfl,hC,h2,by change u.length<=c; omega]) (by rw[oW h2]; rfl) k1)
  ·rw[h1];show ae (Q0:=Q') (λz=>by cases z) (λ_ Q2 hn _=>aN (hn _ _ (hK _ _ ?_)))
   clear hn hK K;nofun
   left;show#[rfl,zH ni h3 (hK _ _ ?_)];clear hK K;nofun
   show eI rfl rfl ?_;dsimp only[wE,wA,wV,wG];show p8 (d:=d+m+1) X hml zl ha3 hb3 hC ∅ (k1.get _ _ e) λl S2 e2 hl2 k2=>?_
   have ho:=λ(x:Wd×Pt×Pt) (hx:x∈iW U a bs.length u p r)=>zF (bs:=bs) hC hx
   have hns:(∀x∈iW U a bs.length u p r,bo U bs x.1 x.2.1 x.2.2 i=true->fP a bs U c x.1 x.2.1 x.2.2)->fP a bs U c u p r:=Cr hb cl hi h4;rw[wx hi h4 h5]at k;generalize iW U a bs.length u p r=L at e2 ho hns k;show#[l,L.map cW,λj Z S'=>(∃a6 a7,Z=[gV (.tup [.tup ms,.tup (GY aB ns bs),b0]),gV (.ref q),gV (.tup [ak u,ag p,ag r]),gV (.int (c:G0)),gV (.tup Yq),gV (.int (i:G0)),a6,a7])/\(∀x∈L.take j,bo U bs x.1 x.2.1 x.2.2 i=true->fP a bs U c x.1 x.2.1 x.2.2/\en U bs a c m x=td)/\S'[l]?=gV (.lst (L.map cW))/\Ka S S',rfl,#[#[_,_,rfl],(λx hx=>by cases hx),e2,k1.trans k2],λ_ _ _ h=>h.2.2.1,?_,?_]
   ·rintro j w Z S3 hw ⟨⟨a6,a7,rfl⟩,hno,e3,k3⟩;clear hK;rw[GV,GM]at hw;obtain⟨x,hx,rfl⟩:=hw;obtain⟨xC,xl,xh⟩:=ho x (G7 hx);have more:(bo U bs x.1 x.2.1 x.2.2 i=true->fP a bs U c x.1 x.2.1 x.2.2/\en U bs a c m x=td)->∀y∈L.take (j+1),bo U bs y.1 y.2.1 y.2.2 i=true->fP a bs U c y.1 y.2.1 y.2.2/\en U bs a c m y=td:=λh y hy=>by
     rw[HJ,hx]at hy;rcases Ht.mp hy with z|z
     ·exact hno y z
     ·obtain rfl:y=x:=by simpa using z
      exact h
    show ab (show fq (.nm 6) (cW x) [gV (.tup [.tup ms,.tup (GY aB ns bs),b0]),gV (.ref q),gV (.tup [ak u,ag p,ag r]),gV (.int (c:G0)),gV (.tup Yq),gV (.int (i:G0)),a6,a7] S3=gV ([gV (.tup [.tup ms,.tup (GY aB ns bs),b0]),gV (.ref q),gV (.tup [ak u,ag p,ag r]),gV (.int (c:G0)),gV (.tup Yq),gV (.int (i:G0)),gV (.tup [ak x.1,ag x.2.1,ag x.2.2]),a7],S3)from rfl) ?_
    intro Q3 hn3 hr3;nofun
    dsimp only[wS,wT,wE,wA,wV,wG];show ac #v[] rfl (ac #v[] rfl (ac #v[] rfl ?_))
    show gL (d:=d+m+2) F hb hnl xC.gu xC.gp xC.gq ∅ (k3.get _ _ e) λS4 k4=>?_
    obtain⟨w,w1,w2,w3⟩:=kA (bs:=bs) (i:=i) (U:=U) xC.gp xC.gq ∅
    show ac (GZ i) (by rw[Ha]; exact w1) (ab (wu w2) ?_)
    dsimp only[wB];rw[w3,NG];show ae (Q0:=Q3) (λhh Q5 hn5 hr5=>?_) (λhh Q5 hn5 _=>aN (hn5 _ _ (hK _ _ (aN (hn3 _ _ #[#[_,_,rfl],more (λz=>by rw[z]at hh; cases hh),k4.get _ _ e3,k3.trans k4])))))
    show st ?_;left;show ih d _ _ x.1 x.2.1 x.2.2 xC ?_ ∅ ((k3.trans k4).get _ _ e) λw S5 hw hwe k5=>?_
    ·have:=zE (c:=c) hi xh h4 hh;unfold rj at hleft ⊢;omega
    show aM λK2 hK2=>?_
    dsimp only[wS,wT,wE,wV,wG];have hun:∀z,en U bs a c m x=gV z->w=cW z:=λz hz=>by rw[hwe,hz]; rfl
    rcases hw with⟨rfl,hw⟩|⟨y,rfl,y1⟩
    ·show ab (show aJ .isnot .non .non S5=gV (.bl false,S5)from rfl) ?_
     dsimp only[wB];exact ae (Q0:=Q5) (λz=>by cases z) (λ_ Q6 hn6 _=>aN (hn6 _ _ (hK2 _ _ (aN (hn5 _ _ (hK _ _ (aN (hn3 _ _ #[#[_,_,rfl],more λ_=>#[hw,by cases hz:en U bs a c m x with|none=>rfl|some z=>exact nomatch hun z hz],(k4.trans k5).get _ _ e3,(k3.trans k4).trans k5]))))))))
    ·show ab (show aJ .isnot (cW y) .non S5=gV (.bl true,S5)from rfl) ?_
     dsimp only[wB];show ae (Q0:=Q5) (λ_ Q6 _ hr6=>?_) (λz=>by cases z)
     show st ?_;dsimp only[wS,wE,wV,wG];exact hr6 _ _ (hr5 _ _ (hr3 _ _ (k _ _ (.inr #[y,rfl,y1]) (by
      rw[hwe];cases hz:en U bs a c m x with
      | none=>rw[hz]at hwe; cases hwe
      | some z=>rw[zI hx (λy' hy'=>by cases hq:bo U bs y'.1 y'.2.1 y'.2.2 i with|true=>rw[Ho rfl]; exact(hno y' hy' hq).2|false=>rfl) (by rw[hh,Ho rfl]; exact hz)]) ((k3.trans k4).trans k5))))
   ·rintro Z S3 ⟨⟨a6,a7,rfl⟩,hno,e3,k3⟩;rw[GF,HP]at hno;show hK _ _ (st ?_);dsimp only[wS,wE];exact k _ _ (.inl #[rfl,hns λx hx hq=>(hno x hx hq).1]) (by rw[Ll.mpr λy' hy'=>by cases hq:bo U bs y'.1 y'.2.1 y'.2.2 i with|true=>rw[Ho rfl]; exact(hno y' hy' hq).2|false=>rfl]; rfl) k3
end
abbrev ER (a:GP)(bs:GD G0)(U:GD (T×W))(c:GP)(w:W):Prop:=(w=.non/\¬ Gg a bs U c)\/∃x:Wd×Pt×Pt,w=cW x/\Cf a bs.length U x.1 x.2.1 x.2.2/\Full U bs c x.1 x.2.1 x.2.2/\x.1.length<=c
abbrev ES (a:GP)(bs:GD G0)(U:GD (T×W))(c:GP)(w:W):Prop:=(w=.non/\∀i j:GP,i<=j->j < a->en U bs a c c ([],((i:G0),[]),((j:G0),[]))=td)\/∃i j:GP,i<=j/\j < a/\(∃y,w=cW y/\en U bs a c c ([],((i:G0),[]),((j:G0),[]))=gV y)/\∀i' j':GP,i'<=j'->j' < a->(i' < i\/(i'=i/\j' < j))->en U bs a c c ([],((i':G0),[]),((j':G0),[]))=td
def rn {u v:Wd}(h:ak u=ak v):u=v:=by
 have:=congrArg W.t h;rw[vH,vH]at this;exact mW (Io this)
def rq {p q:Pt}(h:ag p=ag q):p=q:=by
 have:ak [p]=ak [q]:=by
  change W.tup [ag p]=W.tup [ag q];rw[h]
 exact PV (rn this) |>.1
def m9 {x y:Wd×Pt×Pt}(h:cW x=cW y):x=y:=by
 obtain⟨u,p,q⟩:=x;obtain⟨u',p',q'⟩:=y;unfold cW at h;simp only[W.tup.injEq,PL,and_true]at h;obtain⟨h1,h2,h3⟩:=h;rw[rn h1,rq h2,rq h3]
def Cs {a n i j:GP}{U:GD (T×W)}(hi:i < a)(hj:j < a):Cf a n U [] ((i:G0),[]) ((j:G0),[]):=
 #[.nil,λk hk=>(by cases hk),#[#[GZ _,by show(i:G0) < a; omega],rfl,λw hw=>nomatch hw],rfl,#[#[GZ _,by show(j:G0) < a; omega],rfl,λw hw=>nomatch hw],rfl]
section
variable{defs:GD (Hc×Df)}{fuel d:GP}{S:aa}{Q:QW}
structure Unl (defs:GD (Hc×Df)):Prop where
 fil:Fil defs
 sea:Sea defs
 behind:Is defs ("unfilled_behind" : Hc) 4 8 bz
 first:Is defs ("first_unfilled" : Hc) 2 6 cb
 unlaid:Is defs ("unlaid" : Hc) 1 1 ig
def iX (hfu:20 < fuel)(L:Unl defs){ms:GD W}{ns:GD Hc}{bs:GD G0}{a c:GP}{gs:GD Wd}(hb:GoodB bs)(hnl:ns.length=bs.length)(hml:ms.length=a)(ha3:a<=3)(hgs:∀g∈gs,GoodW a bs.length g/\g.length=3)(h64:gs.length<=100)(hc:bs.length<=c)(hc1:c<=bs.length+1)
  (k:∀w U S',HasD U (bH bs gs)->ER a bs U c w->ES a bs U c w->Ka S S'->Q (w,S')) :
  wO (aE (am defs fuel (d+c+6)) "first_unfilled" 2 [.tup [.tup ms,.tup (GY aB ns bs),.tup (gs.map ak)],.int (c:G0)] S) Q:=by
 show ap L.first rfl rfl λQ' hR=>?_
 replace k:∀w U S',HasD U (bH bs gs)->ER a bs U c w->ES a bs U c w->Ka S S'->Q' (.rt w,S'):=λw x S' h1 h2 h3 h4=>hR _ _ (k w x S' h1 h2 h3 h4)
 clear hR;change wZ _ _ cb [gV (.tup [.tup ms,.tup (GY aB ns bs),.tup (gs.map ak)]),gV (.int (c:G0)),td,td,td,td] S Q';dsimp only[cb];nofun
 left;show ke (d:=d+c+1) hfu L.fil.parts L.fil.part L.fil.longer L.fil.barred hb hnl hgs h64 λq U S1 e1 h1 _ k1=>hK _ _ ?_
 clear hK K;have cl:=Et hb hgs h1;have hk:∀w S',ER a bs U c w->ES a bs U c w->Ka S S'->Q' (.rt w,S'):=λw S'=>k w U S' h1
 have un:∀(i j:GP) (S:aa) (Q:QW),i < a->j < a->S[q]?=gV (.dic U)->(∀w S',Gh a bs U c [] ((i:G0),[]) ((j:G0),[]) w->w=Ev (en U bs a c c ([],((i:G0),[]),((j:G0),[])))->Ka S S'->Q (w,S'))->wO (aE (am defs fuel (d+c+5)) "unfilled_behind" 4 [.tup [.tup ms,.tup (GY aB ns bs),.tup (gs.map ak)],.ref q,.tup [.tup [],.tup [.int i,.tup []],.tup [.int j,.tup []]],.int (c:G0)] S) Q:=λi j S Q hi hj e h=>p9 L.fil L.sea L.behind hb hnl hml ha3 cl hc1 c d S Q [] ((i:G0),[]) ((j:G0),[]) (Cs hi hj) (by
  unfold rj;exact Hs (IP _ _) (by rw[Hq]; exact G3 _)) (by simp) e h
 have la:∀(S:aa) (Q:QW),Q (.int (a:G0),S)->wO (gW (.tup [.tup ms,.tup (GY aB ns bs),.tup (gs.map ak)]) (.int 0) S) λp=>wO (Bi.len.fn [p.1] p.2) Q:=λS Q q=>by
  show ac #v[] rfl (az ?_)
  rw[hml]; exact q
 clear k;generalize W.tup [.tup ms,.tup (GY aB ns bs),.tup (gs.map ak)]=R at un la;nofun
 show bB (a:G0) (λi Z S'=>(∃a3 a4 a5,Z=[gV R,gV (.int (c:G0)),gV (.ref q),a3,a4,a5])/\(∀i' j',i' < i->i'<=j'->j' < a->fP a bs U c [] ((i':G0),[]) ((j':G0),[])/\en U bs a c c ([],((i':G0),[]),((j':G0),[]))=td)/\S'[q]?=gV (.dic U)/\Ka S S') rfl rfl ∅ ?_ ?_ ?_
 ·dsimp only[wE,wA,wV,wG];exact la _ _ #[rfl,#[_,_,_,rfl],(λi' j' h=>∅),e1,k1]
 ·rintro i Z S2 hi ⟨⟨a3,a4,a5,rfl⟩,hno,e2,k2⟩ Q2 hn2 hr2;clear hK;have hia:i < a:=∅
  dsimp only[G2];nofun
  show cp (i:G0) (a:G0) (λm Z S'=>(∃a4 a5,Z=[gV R,gV (.int (c:G0)),gV (.ref q),gV (.int i),a4,a5])/\(∀j',i<=j'->j' < i+m->fP a bs U c [] ((i:G0),[]) ((j':G0),[])/\en U bs a c c ([],((i:G0),[]),((j':G0),[]))=td)/\S'[q]?=gV (.dic U)/\Ka S S') rfl rfl rfl ∅ ?_ ?_ ?_
  ·dsimp only[wE,wA,wV,wG];exact#[rfl,la _ _ #[rfl,#[_,_,rfl],(λj' h1 h2=>∅),e2,k2]]
  ·rintro m Z S3 hm ⟨⟨a4,a5,rfl⟩,hno3,e3,k3⟩ Q3 hn3 hr3;clear hK;rw[show(i:G0)+m=((i+m:GP):G0) by omega]
   have hja:i+m < a:=∅
   generalize hj:i+m=j at hja;dsimp only[G2];show st ?_;left;show un i j _ _ hia hja e3 λw S4 hw hwe k4=>?_
   nofun
   dsimp only[wS,wT,wE,wV,wG];rcases hw with⟨rfl,hw⟩|⟨y,rfl,y1⟩
   ·show ab (show aJ .isnot .non .non S4=gV (.bl false,S4)from rfl) ?_
    dsimp only[wB];show ae (Q0:=Q3) (λz=>by cases z) (λ_ Q6 hn6 _=>aN (hn6 _ _ (hK _ _ (aN (hn3 _ _ #[#[_,_,rfl],λj' h1 h2=>?_,k4.get _ _ e3,k3.trans k4])))))
    by_cases ej:j'=j
    ·rw[ej];show#[hw,?_];cases hz:en U bs a c c ([],((i:G0),[]),((j:G0),[]))with
     | none=>rfl
     | some z=>rw[hz]at hwe; cases hwe
    ·exact hno3 j' h1 ∅
   ·show ab (show aJ .isnot (cW y) .non S4=gV (.bl true,S4)from rfl) ?_
    dsimp only[wB];show ae (Q0:=Q3) (λ_ Q6 _ hr6=>?_) (λz=>by cases z)
    show st ?_;dsimp only[wS,wE,wV,wG];exact hr6 _ _ (hr3 _ _ (hr2 _ _ (hk _ _ (.inr #[y,rfl,y1]) (.inr #[i,j,∅,hja,#[y,rfl,by
     cases hz:en U bs a c c ([],((i:G0),[]),((j:G0),[]))with
     | none=>rw[hz]at hwe; cases hwe
     | some z=>rw[hz]at hwe; rw[m9 hwe]],λi' j' h1 h2 h3=>by
     rcases h3 with h3|⟨rfl,h3⟩
     ·exact(hno i' j' h3 h1 h2).2
     ·exact(hno3 j' h1 ∅).2]) (k3.trans k4))))
  ·rintro Z S3 ⟨⟨a4,a5,rfl⟩,hno3,e3,k3⟩;show hK _ _ (aN (hn2 _ _ #[#[_,_,_,rfl],λi' j' h1 h2 h3=>?_,e3,k3]))
   by_cases ei:i'=i
   ·subst ei;exact hno3 j' h2 ∅
   ·exact hno i' j' ∅ h2 h3
 ·rintro Z S2 ⟨⟨a3,a4,a5,rfl⟩,hno,e2,k2⟩;show hK _ _ (st ?_);dsimp only[wS,wE];show hk _ _ (.inl #[rfl,Eu hb cl hc λi j h1 h2 h3=>(hno i j ∅ h2 h3).1]) (.inl #[rfl,λi j h1 h2=>(hno i j ∅ h1 h2).2]) k2
def wy (hfu:20 < fuel)(L:Unl defs){ms:GD W}{ns:GD Hc}{bs:GD G0}{a:GP}{gs:GD Wd}(hb:GoodB bs)(hnl:ns.length=bs.length)(hml:ms.length=a)(ha3:a<=3)(hgs:∀g∈gs,GoodW a bs.length g/\g.length=3)(h64:gs.length<=100)
  (k:∀w U S',HasD U (bH bs gs)->ER a bs U (bs.length+1) w->ES a bs U (bs.length+1) w->Ka S S'->Q (w,S')) :
  wO (aE (am defs fuel (d+11)) "unlaid" 1 [.tup [.tup ms,.tup (GY aB ns bs),.tup (gs.map ak)]] S) Q:=by
 show ap L.unlaid rfl rfl λQ' hR=>?_
 change wZ _ _ ig [gV (.tup [.tup ms,.tup (GY aB ns bs),.tup (gs.map ak)])] S Q';have hb3:bs.length<=3:=by rcases hb with rfl|rfl|rfl|rfl|rfl|rfl <;> decide
 dsimp only[ig];show st ?_;left;show ac #v[] rfl (az ?_)
 rw[IC,hnl,Ju];show ab cM ?_;dsimp only;rw[show(bs.length:G0)+1=((bs.length+1:GP):G0) by omega,show d+10=(d+3 - bs.length)+(bs.length+1)+6 by omega]
 exact iX hfu L hb hnl hml ha3 hgs h64 ∅ ∅ λw U S' h1 h2 h3 h4=>hR _ _ (k w U S' h1 h2 h3 h4)
end
abbrev eX:Ss:=
 #v[.ret (.and (.isi "int" (.v 0)) (.not (.isi "bool" (.v 0))))]
abbrev dj:Ss:=
 #v[.ret (.and (.isi "tuple" (.v 0)) (.cmp .eq (.bi .len #v[.v 0]) (.v 1)))]
abbrev dI:Ss:=
 #v[.ret (.and (.own "is_tuple_of" 2 #v[.v 0,.v 1]) (.bi .all #v[.comp (.own "is_whole" 1 #v[.v 1]) (.nm 1) (.seq (.v 0)) .nil [td,td]]))]
abbrev eY:Ss:=
 #v[.ret (.and (.isi "tuple" (.v 1)) (.bi .all #v[.comp (.own "is_point" 3 #v[.v 3,.v 2,.v 1]) (.tp [1,2]) (.enu #v[.v 1]) .nil [td,td,td,gV 0]]))]
abbrev eZ:Ss:=
 #v[.ite (.not (.own "has_point_form" 2 #v[.v 1,.v 2])) #v[.ret (.c (.bl false))] .nil,.set 3 (.chn .le .lt (.c (.int 0)) (.ix (.v 1) (.c (.int 0))) (.bi .len #v[.ix (.v 0) (.c (.int 0))])),.ret (.and (.v 3) (.bi .all #v[.comp (.chn .le .lt (.c (.int 0)) (.v 1) (.bi .len #v[.ix (.v 2) (.c (.int 1))])) (.nm 1) (.seq (.ix (.v 1) (.c (.int 1)))) .nil [td,td,gV 0]]))]
abbrev ce:Ss:=
 #v[.ret (.and (.own "is_tuple_of" 2 #v[.v 0,.c (.int 2)]) (.and (.own "is_whole" 1 #v[.ix (.v 0) (.c (.int 0))]) (.own "is_numbers" 2 #v[.ix (.v 0) (.c (.int 1)),.v 1])))]
abbrev bL:Ss:=
 #v[.ite (.or (.not (.own "is_tuple_of" 2 #v[.v 1,.c (.int 3)])) (.not (.own "is_world" 2 #v[.v 0,.ix (.v 1) (.c (.int 0))]))) #v[.ret (.c (.bl false))] .nil,.ite (.not (.bi .all #v[.comp (.own "is_point" 3 #v[.v 2,.v 1,.bi .len #v[.ix (.v 3) (.c (.int 0))]]) (.nm 1) (.seq (.sl (.v 1) (.yes (.c (.int 1))) .no)) .nil [td,td,gV 0,gV 1]])) #v[.ret (.c (.bl false))] .nil,.ret (.bi .all #v[.comp (.cmp .is (.own "first_barred" 2 #v[.v 2,.op .add (.ix (.v 3) (.c (.int 0))) (.tup #v[.v 1])]) (.c .non)) (.nm 1) (.seq (.sl (.v 1) (.yes (.c (.int 1))) .no)) .nil [td,td,gV 0,gV 1]])]
section
variable{defs:GD (Hc×Df)}{fuel d:GP}{S:aa}{Q:QW}
structure Knd (defs:GD (Hc×Df)):Prop where
 whole:Is defs ("is_whole" : Hc) 1 1 eX
 tup:Is defs ("is_tuple_of" : Hc) 2 2 dj
 nums:Is defs ("is_numbers" : Hc) 2 2 dI
 world:Is defs ("is_world" : Hc) 2 2 eY
 point:Is defs ("is_point" : Hc) 3 4 eZ
 form:Is defs ("has_point_form" : Hc) 2 2 ce
def GoodW.pt {a n k:GP}{u:Wd}{p:Pt}(h:GoodW a n u)(hp:u[k]?=gV p):GoodP a n k p:=#[h.mark k p hp,h.len k p hp,h.way k p hp]
end
inductive Thg (S:aa):W->Prop
 | non:Thg S .non
 | bl {b:Hj}:Thg S (.bl b)
 | int {i:G0}:Thg S (.int i)
 | str {x:Hc}:Thg S (.str x)
 | tup {xs:GD W} (h:∀x∈xs,Thg S x) (hl:xs.length<=100):Thg S (.tup xs)
 | lst {l:GP} (h:∃xs,S[l]?=gV (O.lst xs)):Thg S (.ref l)
def Thg.mono {S S':aa}{w:W}(h:Thg S w)(k:∀l:GP,(∃xs,S[l]?=gV (O.lst xs))->∃xs,S'[l]?=gV (O.lst xs)):Thg S' w:=by
 induction h with
 | non=>exact .non
 | bl=>exact .bl
 | int=>exact .int
 | str=>exact .str
 | tup h hl ih=>exact .tup ih hl
 | lst h=>exact .lst (k _ h)
def Thg.ka {S S':aa}{w:W}(h:Thg S w)(k:Ka S S'):Thg S' w:=h.mono λ_ #[xs,e]=>#[xs,k.get _ _ e]
def Thg.kp {S S':aa}{w:W}{r:GP}(h:Thg S w)(k:Kp r S S')(f:Fl S' r):Thg S' w:=h.mono λl #[xs,e]=>by
 by_cases z:l=r
 ·subst z;obtain⟨_,_,_,_,_,_,f⟩:=f;exact#[_,f.at_r]
 ·exact#[xs,k.get _ _ z e]
def Thg.pt {S:aa}{p:Pt}(h:p.2.length<=100):Thg S (ag p):=.tup (λx hx=>by
 rcases Hn.mp hx with rfl|hx
 ·exact .int
 ·cases G6.mp hx;show .tup (λy hy=>?_) (by rw[GF]; exact h)
  obtain⟨i,_,rfl⟩:=Hi.mp hy;exact .int) (HI rfl)
abbrev F4:W->Hj|.tup _=>true|_=>false
abbrev sU:W->Hj|.int _=>true|_=>false
abbrev Ew:W->Hj|.bl _=>true|_=>false
def nb {S:aa}{l:GP}{c:Iw}(h:∃xs,S[l]?=gV (.lst xs))(hc:n8.contains c=true):sv S (.ref l) c=gV ("list" == c||("list" == "bool" && c == "int")):=by
 obtain⟨xs,e⟩:=h;have e2:EM S (.ref l)=gV "list":=by simp only[EM,aI e]
 unfold sv;rw[e2];exact Ho hc
def Thg.t {S:aa}{w:W}(h:Thg S w):sv S w "tuple" = gV (F4 w):=by
 cases h with
 | lst h=>exact nb h rfl
 | _=>rfl
def Thg.n {S:aa}{w:W}(h:Thg S w):sv S w "int" = gV (sU w||Ew w):=by
 cases h with
 | lst h=>exact nb h rfl
 | _=>rfl
def Thg.b {S:aa}{w:W}(h:Thg S w):sv S w "bool" = gV (Ew w):=by
 cases h with
 | lst h=>exact nb h rfl
 | _=>rfl
abbrev ii (p:Prop):Hj:=@decide p (KF p)
def cw {p:Prop}:ii p=true↔p:=@decide_eq_true_iff p (KF p)
def fQ {p:Prop}(h:p):ii p=true:=cw.mpr h
def rs {p:Prop}(h:¬ p):ii p=false:=Jd.mpr λz=>h (cw.mp z)
def nh {p:Prop}{b:Hj}(h:b=true↔p):ii p=b:=by
 cases b
 ·exact rs λz=>Hb (h.mpr z)
 ·exact fQ (h.mp rfl)
def qa (L:GD Hj):gB (L.map W.bl)=gV L:=by
 induction L with
 | nil=>rfl
 | cons b L ih=>rw[Ir]; dsimp only[gB]; rw[ih]; rfl
def kB {S:aa}{l:GP}{L:GD Hj}{Q:QW}(h:S[l]?=gV (.lst (L.map W.bl)))(q:Q (.bl (L.all id),S)):wO (Bi.all.fn [.ref l] S) Q:=by
 show ab ?_ q;simp only[Bi.fn,Bo,aI h,qa,HA]
abbrev wz (n:GP):W->Hj|.tup xs=>xs.length==n|_=>false
def rz:∀ {ws:GD W},ws.all sU=true->∃zs:GD G0,ws=zs.map W.int
 | [],_=>#[[],rfl]
 | w::ws,h=>by
  rw[HF,GQ]at h;obtain⟨zs,rfl⟩:=rz h.2;cases w with
  | int i=>exact#[i::zs,rfl]
  | _=>cases h.1
def wD {zs:GD G0}:(zs.map W.int).all sU=true:=Hk.mpr λx hx=>by
 obtain⟨i,_,rfl⟩:=Hi.mp hx; rfl
def iY {p q:Pt}(h:ag p=ag q):p=q:=by
 unfold ag at h;injection h with h
 injection h with h1 h2
 injection h1 with h1
 injection h2 with h2 _
 injection h2 with h2
 have:p.2=q.2:=(KC λx y z=>by injection z).mp h2
 exact Oj h1 this
def Ar {S:aa}{x:G0}{n:GP}{Q:QW}{F:QW->Prop}(hF:∀Q:QW,Q (.int (n:G0),S)->F Q)(k:Q (.bl (decide (0<=x)&&decide (x < (n:G0))),S)):wO (rT .le (.int 0) (.int x) S) λb=>(b=true->F λr=>wO (dB .lt (.int x) r.1 r.2) Q)/\(b=false->Q (.bl false,S)):=by
 show ab (show rT .le (.int 0) (.int x) S=gV (decide (0<=x))from rfl) #[λz=>hF _ (ab (show dB .lt (.int x) (.int (n:G0)) S=gV (.bl (decide (x < (n:G0))),S)from rfl) ?_),λz=>?_]
 ·rw[z,Kv]at k; exact k
 ·rw[z,Mr]at k; exact k
section
variable{defs:GD (Hc×Df)}{fuel d:GP}{S:aa}{Q:QW}
def rA (X:Knd defs){w:W}(h:Thg S w)(k:Q (.bl (sU w),S)):wO (aE (am defs fuel (d+1)) "is_whole" 1 [w] S) Q:=by
 show ap X.whole rfl rfl λQ' hR=>?_
 replace k:=hR _ _ k;change wZ _ _ eX [gV w] S Q';dsimp only[eX];show st ?_;dsimp only[wS,wE,wV,wG];show ab h.n #[λz=>ab h.b ?_,λz=>?_]
 ·cases w <;> first|exact k|cases z
 ·cases w <;> first|exact k|cases z
def wF (X:Knd defs){w:W}{n:GP}(h:Thg S w)(k:Q (.bl (wz n w),S)):wO (aE (am defs fuel (d+1)) "is_tuple_of" 2 [w,.int (n:G0)] S) Q:=by
 show ap X.tup rfl rfl λQ' hR=>?_
 replace k:=hR _ _ k;change wZ _ _ dj [gV w,gV (.int (n:G0))] S Q';dsimp only[dj];show st ?_;left;show ab h.t #[λz=>?_,λz=>?_]
 ·cases w with
  | tup xs=>
   show az (ab iL ?_);have e:((xs.length:G0)==(n:G0))=(xs.length==n):=by rw[Jp,Nh,Nh]; omega
   rw[e]; exact k
  | _=>cases z
 ·cases w <;> first|exact k|cases z
def Ct (X:Knd defs){w:W}{n:GP}(h:Thg S w)(k:∀S',Ka S S'->Q (.bl (ii (∃zs:GD G0,w=.tup (zs.map W.int)/\zs.length=n)),S')):wO (aE (am defs fuel (d+2)) "is_numbers" 2 [w,.int (n:G0)] S) Q:=by
 show ap X.nums rfl rfl λQ' hR=>?_
 replace k:∀(b:Hj) S',(b=true↔∃zs:GD G0,w=.tup (zs.map W.int)/\zs.length=n)->Ka S S'->Q' (.rt (.bl b),S'):=λb S' e a=>by rw[<- nh e]; exact hR _ _ (k S' a)
 clear hR;change wZ _ _ dI [gV w,gV (.int (n:G0))] S Q';dsimp only[dI];show st ?_;left;show wF (d:=d) X h #[λz=>?_,λz=>?_]
 ·cases h with
  | tup hx hl=>
   rename_i xs;show iR xs id (λ_=>true) (λx=>.bl (sU x)) [] rfl rfl rfl rfl ∅ #[by rw[N5],.refl] (λx hx' S2 k2=>?_) λS2 k2=>?_
   ·dsimp only[fm,wC,wE,wA,wV,wG];exact#[λ_=>rA (d:=d) X ((hx x hx').ka k2) #[rfl,rfl,.refl],λz=>by cases z]
   ·rw[bO];show kB (L:=xs.map sU) (by rw[IG]; exact aj) (k _ _ ?_ (k2.trans .push))
    rw[KN];constructor
    ·intro a;obtain⟨zs,rfl⟩:=rz a;exact#[zs,rfl,by simpa [wz]using z]
    ·rintro⟨zs,e,_⟩;cases e;exact wD
  | _=>cases z
 ·show k _ S #[λy=>(by cases y),?_] .refl
  rintro⟨zs,rfl,e⟩;simp[wz,e]at z
def Cu (X:Knd defs){w:W}{n:GP}(h:Thg S w)(k:∀S',Ka S S'->Q (.bl (ii (∃p:Pt,w=ag p/\p.2.length=n)),S')):wO (aE (am defs fuel (d+3)) "has_point_form" 2 [w,.int (n:G0)] S) Q:=by
 show ap X.form rfl rfl λQ' hR=>?_
 replace k:∀(b:Hj) S',(b=true↔∃p:Pt,w=ag p/\p.2.length=n)->Ka S S'->Q' (.rt (.bl b),S'):=λb S' e a=>by rw[<- nh e]; exact hR _ _ (k S' a)
 clear hR;change wZ _ _ ce [gV w,gV (.int (n:G0))] S Q';dsimp only[ce];show st ?_;left;show wF (d:=d+1) (n:=2) X h #[λz=>?_,λz=>?_]
 ·cases h with
  | tup hx hl=>
   rename_i xs
   match xs,z with
   | [m,t],_=>
    show ac #v[] rfl (rA (d:=d+1) X (hx m HH) #[λz=>?_,λz=>?_])
    ·show ac #v[] rfl (Ct (d:=d) X (hx t (Hv _ HH)) λS' a=>k _ S' ?_ a)
     rw[cw];cases m with
     | int i=>
      constructor
      ·rintro⟨zs,rfl,e⟩;exact#[(i,zs),rfl,e]
      ·rintro⟨p,e,e2⟩;cases e;exact#[p.2,rfl,e2]
     | _=>cases z
    ·show k _ S #[λy=>(by cases y),λ#[p,e,_]=>?_] .refl
     cases e;cases z
  | _=>cases z
 ·show k _ S #[λy=>(by cases y),λ#[p,e,_]=>?_] .refl
  subst e;cases z
def rB (X:Knd defs){Mqa N:GD W}{b0 w:W}{a n s:GP}(hM:Mqa.length=a)(hN:N.length=n)(h:Thg S w)(k:∀S',Ka S S'->Q (.bl (ii (∃p,w=ag p/\GoodP a n s p)),S')):wO (aE (am defs fuel (d+4)) "is_point" 3 [.tup [.tup Mqa,.tup N,b0],w,.int (s:G0)] S) Q:=by
 show ap X.point rfl rfl λQ' hR=>?_
 replace k:∀(b:Hj) S',(b=true↔∃p,w=ag p/\GoodP a n s p)->Ka S S'->Q' (.rt (.bl b),S'):=λb S' e a=>by rw[<- nh e]; exact hR _ _ (k S' a)
 clear hR;change wZ _ _ eZ [gV (.tup [.tup Mqa,.tup N,b0]),gV w,gV (.int (s:G0)),td] S Q';dsimp only[eZ];nofun
 dsimp only[wS,wT,wE,wA,wV,wG];show Cu (d:=d) X h λS1 k1=>?_
 show ab (show cX S1 (.bl (ii _))=gV (ii _)from rfl) ?_
 show ae (Q0:=Q') (λz Q2 _ hr=>st ?_) (λz Q2 hn _=>aN (hn _ _ (hK _ _ ?_)))
 ·dsimp only[wS,wE];show hr _ _ (k _ S1 #[λy=>(by cases y),λ#[p,e,g]=>?_] k1)
  rw[fQ #[p,e,g.len]]at z;cases z
 clear hn hK K;obtain⟨p,hl⟩:=cw.mp (show ii (∃p:Pt,w=ag p/\p.2.length=s)=true by simpa using z)
 obtain⟨rfl,hl⟩:=hl;have hp1:p.2.length<=100:=by
  cases h with
  | tup hx _=>
   have:=hx (.tup (p.2.map W.int)) (Hv _ HH);cases this with
   | tup _ hl=>rw[GF]at hl; exact hl
 clear z h;have l0:∀(S:aa) (Q:QW),Q (.int (a:G0),S)->wO (gW (.tup [.tup Mqa,.tup N,b0]) (.int 0) S) λp=>wO (Bi.len.fn [p.1] p.2) Q:=λS Q q=>by
  show ac #v[] rfl (az ?_)
  rw[hM]; exact q
 have l1:∀(S:aa) (Q:QW),Q (.int (n:G0),S)->wO (gW (.tup [.tup Mqa,.tup N,b0]) (.int 1) S) λp=>wO (Bi.len.fn [p.1] p.2) Q:=λS Q q=>by
  show ac #v[] rfl (az ?_)
  rw[hN]; exact q
 generalize W.tup [.tup Mqa,.tup N,b0]=R at l0 l1;show st ?_;dsimp only[wS,wE,wA,wV,wG,G2,ag];show ac #v[] rfl ?_
 show Ar (F:=λQ=>wO (gW R (.int 0) S1) λp=>wO (Bi.len.fn [p.1] p.2) Q) (l0 S1) ?_
 show st ?_;left;show#[λz=>?_,λz=>k _ S1 #[λy=>(by cases y),λ#[p',e,g]=>?_] k1]
 ·show iR p.2 W.int (λ_=>true) (λx=>.bl (decide (0<=x)&&decide (x < (n:G0)))) [gV R] rfl rfl rfl rfl ∅ ?_ (λx hx S2 k2=>?_) λS2 k2=>?_
  ·dsimp only[wE,wV,wG];exact ac #v[] rfl #[rfl,.refl]
  ·dsimp only[fm,wC,wE,wA,wV,wG];exact#[λ_=>Ar (F:=λQ=>wO (gW R (.int 1) S2) λp=>wO (Bi.len.fn [p.1] p.2) Q) (l1 S2) #[rfl,rfl,.refl],λz=>by cases z]
  ·rw[bO];show kB (L:=p.2.map λx=>decide (0<=x)&&decide (x < (n:G0))) (by rw[IG]; exact aj) (k _ _ #[λy=>#[p,rfl,?_,hl,λx hx=>?_],λ#[p',e,g]=>?_] (k1.trans (k2.trans .push)))
   ·simpa using z
   ·rw[KN]at y;have:=Hk.mp y x hx
    simpa using this
   ·cases iY e;rw[KN,Hk];intro x hx
    simpa using g.way x hx
 ·cases iY e;have:=g.mark;rw[Kc]at z;rcases z with z|z
  ·exact absurd this.1 (JB z)
  ·exact absurd this.2 (JB z)
abbrev unI:W->G0|.int i=>i|_=>0
abbrev Ex:W->Pt|.tup [m,.tup ws]=>(unI m,ws.map unI)|_=>(0,[])
def wH (p:Pt):Ex (ag p)=p:=by
 show(p.1,(p.2.map W.int).map unI)=p;rw[IG,show unI∘W.int=id from rfl,N5]
def wI {xs:GD W}{a n:GP}:(∀j < xs.length,∃p,xs[j]?=gV (ag p)/\GoodP a n j p)↔∃u,W.tup xs=ak u/\GoodW a n u:=by
 constructor
 ·intro h;show#[xs.map Ex,?_,?_]
  ·change W.tup xs=.tup ((xs.map Ex).map ag);rw[IG];congr 1;show KQ λj=>?_
   rw[GV]
   by_cases hj:j < xs.length
   ·obtain⟨p,e,_⟩:=h j hj;rw[e,HA];change _=gV (ag (Ex (ag p)));rw[wH]
   ·rw[JE ∅]; rfl
  ·have key:∀(k:GP) (q:Pt),(xs.map Ex)[k]?=gV q->GoodP a n k q:=λk q e=>by
    rw[GV,GM]at e;obtain⟨x,hx,rfl⟩:=e;obtain⟨p,e,g⟩:=h k (G5.mp hx).1;rw[hx]at e;cases e;rw[wH]; exact g
   exact#[λk q e=>(key k q e).mark,λk q e=>(key k q e).len,λk q e=>(key k q e).way]
 ·rintro⟨u,e,g⟩ j hj;cases e;rw[GF]at hj;exact#[u[j],by rw[GV,G1 hj]; rfl,g.pt (G1 hj)]
def zJ (X:Knd defs){Mqa N:GD W}{b0 w:W}{a n:GP}(hM:Mqa.length=a)(hN:N.length=n)(h:Thg S w)(k:∀S',Ka S S'->Q (.bl (ii (∃u,w=ak u/\GoodW a n u)),S')):wO (aE (am defs fuel (d+5)) "is_world" 2 [.tup [.tup Mqa,.tup N,b0],w] S) Q:=by
 show ap X.world rfl rfl λQ' hR=>?_
 replace k:∀(b:Hj) S',(b=true↔∃u,w=ak u/\GoodW a n u)->Ka S S'->Q' (.rt (.bl b),S'):=λb S' e a=>by rw[<- nh e]; exact hR _ _ (k S' a)
 clear hR;change wZ _ _ eY [gV (.tup [.tup Mqa,.tup N,b0]),gV w] S Q';dsimp only[eY];show st ?_;left;show ab h.t #[λz=>?_,λz=>k _ S #[λy=>(by cases y),λ#[u,e,_]=>by subst e; cases z] .refl]
 cases h with
 | tup hx hl=>
  rename_i xs;show qX xs (λi ys Z2 S2=>(∃a1 a2,Z2=[td,a1,a2,gV (.tup [.tup Mqa,.tup N,b0])])/\ys=((G8 i).map λj=>ii (∃p,xs[j]?=gV (ag p)/\GoodP a n j p)).map W.bl/\Ka S S2) rfl rfl rfl #[rfl,#[_,_,rfl],rfl,.refl] ?_ ?_
  ·rintro i x ys Z2 S2 hx' ⟨⟨a1,a2,rfl⟩,rfl,k2⟩;show ab (show fq (.tp [1,2]) (.tup [.int i,x]) [td,a1,a2,gV (.tup [.tup Mqa,.tup N,b0])] S2=gV ([td,gV (.int i),gV x,gV (.tup [.tup Mqa,.tup N,b0])],S2)from rfl) ?_
   dsimp only[fm,wC,wE,wA,wV,wG];show#[λ_=>rB (d:=d) (s:=i) X hM hN ((hx x (G7 hx')).ka k2) λS3 k3=>#[#[_,_,rfl],?_,k2.trans k3],λz=>by cases z]
   rw[IL,Hh,Hh];congr 1;show[W.bl _]=[W.bl (ii (∃p,xs[i]?=gV (ag p)/\GoodP a n i p))];rw[hx'];congr 3;exact propext #[λ#[p,e,g]=>#[p,by rw[e],g],λ#[p,e,g]=>#[p,by cases e; rfl,g]]
  ·rintro ys Z2 S2 ⟨_,rfl,k2⟩;show#[lE (by rw[GF,GF,Hq]; omega),kB aj (k _ _ ?_ (k2.trans .push))]
   rw[<- wI,KN,Hk];exact#[λy j hj=>cw.mp (y j (Hd.mpr hj)),λy j hj=>fQ (y j (Hd.mp hj))]
 | _=>cases z
structure Bwt (defs:GD (Hc×Df)):Prop where
 knd:Knd defs
 ft:Is defs ("first_three" : Hc) 2 5 bP
 fb:Is defs ("first_barred" : Hc) 2 2 bY
 by':Is defs ("barred_by" : Hc) 4 4 dq
 bwt:Is defs ("is_base_with_two" : Hc) 2 2 bL
def Cv {U:GD (T×W)}{bs:GD G0}{gs:GD Wd}{u:Wd}{p q:Pt}(h:HasD U (bH bs gs)):dZ (PB ((bH bs gs).map dy) u.length) bs u p q=dZ (λv p=>bG U v p u.length (u.length+1)) bs u p q:=by
 have:PB ((bH bs gs).map dy) u.length=λv p=>bG U v p u.length (u.length+1):=funext λv=>funext λp=>(h.get _).symm
 rw[this]
end
abbrev de:Ss:=
 #v[.ret (.op .add (.v 1) (.tup #v[.v 2,.tup #v[.ix (.v 3) (.c (.int 0)),.op .add (.ix (.v 3) (.c (.int 1))) (.tup #v[.ix (.ix (.ix (.v 0) (.c (.int 1))) (.v 4)) (.c (.int 1))])]]))]
section
variable{defs:GD (Hc×Df)}{fuel d:GP}{S:aa}{Q:QW}
def qb (hg:Is defs ("_law_both" : Hc) 5 5 de){m0 b0:W}{ns:GD Hc}{bs:GD G0}{u:Wd}{one other:Pt}{n:GP}(hnl:ns.length=bs.length)(hn:n < bs.length)(hu:u.length<=900)(ho:other.2.length<=900)(k:Q (ak (cG bs u one other n),S)) :
  wO (aE (am defs fuel (d+1)) "_law_both" 5 [.tup [m0,.tup (GY aB ns bs),b0],ak u,ag one,ag other,.int n] S) Q:=by
 show ap hg rfl rfl λQ' hR=>?_
 replace k:=hR _ _ k;change wZ _ _ de [gV (.tup [m0,.tup (GY aB ns bs),b0]),gV (ak u),gV (ag one),gV (ag other),gV (.int n)] S Q';have hb:=aq (d:=0) hn;dsimp only[de];show st ?_;left;show ac #v[] rfl (ac #v[] rfl ?_)
 show ac #v[] rfl (ac (GZ n) (by rw[Ha]; exact j6 (G1 ∅) hb) (ac #v[] rfl ?_))
 show ab (aP (cH ?_)) ?_
 ·rw[GJ,GF]; show _+1<=_; omega
 dsimp only;have ev:u.map ag++[ag one,.tup [.int other.1,.tup (other.2.map W.int++[.int (bs.getD n 0)])]]=(cG bs u one other n).map ag:=by
  unfold cG;simp[ag]
 unfold ak at k ⊢;show ab (aP (cH ?_)) ?_
 ·rw[GJ,GF]; show _+2<=_; omega
 dsimp only;rw[ev];exact k
end
abbrev du:Ss:=
 #v[.set 5 (.lst .nil),.loop (.nm 6) (.rng #v[.bi .len #v[.ix (.v 0) (.c (.int 1))]]) #v[.ite (.own "_law_last_may" 4 #v[.v 0,.v 1,.own "_law_both" 5 #v[.v 0,.v 2,.v 3,.v 4,.v 6],.op .add (.bi .len #v[.v 2]) (.c (.int 1))]) #v[.ex (.me .append (.v 5) #v[.v 6])] .nil],.ret (.op .add (.v 5) (.op .mul (.lst #v[.neg (.c (.int 1))]) (.bi .int #v[.cmp .eq (.v 3) (.v 4)])))]
def qc {xs:GD G0}{b:G0}:(xs++[b]).getD xs.length 0=b:=by
 rw[Hg,HN (G3 _),J5]; rfl
def wJ {X:GD T}{U:GD (T×W)}{bs:GD G0}{a:GP}{u:Wd}{one other:Pt}{n:GP}(hk:∀t,(bT U t).isSome=decide (t∈X))(h2:GoodP a bs.length u.length other)(hm:b9 U u u.length other=true) :
  b9 U (u++[one]) (u++[one]).length (other.1,other.2++[bs.getD n 0])=(G8 u.length).all λp=>!ic X bs u one other n p:=by
 have hl:(u++[one]).length=u.length+1:=by rw[GJ]; rfl
 have key:∀p < u.length,bS U (u++[one]) (other.1,other.2++[bs.getD n 0]) p u.length=ic X bs u one other n p:=λp hp=>by
  unfold bS ic ib;dsimp only;rw[aD hp,bK,aX (by rw[h2.len]; exact hp),hk]
  have:(other.2++[bs.getD n 0]).getD u.length 0=bs.getD n 0:=by rw[<- h2.len]; exact qc
  rw[this]
 rw[Jp,bC,Hk,hl];constructor
 ·intro h p hp;have hp:=Hd.mp hp;rw[<- key p hp,h u.length ∅ p hp]; rfl
 ·intro h q hq p hp
  by_cases e:q=u.length
  ·subst e;have:=h p (Hd.mpr hp);rw[key p hp]
   simpa using this
  ·have hq':q < u.length:=∅
   have:=bC.mp hm q hq' p hp;unfold bS at this ⊢;dsimp only;rw[aD (Jt hp hq'),aD hq',aX (by rw[h2.len]; omega),aX (by rw[h2.len]; omega)]
   exact this
def Ey {one other:Pt}{s:GP}(h1:one.2.length=s)(h2:other.2.length=s):decide (one=other)=m5 one other s:=by
 unfold m5;rw[Jp,Hy,GQ,Nh,Hk];constructor
 ·rintro rfl;exact#[rfl,λp _=>by rw[Ip]]
 ·rintro⟨e,h⟩;show Oj e (KQ λi=>?_)
  by_cases hi:i < s
  ·have:=eq_of_beq (h i (Hd.mpr hi));rw[aq (d:=0) ∅,aq (d:=0) ∅,this]
  ·rw[JE ∅,JE ∅]
def oX {P:GP->Hj}{n:GP}:(((G8 n).filter P).map λ(i:GP)=>(i:G0)).length<=n:=by
 rw[GF];exact Hs (IP _ _) (by rw[Hq]; exact G3 _)
section
variable{defs:GD (Hc×Df)}{fuel d:GP}{S:aa}{Q:QW}
def zK (hm:Is defs ("_law_last_may" : Hc) 4 8 aF)(hbo:Is defs ("_law_both" : Hc) 5 5 de)(hg:Is defs ("_law_fills" : Hc) 5 7 du){m0 b0:W}{ns:GD Hc}{bs:GD G0}{a q:GP}{X:GD T}{u:Wd}{one other:Pt}{U:GD (T×W)}(hb:GoodB bs)(hnl:ns.length=bs.length)(hu:GoodW a bs.length u)(h1:GoodP a bs.length u.length one)(h2:GoodP a bs.length u.length other)(hul:u.length<=800)(e:S[q]?=gV (.dic U))
  (hk:∀t,(bT U t).isSome=decide (t∈X)) (hmay:b9 U u u.length other=true)
  (k:∀(l:GP) S',S'[l]?=gV (.lst (al (fg (ic X bs u one other) (m5 one other u.length) bs.length u.length)))->S.length<=l->Ka S S'->Q (.ref l,S')) :
  wO (aE (am defs fuel (d+2)) "_law_fills" 5 [.tup [m0,.tup (GY aB ns bs),b0],.ref q,ak u,ag one,ag other] S) Q:=by
 show ap hg rfl rfl λQ' hR=>?_
 replace k:∀(l:GP) S',S'[l]?=gV (.lst (al (fg (ic X bs u one other) (m5 one other u.length) bs.length u.length)))->S.length<=l->Ka S S'->Q' (.rt (.ref l),S'):=λl S' a b c=>hR _ _ (k l S' a b c)
 clear hR;change wZ _ _ du [gV (.tup [m0,.tup (GY aB ns bs),b0]),gV (.ref q),gV (ak u),gV (ag one),gV (ag other),td,td] S Q';have hb3:bs.length<=3:=by rcases hb with rfl|rfl|rfl|rfl|rfl|rfl <;> decide
 have ul:(u.map ag).length=u.length:=GF ..;have sl:((u++[one]).length:G0)=(u.length:G0)+1:=by rw[GJ,HB]; rfl
 have hul2:(u++[one]).length<=1000:=by rw[GJ,HB]; omega
 have gu:GoodW a bs.length (u++[one]):=hu.snoc (m:=one.1) (ws:=one.2) h1.mark h1.len h1.way;generalize hR0:W.tup [m0,.tup (GY aB ns bs),b0]=R;have lw:∀(S:aa) (Q:QW),Q (.int (bs.length:G0),S)->wO (gW R (.int 1) S) λp=>wO (Bi.len.fn [p.1] p.2) Q:=λS Q q=>by
  subst hR0;show ac #v[] rfl (az ?_)
  rw[IC,hnl,Ju]; exact q
 have lb:∀(n:GP) (S:aa) (Q:QW),n < bs.length->Q (ak (u++[one]++[(other.1,other.2++[bs.getD n 0])]),S)->wO (aE (am defs fuel (d+1)) "_law_both" 5 [R,ak u,ag one,ag other,.int n] S) Q:=λn S Q hn q=>by
  subst hR0;exact qb (d:=d) hbo hnl hn ∅ (by rw[h2.len]; omega) q
 clear hR0;have hP:=λn=>wJ (n:=n) (one:=one) hk h2 hmay
 unfold fg at k;generalize hPd:(λi=>(G8 u.length).all λp=>!ic X bs u one other i p)=P at k
 have hP:∀n,b9 U (u++[one]) (u++[one]).length (other.1,other.2++[bs.getD n 0])=P n:=λn=>by rw[hP n,<- hPd]
 clear hPd;dsimp only[du];show st ?_;dsimp only[wS,wE,wA,G2];nofun
 show bB (bs.length:G0) (λi Z S'=>(∃a6,Z=[gV R,gV (.ref q),gV (ak u),gV (ag one),gV (ag other),gV (.ref S.length),a6])/\S'[S.length]?=gV (.lst (al (((G8 i).filter P).map λ(i:GP)=>(i:G0))))/\Ka S S') rfl rfl ∅ ?_ ?_ ?_
 ·dsimp only[wE,wA,wV,wG];exact lw _ _ #[rfl,#[_,rfl],aj,.push]
 ·rintro i Z S2 hi ⟨⟨a6,rfl⟩,e2,k2⟩ Q2 hn _;clear hK;have hib:i < bs.length:=∅
  dsimp only[G2];nofun
  dsimp only[wS,wT,wE,wA,wV,wG];show lb i _ _ hib (az ?_);rw[ul];show ab cM ?_;dsimp only;rw[<- sl];show kz (d:=d) hm gu (by show(other.2++[_]).length=_; rw[GJ,h2.len,GJ]; rfl) hul2 (k2.get _ _ e) ?_
  rw[hP];show ab (show cX S2 (.bl (P i))=gV (P i)from rfl) ?_
  show ae (Q0:=Q2) (λhp Q3 hn3 _=>?_) (λhp Q3 hn3 _=>aN (hn3 _ _ (hK _ _ (aN (hn _ _ #[#[_,rfl],?_,k2])))))
  ·show st ?_;left;show#[da e2,jb e2 ?_ (aN (hn3 _ _ (hK _ _ (aN (hn _ _ #[#[_,rfl],?_,k2.late (G3 _)])))))]
   ·have:=oX (P:=P) (n:=i);unfold al;rw[GF];omega
   ·rw[bV e2,IL,J4,Hh,NY,hp];unfold al;rw[Hh]; rfl
  ·rw[IL,J4,NY,hp]
   simpa using e2
 ·rintro Z S2 ⟨⟨a6,rfl⟩,e2,k2⟩;rw[Ha]at e2;show hK _ _ ?_;clear hK K;show st ?_;dsimp only[wS,wE,wA,wV,wG,wN];show ab Em ?_;rw[Ey h1.len h2.len];generalize m5 one other u.length=c at k;obtain⟨g,hg,eg,er⟩ : ∃g:GP,g<=1/\(∀S,Bi.int.fn [.bl c] S=gV (.int (g:G0),S))/\al (if c then[-1]else[])=HU g (W.int (-1)):=by
   cases c
   ·exact#[0,#v[],λ_=>rfl,rfl]
   ·exact#[1,#v[],λ_=>rfl,rfl]
  show ab (eg _) ?_;dsimp only;show Eg aj ∅ ?_
  have hl:=oX (P:=P) (n:=bs.length);show ab (jY (aw (aw e2)) aj (cH (by unfold al; rw[GJ,Mk,GF]; omega))) (k _ _ ?_ ?_ (((k2.trans .push).trans .push).trans .push))
  ·unfold al at er ⊢;rw[Hh,er];exact aj
  ·have:=k2.len;simp; omega
end
abbrev eO:Ss:=
 #v[.loop (.nm 3) (.rng2 #v[.c (.int 2),.bi .len #v[.v 2]]) #v[.ite (.not (.own "_law_last_may" 4 #v[.v 0,.v 1,.v 2,.v 3])) #v[.ret (.c (.bl false))] .nil],.ret (.c (.bl true))]
abbrev bZ:Ss:=
 #v[.loop (.tp [2,3]) (.enu #v[.v 1]) #v[.ite (.or (.not (.isi "tuple" (.v 3))) (.or (.cmp .ne (.bi .len #v[.v 3]) (.c (.int 2))) (.or (.not (.isi "tuple" (.ix (.v 3) (.c (.int 1))))) (.cmp .ne (.bi .len #v[.ix (.v 3) (.c (.int 1))]) (.v 2))))) #v[.ret (.c (.bl false))] .nil,.set 5 (.op .add (.lst #v[.tup #v[.ix (.v 3) (.c (.int 0)),.bi .len #v[.ix (.v 0) (.c (.int 0))]]]) (.comp (.tup #v[.v 1,.bi .len #v[.ix (.v 2) (.c (.int 1))]]) (.nm 1) (.seq (.ix (.v 3) (.c (.int 1)))) .nil [td,td,gV 0])),.loop (.tp [4,6]) (.seq (.v 5)) #v[.ite (.or (.isi "bool" (.v 4)) (.or (.not (.isi "int" (.v 4))) (.not (.chn .le .lt (.c (.int 0)) (.v 4) (.v 6))))) #v[.ret (.c (.bl false))] .nil]],.ret (.c (.bl true))]
abbrev cR:Ss:=
 #v[.ite (.or (.not (.isi "tuple" (.v 2))) (.or (.cmp .ne (.bi .len #v[.v 2]) (.c (.int 3))) (.not (.isi "tuple" (.ix (.v 2) (.c (.int 0))))))) #v[.ret (.c (.bl false))] .nil,.asg [4,5,6] (.v 2),.loop (.nm 7) (.seq (.tup #v[.v 5,.v 6])) #v[.ite (.or (.not (.own "_law_is_world" 2 #v[.v 0,.op .add (.v 4) (.tup #v[.v 7])])) (.not (.own "_law_may" 3 #v[.v 0,.v 1,.op .add (.v 4) (.tup #v[.v 7])]))) #v[.ret (.c (.bl false))] .nil],.set 8 (.own "_law_fills" 5 #v[.v 0,.v 1,.v 4,.v 5,.v 6]),.ret (.or (.cmp .eq (.v 8) (.lst .nil)) (.and (.v 3) (.cmp .eq (.v 8) (.lst #v[.neg (.c (.int 1))]))))]
abbrev CI (n:GP)(bw:Hj):GP:=if bw then n else n+1
def qd {X:GD T}{U:GD (T×W)}{bs:GD G0}{u:Wd}{p q:Pt}{i k:GP}(hk:∀t,(bT U t).isSome=decide (t∈X)):ic X bs u p q i k=bd U (ib u p q (bs.getD i 0) k):=(hk _).symm
def wK {X:GD T}{U:GD (T×W)}{bs:GD G0}{u:Wd}{p q:Pt}{bw:Hj}(hk:∀t,(bT U t).isSome=decide (t∈X)):Full U bs (CI bs.length bw) u p q↔(fg (ic X bs u p q) (m5 p q u.length) bs.length u.length=[]\/(bw=true/\fg (ic X bs u p q) (m5 p q u.length) bs.length u.length=[-1])):=by
 have key:∀i < bs.length,((i:G0)∈fg (ic X bs u p q) (m5 p q u.length) bs.length u.length↔bo U bs u p q i=false):=λi hi=>by
  rw[lM];constructor
  ·rintro(⟨j,e,_,h⟩|⟨e,_⟩)
   ·obtain rfl:i=j:=∅
    rw[Jd];intro z;obtain⟨k,hk1,hk2⟩:=(dH hi).mp z;have:=h k hk1;rw[qd hk,hk2]at this; cases this
   ·omega
  ·intro h;show .inl #[i,rfl,hi,λk hk1=>?_]
   rw[Jd];intro z;rw[qd hk]at z;rw[(dH hi).mpr #[k,hk1,z]]at h; cases h
 have keyS:((-1:G0)∈fg (ic X bs u p q) (m5 p q u.length) bs.length u.length↔bo U bs u p q bs.length=false):=by
  rw[lM];have:bo U bs u p q bs.length = !m5 p q u.length:=by unfold bo; rw[HD (HY _)]
  rw[this];constructor
  ·rintro(⟨j,e,_,_⟩|⟨_,h⟩)
   ·omega
   ·rw[h]; rfl
  ·intro h;exact .inr #[rfl,by simpa using h]
 have ways:(∀i < bs.length,bo U bs u p q i=true)->fg (ic X bs u p q) (m5 p q u.length) bs.length u.length=if m5 p q u.length then[-1]else[]:=λh=>by
  have e:(G8 bs.length).filter (λi=>(G8 u.length).all λk=>!ic X bs u p q i k)=[]:=List.filter_eq_nil_iff.mpr λi hi=>by
   have hi:=Hd.mp hi;obtain⟨k,hk1,hk2⟩:=(dH hi).mp (h i hi);intro z;have:=Hk.mp z k (Hd.mpr hk1);rw[qd hk,hk2]at this; cases this
  unfold fg;rw[e]; rfl
 generalize hL:fg (ic X bs u p q) (m5 p q u.length) bs.length u.length=L at key keyS ways;unfold Full CI;cases bw with
 | true=>
  rw[Ho rfl];constructor
  ·intro h;rw[ways h];cases m5 p q u.length
   ·exact .inl rfl
   ·exact .inr #[rfl,rfl]
  ·intro h i hi;cases hh:bo U bs u p q i with
   | true=>rfl
   | false=>
    have:=(key i hi).mpr hh;rcases h with h|⟨_,h⟩
    ·rw[h]at this; cases this
    ·rw[h]at this;have:=G6.mp this;omega
 | false=>
  rw[HD Hb];constructor
  ·intro h;have hw:=ways λi hi=>h i ∅
   have hs:m5 p q u.length=false:=by
    have:=h bs.length (IZ _);unfold bo at this;rw[HD (HY _)]at this
    simpa using this
   rw[hs]at hw;exact .inl hw
  ·intro h i hi;have h:L=[]:=by
    rcases h with h|⟨z,_⟩
    ·exact h
    ·cases z
   cases hh:bo U bs u p q i with
   | true=>rfl
   | false=>
    by_cases hn:i < bs.length
    ·have:=(key i hn).mpr hh;rw[h]at this; cases this
    ·obtain rfl:i=bs.length:=∅
     have:=keyS.mpr hh;rw[h]at this; cases this
section
variable{defs:GD (Hc×Df)}{fuel d:GP}{S:aa}{Q:QW}
def zL {M:Hc->FF}{Z:Fm}{i j l:GP}{bw:Hj}{L:GD G0}(e:S[l]?=gV (.lst (al L)))(hi:∀P:W->Prop,P (.ref l)->wV Z i P)(hj:∀P:W->Prop,P (.bl bw)->wV Z j P)
  (k:∀(c:Hj) S',(c=true↔(L=[]\/(bw=true/\L=[-1])))->Ka S S'->Q (.bl c,S')) :
  wE M (.or (.cmp .eq (.v i) (.lst .nil)) (.and (.v j) (.cmp .eq (.v i) (.lst #v[.neg (.c (.int 1))])))) Z S Q:=by
 dsimp only[wE,wA,wN];show hi _ (ab (Ap (aw e) aj) ?_);dsimp only[wB];have e0:(al L).isEmpty=L.isEmpty:=by cases L <;> rfl
 rw[e0];show#[λh=>k true _ #[λ_=>.inl (LP.mp h),λ_=>rfl] .push,λh=>?_]
 have hne:L≠[]:=λz=>by rw[z]at h; cases h
 show hj _ ?_;dsimp only[wB];show#[λhb=>hi _ (ab (Cg (xs:=L) (ys:=[-1]) (aw (aw e)) aj) ?_),λhb=>k false _ #[λz=>(by cases z),λz=>?_] .push]
 ·show k _ _ #[λz=>.inr #[hb,Ij z],λz=>?_] (Ka.push.trans .push)
  rcases z with z|⟨_,z⟩
  ·exact absurd z hne
  ·exact Iu z
 ·rcases z with z|⟨z,_⟩
  ·exact absurd z hne
  ·rw[hb]at z; cases z
end
abbrev dv:Ss:=
 #v[.ret (.and (.own "is_base_with_two" 2 #v[.v 0,.v 1]) (.cmp .notin (.c .non) (.own "barred_by" 4 #v[.v 0,.ix (.v 1) (.c (.int 0)),.ix (.v 1) (.c (.int 1)),.ix (.v 1) (.c (.int 2))])))]
abbrev oY (a:GP)(bs:GD G0)(U:GD (T×W))(c:GP)(w:W):Prop:=∃x:Wd×Pt×Pt,w=cW x/\Cf a bs.length U x.1 x.2.1 x.2.2/\Full U bs c x.1 x.2.1 x.2.2
def wL {u v:Wd}(h:ak u=ak v):u=v:=by
 unfold ak at h;injection h with h
 exact(KC λx y z=>iY z).mp h
def Ez {S:aa}{w:W}{P:GP->GP->GP->Hj}{n:GP}(h:Ans P n w):aJ .is w .non S=gV (.bl (ii (∀i j k,i < j->j < k->k < n->P i j k=false)),S):=by
 rcases h with⟨rfl,h⟩|⟨i,j,k,rfl,h1,h2,h3,h4,_⟩
 ·rw[fQ h]; rfl
 ·rw[rs λz=>by rw[z i j k h1 h2 h3]at h4; cases h4]; rfl
def wM {U:GD (T×W)}{bs:GD G0}{gs:GD Wd}{u:Wd}(h:HasD U (bH bs gs)):(∀i j k,i < j->j < k->k < u.length->decide (dy (bX u i j k)∈(bH bs gs).map dy)=false)↔Std U u:=by
 constructor
 ·intro z k hk j hj i hi;unfold bG;rw[h.get];exact z i j k hi hj hk
 ·intro z i j k hi hj hk;have:=z k hk j hj i hi;unfold bG at this;rw[h.get]at this;exact this
def Cw {α:Type}{f:α->Hj}{x y:α}:([x,y].map f).all id=true↔f x=true/\f y=true:=by
 rw[Ir,Ir,HF,HF,GQ,GQ];exact#[λh=>#[h.1,h.2.1],λh=>#[h.1,h.2,rfl]]
section
variable{defs:GD (Hc×Df)}{fuel d:GP}{S:aa}{Q:QW}
def qe (hfu:20 < fuel)(F:Fil defs)(B:Bwt defs){ms:GD W}{ns:GD Hc}{bs:GD G0}{a:GP}{gs:GD Wd}{U:GD (T×W)}{w:W}(hb:GoodB bs)(hnl:ns.length=bs.length)(hml:ms.length=a)(hgs:∀g∈gs,GoodW a bs.length g/\g.length=3)(h64:gs.length<=100)(hk:HasD U (bH bs gs))(hw:Thg S w)
  (k:∀(b:Hj) S',(b=true↔∃x:Wd×Pt×Pt,w=cW x/\Cf a bs.length U x.1 x.2.1 x.2.2)->Ka S S'->Q (.bl b,S')) :
  wO (aE (am defs fuel (d+7)) "is_base_with_two" 2 [.tup [.tup ms,.tup (GY aB ns bs),.tup (gs.map ak)],w] S) Q:=by
 show ap B.bwt rfl rfl λQ' hR=>?_
 replace k:∀(b:Hj) S',(b=true↔∃x:Wd×Pt×Pt,w=cW x/\Cf a bs.length U x.1 x.2.1 x.2.2)->Ka S S'->Q' (.rt (.bl b),S'):=λb S' e a=>hR _ _ (k b S' e a)
 clear hR;have no:∀S',(¬ ∃x:Wd×Pt×Pt,w=cW x/\Cf a bs.length U x.1 x.2.1 x.2.2)->Ka S S'->Q' (.rt (.bl false),S'):=λS' h=>k false S' #[λz=>(by cases z),λz=>absurd z h]
 change wZ _ _ bL [gV (.tup [.tup ms,.tup (GY aB ns bs),.tup (gs.map ak)]),gV w] S Q';have zl:(GY aB ns bs).length=bs.length:=by rw[IC,hnl,Ju]
 have iw:=λ(S:aa) (Q:QW) (w:W)=>zJ (defs:=defs) (fuel:=fuel) (d:=d+1) (S:=S) (Q:=Q) (w:=w) (b0:=.tup (gs.map ak)) B.knd hml zl
 have ip:=λ(S:aa) (Q:QW) (w:W) (s:GP)=>rB (defs:=defs) (fuel:=fuel) (d:=d+2) (S:=S) (Q:=Q) (w:=w) (s:=s) (b0:=.tup (gs.map ak)) B.knd hml zl
 have fb:=λ(S:aa) (Q:QW) (u:Wd) (gu:GoodW a bs.length u) (hl:u.length<=1000)=>ki (defs:=defs) (fuel:=fuel) (d:=d+1) (S:=S) (Q:=Q) (m0:=.tup ms) hfu F.parts F.part F.longer F.barred F.three B.ft B.fb hb hnl hgs h64 gu hl
 generalize W.tup [.tup ms,.tup (GY aB ns bs),.tup (gs.map ak)]=R at iw ip fb;dsimp only[bL];nofun
 dsimp only[wS,wT,wE,wA,wV,wG];show wF (d:=d+5) (n:=3) B.knd hw ?_;show ab (show cX S (.bl (wz 3 w))=gV (wz 3 w)from rfl) #[λz=>?_,λz=>?_]
 ·show ae (Q0:=Q') (λ_ Q2 _ hr=>st ?_) (λz=>by cases z)
  dsimp only[wS,wE];show hr _ _ (no S ?_ .refl);rintro⟨x,rfl,_⟩;cases z
 obtain⟨t,p,q,rfl⟩ : ∃t p q,w=.tup [t,p,q]:=by
  cases w with
  | tup xs=>
   match xs,z with
   | [t,p,q],_=>exact#[t,p,q,rfl]
  | _=>cases z
 clear z;obtain⟨ht,hp,hq⟩ : Thg S t/\Thg S p/\Thg S q:=by
  cases hw with
  | tup h _=>exact#[h _ (by simp),h _ (by simp),h _ (by simp)]
 show ac #v[] rfl (iw _ _ t ht λS1 k1=>?_)
 show ab (show cX S1 (.bl (ii _))=gV (ii _)from rfl) ?_
 show ae (Q0:=Q') (λz Q2 _ hr=>st ?_) (λz Q2 hn _=>aN (hn _ _ (hK _ _ ?_)))
 ·dsimp only[wS,wE];show hr _ _ (no S1 ?_ k1);rintro⟨x,e,hC⟩;injection e with e
  injection e with e _
  rw[fQ #[x.1,e,hC.gu]]at z;cases z
 clear hn hK K;obtain⟨u,hu⟩:=cw.mp (show ii (∃u,t=ak u/\GoodW a bs.length u)=true by simpa using z)
 obtain⟨rfl,gu⟩:=hu;clear z;have ul:(u.map ag).length=u.length:=GF ..;have u1:u.length<=100:=by
  cases ht with
  | tup _ h=>rw[ul]at h; exact h
 have hpq:∀h∈[p,q],Thg S h:=λh hh=>by
  rcases Hn.mp hh with rfl|hh
  ·exact hp
  ·cases G6.mp hh; exact hq
 nofun
 dsimp only[wS,wT,wE,wA];show iR [p,q] id (λ_=>true) (λh=>.bl (ii (∃p,h=ag p/\GoodP a bs.length u.length p))) [gV R,gV (.tup [ak u,p,q])] rfl rfl rfl rfl (HI rfl) ?_ (λh hh S2 k2=>?_) λS2 k2=>?_
 ·dsimp only[wE,wP,wV,wG,wN];exact ab (show fR (.tup [ak u,p,q]) (gV 1) td S1=gV (.tup [p,q],S1)from rfl) #[rfl,.refl]
 ·dsimp only[fm,wC,wE,wA,wV,wG];show#[λ_=>ac #v[] rfl (az ?_),λz=>by cases z]
  rw[ul];exact ip _ _ _ _ ((hpq h hh).ka (k1.trans k2)) λS3 k3=>#[rfl,rfl,k3]
 rw[bO];dsimp only;show kB (L:=[p,q].map λh=>ii (∃p,h=ag p/\GoodP a bs.length u.length p)) (by rw[IG]; exact aj) ?_
 show ab (show cX _ (.bl _)=gV _ from rfl) ?_
 have k2':=k1.trans (k2.trans (Ka.push (o:=O.lst ([p,q].map λh=>W.bl (ii (∃p,h=ag p/\GoodP a bs.length u.length p))))))
 generalize S2++[O.lst ([p,q].map λh=>W.bl (ii (∃p,h=ag p/\GoodP a bs.length u.length p)))]=S3 at k2'
 show ae (Q0:=Q') (λz Q2 _ hr=>st ?_) (λz Q2 hn _=>aN (hn _ _ (hK _ _ ?_)))
 ·dsimp only[wS,wE];show hr _ _ (no S3 ?_ k2');rintro⟨x,e,hC⟩;injection e with e
  injection e with e1 e
  injection e with e2 e
  injection e with e3 _
  cases wL e1;have:=(Cw (f:=λh=>ii (∃p',h=ag p'/\GoodP a bs.length x.1.length p'))).mpr #[fQ #[x.2.1,e2,hC.gp],fQ #[x.2.2,e3,hC.gq]]
  rw[this]at z;cases z
 clear hn hK K;obtain⟨h1,h2⟩:=Cw.mp (show([p,q].map λh=>ii (∃p,h=ag p/\GoodP a bs.length u.length p)).all id=true by simpa using z)
 obtain⟨p',h1⟩:=cw.mp h1;obtain⟨q',h2⟩:=cw.mp h2;obtain⟨rfl,gp⟩:=h1;obtain⟨rfl,gq⟩:=h2;clear z;show st ?_;dsimp only[wS,wE,wA];show iR [p',q'] ag (λ_=>true) (λh=>.bl (ii (Std U (u++[h])))) [gV R,gV (.tup [ak u,ag p',ag q'])] rfl rfl rfl rfl (HI rfl) ?_ (λh hh S4 k4=>?_) λS4 k4=>?_
 ·dsimp only[wE,wP,wV,wG,wN];exact ab (show fR (.tup [ak u,ag p',ag q']) (gV 1) td S3=gV (.tup ([p',q'].map ag),S3)from rfl) #[rfl,.refl]
 ·have gh:GoodP a bs.length u.length h:=by
   rcases Hn.mp hh with rfl|hh
   ·exact gp
   ·cases G6.mp hh; exact gq
  dsimp only[fm,wC,wE,wA,wV,wG];show#[λ_=>ac #v[] rfl ?_,λz=>by cases z]
  dsimp only[ak];have ev:u.map ag++[ag h]=(u++[h]).map ag:=by rw[Hh]; rfl
  show ab (aP (cH (by rw[GJ,ul]; show _+1<=_; omega))) ?_
  dsimp only;rw[ev];have fb1:=λ(Q:QW)=>fb S4 Q (u++[h]) (gh.snoc gu) (by rw[GJ,HB]; omega)
  unfold ak at fb1;show fb1 _ λw S5 hw k5=>?_
  show ab (Ez hw) #[rfl,?_,k5];rw[propext (wM hk)]
 ·rw[bO];show kB (L:=[p',q'].map λh=>ii (Std U (u++[h]))) (by rw[IG]; exact aj) (k _ _ ?_ (k2'.trans (k4.trans .push)))
  rw[Cw,cw,cw,Std.both,Std.both];constructor
  ·rintro⟨⟨s1,m1⟩,_,m2⟩;exact#[(u,p',q'),rfl,gu,s1,gp,m1,gq,m2]
  ·rintro⟨x,e,hC⟩;cases m9 (x:=(u,p',q')) e;exact#[#[hC.su,hC.mp],hC.su,hC.mq]
def Cy {U:GD (T×W)}{bs:GD G0}{a:GP}{u:Wd}{p q:Pt}{c:GP}{Yq:GD W}(hC:Cf a bs.length U u p q)(hY:Yq.length=c)(h:∀i < c,∃w,Yq[i]?=gV w/\NI w/\CH w = !bo U bs u p q i){Q:QW}
  (k:∀b:Hj,(b=true↔oY a bs U c (cW (u,p,q)))->Q (.bl b,S)):wO (aJ .notin .non (.tup Yq) S) Q:=by
 obtain⟨ni,lk⟩:=lP hY h;show ab (oV ni) (k _ ?_);rcases lk with⟨h1,h2⟩|⟨i,hi,h3,_,h4,_⟩
 ·rw[h1];exact#[λ_=>#[(u,p,q),rfl,hC,h2],λ_=>rfl]
 ·rw[h3];show#[λz=>(by cases z),λ#[x,e,_,hF]=>?_]
  cases m9 e;rw[hF i hi]at h4;cases h4
def oZ (hfu:20 < fuel)(F:Fil defs)(B:Bwt defs)(hg:Is defs ("is_unlaid" : Hc) 2 2 dv){ms:GD W}{ns:GD Hc}{bs:GD G0}{a:GP}{gs:GD Wd}{U:GD (T×W)}{w:W}(hb:GoodB bs)(hnl:ns.length=bs.length)(hml:ms.length=a)(hgs:∀g∈gs,GoodW a bs.length g/\g.length=3)(h64:gs.length<=100)(hk:HasD U (bH bs gs))(hw:Thg S w)
  (k:∀(b:Hj) S',(b=true↔oY a bs U (bs.length+1) w)->Ka S S'->Q (.bl b,S')) :
  wO (aE (am defs fuel (d+8)) "is_unlaid" 2 [.tup [.tup ms,.tup (GY aB ns bs),.tup (gs.map ak)],w] S) Q:=by
 show ap hg rfl rfl λQ' hR=>?_
 replace k:∀(b:Hj) S',(b=true↔oY a bs U (bs.length+1) w)->Ka S S'->Q' (.rt (.bl b),S'):=λb S' x y=>hR _ _ (k b S' x y)
 clear hR;change wZ _ _ dv [gV (.tup [.tup ms,.tup (GY aB ns bs),.tup (gs.map ak)]),gV w] S Q';dsimp only[dv];show st ?_;left;show qe (d:=d) hfu F B hb hnl hml hgs h64 hk hw λb S1 hbw k1=>#[λz=>?_,λz=>?_]
 ·obtain⟨⟨u,p,q⟩,rfl,hC⟩:=hbw.mp z;dsimp only at hC;have u1:u.length<=100:=by
   cases hw with
   | tup h _=>
    have:=h (ak u) HH;cases this with
    | tup _ h=>rw[GF]at h; exact h
  dsimp only[cW];show ac #v[] rfl (ac #v[] rfl (ac #v[] rfl ?_))
  show oT (d:=d+2) hfu F B.by' hb hnl hgs h64 hC.gu hC.gp hC.gq ∅ λS2 k2=>?_
  rw[Cv hk];exact Cy hC lK (λi hi=>kA hC.gp hC.gq ∅) λb hb=>k b _ hb (k1.trans k2)
 ·show k false _ #[λy=>(by cases y),λ#[x,e,hC,_]=>?_] k1
  rw[hbw.mpr #[x,e,hC]]at z;cases z
def qf (hg:Is defs ("_law_last_may" : Hc) 4 8 aF){R:W}{a n q k:GP}{u:Wd}{U:GD (T×W)}(hu:GoodW a n u)(hk:k < u.length)(hl:u.length<=1000)(e:S[q]?=gV (.dic U))(kk:Q (.bl (b9 U u k (u.getD k (0,[]))),S)) :
  wO (aE (am defs fuel (d+1)) "_law_last_may" 4 [R,.ref q,ak u,.int (k:G0)] S) Q:=by
 show ap hg rfl rfl λQ' hR=>?_
 replace kk:=hR _ _ kk;clear hR;change wZ _ _ aF [gV R,gV (.ref q),gV (ak u),gV (.int (k:G0)),td,td,td,td] S Q';have hh:(u.getD k (0,[])).2.length=k:=hu.len k _ (aq (d:=(0,[])) hk);have at':∀p < k,((u.map ag)[((p:GP):G0).toNat]?=gV (ag (u.getD p (0,[])))):=λp hp=>cm ∅
 have hw:∀p < k,(al (u.getD k (0,[])).2)[((p:GP):G0).toNat]?=gV (.int ((u.getD k (0,[])).2.getD p 0)):=λp hp=>by
  rw[Ha]; unfold al; rw[GV,aq (d:=0) ∅]; rfl
 dsimp only[aF];show st ?_;dsimp only[wS,wE,wV,wG];show ac (GZ _) (cm hk) ?_;generalize u.getD k (0,[])=h at hh hw kk;dsimp only[wU,ag];show ab (show cC [4,5] [.int h.1,.tup (h.2.map W.int)] [gV R,gV (.ref q),gV (ak u),gV (.int (k:G0)),td,td,td,td]=gV [gV R,gV (.ref q),gV (ak u),gV (.int (k:G0)),gV (.int h.1),gV (.tup (al h.2)),td,td]from rfl) ?_
 nofun
 show cp 1 (k:G0) (λm Z S'=>(∃a6 a7,Z=[gV R,gV (.ref q),gV (ak u),gV (.int (k:G0)),gV (.int h.1),gV (.tup (al h.2)),a6,a7])/\(∀j < m+1,∀i < j,bS U u h i j=false)/\S'=S) rfl rfl rfl ∅ #[rfl,rfl,#[_,_,rfl],λj hj i hi=>∅,rfl] ?_ ?_
 ·rintro m Z S1 hm1 ⟨⟨a6,a7,rfl⟩,hb,rfl⟩ Q2 hn2 hr2;clear hK;rw[show(1:G0)+m=((m+1:GP):G0) by omega]
  have hmu:m+1 < k:=∅
  generalize hj:m+1=j at hmu hn2 hb;dsimp only[G2];nofun
  show bB (j:G0) (λi Z S'=>(∃a7,Z=[gV R,gV (.ref q),gV (ak u),gV (.int (k:G0)),gV (.int h.1),gV (.tup (al h.2)),gV (.int (j:G0)),a7])/\(∀x < i,bS U u h x j=false)/\S'=S1) rfl rfl ∅ #[rfl,#[_,rfl],λx hx=>∅,rfl] ?_ ?_
  ·rintro i Z S2 hi ⟨⟨a7,rfl⟩,hb2,rfl⟩ Q3 hn3 hr3;clear hK;have hij:i < j:=∅
   have lj:i < (u.getD j (0,[])).2.length:=by rw[hu.len j _ (aq (d:=(0,[])) ∅)]; exact hij
   dsimp only[G2];nofun
   dsimp only[wS,wT,wE,wA,wV,wG];show ac (GZ i) (at' i ∅) (ac #v[] rfl (ac (GZ j) (at' j hmu) (ac #v[] rfl (ac (GZ j) (at' j hmu) (ac #v[] rfl (ac (w:=.int ((u.getD j (0,[])).2.getD i 0)) (GZ i) (by rw[Ha,GV,aq (d:=0) lj]; rfl) (ac (GZ i) (hw i ∅) (ac (GZ j) (hw j hmu) ?_))))))))
   show ab (show aJ .isin (ak [((u.getD i (0,[])).1,[]),((u.getD j (0,[])).1,[(u.getD j (0,[])).2.getD i 0]),(h.1,[h.2.getD i 0,h.2.getD j 0])]) (.ref q) S2=gV (.bl (bS U u h i j),S2) by simp only[aJ,eR e,gH]; rfl) ?_
   dsimp only[wB];show ae (Q0:=Q3) (λz Q5 _ hr5=>st ?_) (λz Q5 hn5 _=>aN (hn5 _ _ (hK _ _ (aN (hn3 _ _ #[#[_,rfl],λx hx=>?_,rfl])))))
   ·dsimp only[wS,wE];have:b9 U u k h=false:=Jd.mpr λy=>by rw[bC.mp y j hmu i hij]at z; cases z
    rw[this]at kk;exact hr5 _ _ (hr3 _ _ (hr2 _ _ kk))
   ·by_cases hxi:x=i
    ·rw[hxi]; exact z
    ·exact hb2 x ∅
  ·rintro Z S2 ⟨⟨a7,rfl⟩,hb2,rfl⟩;rw[Ha]at hb2;show hK _ _ (aN (hn2 _ _ #[#[_,_,rfl],λx hx i hi=>?_,rfl]))
   by_cases hxi:x=j
   ·subst hxi; exact hb2 i hi
   ·exact hb x ∅ i hi
 ·rintro Z S1 ⟨⟨a6,a7,rfl⟩,hb,rfl⟩;show hK _ _ (st ?_);dsimp only[wS,wE];rw[bC.mpr λx hx i hi=>hb x ∅ i hi]at kk
  exact kk
def sV (hlm:Is defs ("_law_last_may" : Hc) 4 8 aF)(hg:Is defs ("_law_may" : Hc) 3 4 eO){R:W}{a n q:GP}{u:Wd}{U:GD (T×W)}(hu:GoodW a n u)(hl:u.length<=1000)(e:S[q]?=gV (.dic U))(k:Q (.bl (ii (Std U u)),S)) :
  wO (aE (am defs fuel (d+2)) "_law_may" 3 [R,.ref q,ak u] S) Q:=by
 show ap hg rfl rfl λQ' hR=>?_
 replace k:=hR _ _ k;change wZ _ _ eO [gV R,gV (.ref q),gV (ak u),td] S Q';have ul:(u.map ag).length=u.length:=GF ..;dsimp only[eO];nofun
 show cp 2 (u.length:G0) (λm Z S'=>(∃a3,Z=[gV R,gV (.ref q),gV (ak u),a3])/\(∀k < m+2,k < u.length->∀j < k,∀i < j,bG U u i j k=false)/\S'=S) rfl rfl rfl ∅ ?_ ?_ ?_
 ·dsimp only[wE,wA,wV,wG];show#[rfl,az ?_];rw[ul];exact#[rfl,#[_,rfl],λk hk _ j hj i hi=>∅,rfl]
 ·rintro m Z S1 hm ⟨⟨a3,rfl⟩,hb,rfl⟩ Q2 hn2 hr2;clear hK;rw[show(2:G0)+m=((m+2:GP):G0) by omega]
  have hmu:m+2 < u.length:=∅
  generalize hj:m+2=j at hmu hn2 hb;dsimp only[G2];nofun
  dsimp only[wS,wT,wE,wA,wV,wG];show qf (d:=d) hlm hu hmu hl e ?_;show ab (show cX S1 (.bl _)=gV _ from rfl) ?_
  show ae (Q0:=Q2) (λz Q5 _ hr5=>st ?_) (λz Q5 hn5 _=>aN (hn5 _ _ (hK _ _ (aN (hn2 _ _ #[#[_,rfl],λx hx hxu y hy i hi=>?_,rfl])))))
  ·dsimp only[wS,wE];have:¬ Std U u:=λh=>by
    rw[bC.mpr λy hy i hi=>h j hmu y hy i hi]at z; cases z
   rw[rs this]at k;exact hr5 _ _ (hr2 _ _ k)
  ·by_cases hxi:x=j
   ·subst hxi;exact bC.mp (show b9 U u x (u.getD x (0,[]))=true by simpa using z) y hy i hi
   ·exact hb x ∅ hxu y hy i hi
 ·rintro Z S1 ⟨⟨a3,rfl⟩,hb,rfl⟩;show hK _ _ (st ?_);dsimp only[wS,wE];rw[fQ (p:=Std U u) λx hx y hy i hi=>hb x ∅ hx y hy i hi]at k
  exact k
abbrev zM (n:GP):W->Hj
 | .int i=>decide (0<=i)&&decide (i < (n:G0))
 | _=>false
def jt {n:GP}{w:W}:zM n w=true↔∃i:G0,w=.int i/\0<=i/\i < n:=by
 constructor
 ·intro h;cases w with
  | int i=>
   replace h:(decide (0<=i)&&decide (i < (n:G0)))=true:=h;rw[GQ]at h;exact#[i,rfl,Ij h.1,Ij h.2]
  | _=>cases h
 ·rintro⟨i,rfl,h0,h1⟩;show(decide (0<=i)&&decide (i < (n:G0)))=true;rw[Iu h0,Iu h1]; rfl
def wQ {a n s:GP}{m:W}{ws:GD W}(hl:ws.length=s)(h0:zM a m=true)(h:∀w∈ws,zM n w=true):∃p,W.tup [m,.tup ws]=ag p/\GoodP a n s p:=by
 obtain⟨i,rfl,i0,i1⟩:=jt.mp h0;have:∀ws:GD W,(∀w∈ws,zM n w=true)->∃zs:GD G0,ws=zs.map W.int/\∀z∈zs,0<=z/\z < (n:G0):=by
  intro ws
  induction ws with
  | nil=>exact λ_=>#[[],rfl,λz hz=>nomatch hz]
  | cons w ws ih=>
   intro h;obtain⟨zs,rfl,hz⟩:=ih λw hw=>h w (Hv _ hw)
   obtain⟨j,rfl,j0,j1⟩:=jt.mp (h w HH);exact#[j::zs,rfl,K5.mpr #[#[j0,j1],hz]]
 obtain⟨zs,rfl,hz⟩:=this ws h;exact#[(i,zs),rfl,#[i0,i1],by rw[GF]at hl; exact hl,hz]
def o4 (hg:Is defs ("_law_is_world" : Hc) 2 7 bZ){Mqa N:GD W}{b0:W}{a n:GP}{xs:GD W}(hM:Mqa.length=a)(hN:N.length=n)(hx:∀x∈xs,Thg S x)(hl:xs.length<=200)(k:∀S',Ka S S'->Q (.bl (ii (∃u,W.tup xs=ak u/\GoodW a n u)),S')) :
  wO (aE (am defs fuel (d+1)) "_law_is_world" 2 [.tup [.tup Mqa,.tup N,b0],.tup xs] S) Q:=by
 show ap hg rfl rfl λQ' hR=>?_
 replace k:∀S',Ka S S'->Q' (.rt (.bl (ii (∀j < xs.length,∃p,xs[j]?=gV (ag p)/\GoodP a n j p))),S'):=λS' a=>by rw[propext wI]; exact hR _ _ (k S' a)
 clear hR;change wZ _ _ bZ [gV (.tup [.tup Mqa,.tup N,b0]),gV (.tup xs),td,td,td,td,td] S Q';have l0:∀(S:aa) (Q:QW),Q (.int (a:G0),S)->wO (gW (.tup [.tup Mqa,.tup N,b0]) (.int 0) S) λp=>wO (Bi.len.fn [p.1] p.2) Q:=λS Q q=>by
  show ac #v[] rfl (az ?_)
  rw[hM]; exact q
 have l1:∀(S:aa) (Q:QW),Q (.int (n:G0),S)->wO (gW (.tup [.tup Mqa,.tup N,b0]) (.int 1) S) λp=>wO (Bi.len.fn [p.1] p.2) Q:=λS Q q=>by
  show ac #v[] rfl (az ?_)
  rw[hN]; exact q
 generalize W.tup [.tup Mqa,.tup N,b0]=R at l0 l1;dsimp only[bZ];nofun
 show zB xs (λi Z S'=>(∃a2 a3 a4 a5 a6,Z=[gV R,gV (.tup xs),a2,a3,a4,a5,a6])/\(∀j < i,∃p,xs[j]?=gV (ag p)/\GoodP a n j p)/\Ka S S') rfl rfl #[rfl,#[_,_,_,_,_,rfl],λj hj=>∅,.refl] ?_ ?_
 ·rintro i x Z S1 hxi ⟨⟨a2,a3,a4,a5,a6,rfl⟩,hb,k1⟩;clear hK;have hi:i < xs.length:=(G5.mp hxi).1;have tx:=(hx x (G7 hxi)).ka k1;show ab (show fq (.tp [2,3]) (.tup [.int i,x]) [gV R,gV (.tup xs),a2,a3,a4,a5,a6] S1=gV ([gV R,gV (.tup xs),gV (.int i),gV x,a4,a5,a6],S1)from rfl) ?_
  intro Q2 hn2 hr2;have no:∀S',(¬ ∃p,x=ag p/\GoodP a n i p)->Ka S S'->Q2 (.rt (.bl false),S'):=λS' h ka=>by
   show hr2 _ _ ?_;have:=k S' ka;rw[rs λz=>by
    obtain⟨p,e,g⟩:=z i hi;rw[hxi]at e;cases e;exact h #[p,rfl,g]]at this
   exact this
  nofun
  dsimp only[wS,wT,wE,wA,wV,wG];have ret:(¬ ∃p,x=ag p/\GoodP a n i p)->∀(t:Hj),t=true->∀Q':QO,(∀Z' S',K Z' S'->Q' (.nx Z',S'))->(∀o S',(∀Z',o≠.nx Z')->Q2 (o,S')->Q' (o,S'))->(t=true->mR (am defs fuel d) fuel #v[.ret (.c (.bl false))] [gV R,gV (.tup xs),gV (.int i),gV x,a4,a5,a6] S1 Q')/\(t=false->mR (am defs fuel d) fuel .nil [gV R,gV (.tup xs),gV (.int i),gV x,a4,a5,a6] S1 Q'):=λh t ht=>ae (Q0:=Q2) (λ_ Q5 _ hr5=>st (by
    dsimp only[wS,wE];exact hr5 _ _ (no _ h k1))) λz=>by rw[ht]at z; cases z
  show ab tx.t #[λz=>ret (λ#[p,e,_]=>by subst e; exact Hb z) _ rfl,λz=>?_]
  cases tx with
  | tup ty hyl=>
   rename_i ys;show az (ab vz #[λzt=>ret (λ#[p,e,_]=>by cases e; exact Hb zt) _ rfl,λz=>?_])
   obtain⟨m,t,rfl⟩ : ∃m t,ys=[m,t]:=by
    match ys,z with
    | [m,t],_=>exact#[m,t,rfl]
    | [],z=>cases z
    | [_],z=>cases z
    | _::_::_::_,z=>
     simp at z;omega
   clear z;have tt:=ty t (Hv _ HH);have tm:=ty m HH;show ac #v[] rfl ?_
   show ab tt.t #[λzt=>ret (λ#[p,e,_]=>by cases e; exact Hb zt) _ rfl,λz=>?_]
   cases tt with
   | @tup ws tz hzl=>
    show ac #v[] rfl (az (ab vz ?_))
    dsimp only[wB]
    by_cases hwl:ws.length=i
    rotate_left
    ·show ret (λ#[p,e,g]=>?_) _ ?_
     ·cases e;have:=g.len;rw[GF]at hwl;exact hwl this
     ·have:((ws.length:G0)==(i:G0))=false:=by rw[Kn]; omega
      rw[this]; rfl
    have:((ws.length:G0)==(i:G0))=true:=by rw[Nh]; omega
    rw[this];clear ret this;show ae (Q0:=Q2) (λz=>by cases z) (λ_ Q5 hn5 _=>aN (hn5 _ _ (hK _ _ ?_)))
    clear hn5 hK K z;show st ?_;left;show ac #v[] rfl (l0 _ _ ?_)
    show iR ws id (λ_=>true) (λz=>.tup [z,.int (n:G0)]) [gV R] rfl rfl rfl rfl ∅ ?_ (λz hz S3 k3=>?_) λS3 k3=>?_
    ·dsimp only[wE,wV,wG];exact ac #v[] rfl #[by rw[N5],.refl]
    ·dsimp only[fm,wC,wE,wA,wV,wG];exact#[λ_=>l1 _ _ #[rfl,rfl,.refl],λz=>by cases z]
    rw[bO];dsimp only;have k3':=k1.trans (Ka.push.trans k3);have e1:=k3.get _ _ (aj (S:=S1) (o:=O.lst [.tup [m,.int (a:G0)]]));show ab (jY (aw e1) aj (cH (by rw[GJ,GF]; show 1+_<=_; omega))) ?_
    have kk:=(k3'.trans (Ka.push (o:=O.lst (ws.map λz=>W.tup [z,.int (n:G0)])))).trans (Ka.push (o:=O.lst ([.tup [m,.int (a:G0)]]++ws.map λz=>W.tup [z,.int (n:G0)])))
    have kk1:Ka S1 (S3++[O.lst (ws.map λz=>W.tup [z,.int (n:G0)])]++[O.lst ([.tup [m,.int (a:G0)]]++ws.map λz=>W.tup [z,.int (n:G0)])]):=((Ka.push.trans k3).trans .push).trans .push
    have e5:(S3++[O.lst (ws.map λz=>W.tup [z,.int (n:G0)])]++[O.lst ([.tup [m,.int (a:G0)]]++ws.map λz=>W.tup [z,.int (n:G0)])])[(S3++[O.lst (ws.map λz=>W.tup [z,.int (n:G0)])]).length]?=gV (O.lst ([.tup [m,.int (a:G0)]]++ws.map λz=>W.tup [z,.int (n:G0)])):=aj
    generalize S3++[O.lst (ws.map λz=>W.tup [z,.int (n:G0)])]++[O.lst ([.tup [m,.int (a:G0)]]++ws.map λz=>W.tup [z,.int (n:G0)])]=S5 at kk e5 kk1
    generalize(S3++[O.lst (ws.map λz=>W.tup [z,.int (n:G0)])]).length=t5 at e5
    have each:∀v∈[W.tup [m,.int (a:G0)]]++ws.map λz=>W.tup [z,.int (n:G0)],∃(z:W) (y:GP),v=.tup [z,.int (y:G0)]/\Thg S1 z/\((∃p,W.tup [m,.tup ws]=ag p/\GoodP a n i p)->zM y z=true):=by
     intro v hv;rcases Ht.mp hv with h|h
     ·show#[m,a,G6.mp h,tm,λ#[p,e,g]=>?_]
      cases e;exact jt.mpr #[_,rfl,g.mark.1,g.mark.2]
     ·obtain⟨z,hz,rfl⟩:=Hi.mp h;show#[z,n,rfl,tz z hz,λ#[p,e,g]=>?_]
      cases e;obtain⟨y,hy,rfl⟩:=Hi.mp hz;exact jt.mpr #[_,rfl,g.way y hy]
    nofun
    show jr t5 ([.tup [m,.int (a:G0)]]++ws.map λz=>W.tup [z,.int (n:G0)]) (λj Z S'=>(∃a4 a6,Z=[gV R,gV (.tup xs),gV (.int i),gV (.tup [m,.tup ws]),a4,gV (.ref t5),a6])/\(∀v∈([W.tup [m,.int (a:G0)]]++ws.map λz=>W.tup [z,.int (n:G0)]).take j,∀(z:W) (y:GP),v=.tup [z,.int (y:G0)]->zM y z=true)/\S'=S5) rfl rfl #[rfl,#[_,_,rfl],(λv hv=>nomatch hv),rfl] (λ_ _ _ h=>by rw[h.2.2]; exact e5) ?_ ?_
    ·rintro j v Z S6 hv ⟨⟨a4,a6,rfl⟩,hok,rfl⟩;clear hK;obtain⟨z,y,rfl,tz',himp⟩:=each v (G7 hv);replace tz':=tz'.ka kk1;show ab (show fq (.tp [4,6]) (.tup [z,.int (y:G0)]) [gV R,gV (.tup xs),gV (.int i),gV (.tup [m,.tup ws]),a4,gV (.ref t5),a6] S6=gV ([gV R,gV (.tup xs),gV (.int i),gV (.tup [m,.tup ws]),gV z,gV (.ref t5),gV (.int (y:G0))],S6)from rfl) ?_
     intro Q3 hn3 hr3;nofun
     dsimp only[wS,wT,wE,wA,wV,wG];have bad:zM y z=false->∀(t:Hj),t=true->∀Q':QO,(∀Z' S',K Z' S'->Q' (.nx Z',S'))->(∀o S',(∀Z',o≠.nx Z')->Q3 (o,S')->Q' (o,S'))->(t=true->mR (am defs fuel d) fuel #v[.ret (.c (.bl false))] [gV R,gV (.tup xs),gV (.int i),gV (.tup [m,.tup ws]),gV z,gV (.ref t5),gV (.int (y:G0))] S6 Q')/\(t=false->mR (am defs fuel d) fuel .nil [gV R,gV (.tup xs),gV (.int i),gV (.tup [m,.tup ws]),gV z,gV (.ref t5),gV (.int (y:G0))] S6 Q'):=λh t ht=>ae (Q0:=Q3) (λ_ Q5 _ hr5=>st (by
       dsimp only[wS,wE];exact hr5 _ _ (hr3 _ _ (no _ (λg=>by rw[himp g]at h; cases h) kk)))) λz=>by rw[ht]at z; cases z
     have good:zM y z=true->∀(t:Hj),t=false->∀Q':QO,(∀Z' S',K Z' S'->Q' (.nx Z',S'))->(∀o S',(∀Z',o≠.nx Z')->Q3 (o,S')->Q' (o,S'))->(t=true->mR (am defs fuel d) fuel #v[.ret (.c (.bl false))] [gV R,gV (.tup xs),gV (.int i),gV (.tup [m,.tup ws]),gV z,gV (.ref t5),gV (.int (y:G0))] S6 Q')/\(t=false->mR (am defs fuel d) fuel .nil [gV R,gV (.tup xs),gV (.int i),gV (.tup [m,.tup ws]),gV z,gV (.ref t5),gV (.int (y:G0))] S6 Q'):=λh t ht=>ae (Q0:=Q3) (λz=>by rw[ht]at z; cases z) λ_ Q5 hn5 _=>aN (hn5 _ _ (hK _ _ (aN (hn3 _ _ #[#[_,_,rfl],λv' hv' z' y' e'=>by
       rw[HJ,hv]at hv';rcases Ht.mp hv' with g|g
       ·exact hok v' g z' y' e'
       ·cases G6.mp g;injection e' with e'
        injection e' with e1 e'
        injection e' with e2 _
        injection e2 with e2
        rw[<- e1,show y'=y by omega]; exact h,rfl]))))
     clear hK;show ab tz'.b #[λq=>bad (by cases z <;> first|rfl|cases q) _ rfl,λq=>?_]
     show ab tz'.n #[λq2=>bad (by cases z <;> first|rfl|cases q2) _ rfl,λq2=>?_]
     cases z with
     | int v0=>
      show ab (show rT .le (.int 0) (.int v0) S6=gV (decide (0<=v0))from rfl) #[λq3=>?_,λq3=>?_]
      ·show ab (show dB .lt (.int v0) (.int (y:G0)) S6=gV (.bl (decide (v0 < (y:G0))),S6)from rfl) ?_
       dsimp only[wB];have ev:zM y (.int v0)=decide (v0 < (y:G0)):=by show(decide (0<=v0)&&_)=_; rw[q3,Kv]
       cases hd:decide (v0 < (y:G0))with
       | true=>exact good (by rw[ev,hd]) _ rfl
       | false=>exact bad (by rw[ev,hd]) _ rfl
      ·exact bad (by show(decide (0<=v0)&&_)=_; rw[q3,Mr]) _ rfl
     | bl=>cases q
     | _=>cases q2
    ·rintro Z S6 ⟨⟨a4,a6,rfl⟩,hok,rfl⟩;rw[HP]at hok;show hK _ _ (aN (hn2 _ _ #[#[_,_,_,_,_,rfl],λj hj=>?_,kk]))
     by_cases hji:j=i
     ·subst hji;obtain⟨p,e,g⟩:=wQ (m:=m) (n:=n) (a:=a) hwl (hok _ (by simp) m a rfl) λw hw=>hok _ (Hw _ (Hi.mpr #[w,hw,rfl])) w n rfl
      exact#[p,by rw[hxi,e],g]
     ·exact hb j ∅
   | _=>cases z
  | _=>cases z
 ·rintro Z S1 ⟨⟨a2,a3,a4,a5,a6,rfl⟩,hb,k1⟩;show hK _ _ (st ?_);dsimp only[wS,wE];have:=k _ k1;rw[fQ hb]at this;exact this
end
def zN {ts:GD W}{h:W}{v:Wd}{a n:GP}(e:W.tup (ts++[h])=ak v)(g:GoodW a n v):∃u p,v=u++[p]/\ts=u.map ag/\h=ag p/\GoodW a n u/\GoodP a n u.length p:=by
 unfold ak at e;injection e with e
 obtain⟨u,l,rfl,e1,e2⟩:=List.map_eq_append_iff.mp e.symm;obtain⟨p,l',rfl,e3,e4⟩:=List.map_eq_cons_iff.mp e2;cases List.map_eq_nil_iff.mp e4;have key:∀(k:GP) (q:Pt),u[k]?=gV q->GoodP a n k q:=λk q hq=>g.pt (by rw[HC (G5.mp hq).1]; exact hq)
 exact#[u,p,rfl,e1.symm,e3.symm,#[λk q h=>(key k q h).mark,λk q h=>(key k q h).len,λk q h=>(key k q h).way],g.pt (by rw[HN (G3 _),J5]; rfl)]
structure Tl3 (defs:GD (Hc×Df)):Prop where
 lmay:Is defs ("_law_last_may" : Hc) 4 8 aF
 both:Is defs ("_law_both" : Hc) 5 5 de
 fills:Is defs ("_law_fills" : Hc) 5 7 du
 may:Is defs ("_law_may" : Hc) 3 4 eO
 isw:Is defs ("_law_is_world" : Hc) 2 7 bZ
 unf:Is defs ("_law_unfilled" : Hc) 4 9 cR
section
variable{defs:GD (Hc×Df)}{fuel d:GP}{S:aa}{Q:QW}
def qg (V:Tl3 defs){ms:GD W}{b0:W}{ns:GD Hc}{bs:GD G0}{a q:GP}{bw:Hj}{X:GD T}{U:GD (T×W)}{w:W}(hb:GoodB bs)(hnl:ns.length=bs.length)(hml:ms.length=a)(hk:∀t,(bT U t).isSome=decide (t∈X))(e:S[q]?=gV (.dic U))(hw:Thg S w)
  (k:∀(b:Hj) S',(b=true↔oY a bs U (CI bs.length bw) w)->Ka S S'->Q (.bl b,S')) :
  wO (aE (am defs fuel (d+3)) "_law_unfilled" 4 [.tup [.tup ms,.tup (GY aB ns bs),b0],.ref q,w,.bl bw] S) Q:=by
 show ap V.unf rfl rfl λQ' hR=>?_
 replace k:∀(b:Hj) S',(b=true↔oY a bs U (CI bs.length bw) w)->Ka S S'->Q' (.rt (.bl b),S'):=λb S' x y=>hR _ _ (k b S' x y)
 clear hR;have no:∀S',¬ oY a bs U (CI bs.length bw) w->Ka S S'->Q' (.rt (.bl false),S'):=λS' h=>k false S' #[λz=>(by cases z),λz=>absurd z h]
 change wZ _ _ cR [gV (.tup [.tup ms,.tup (GY aB ns bs),b0]),gV (.ref q),gV w,gV (.bl bw),td,td,td,td,td] S Q';have zl:(GY aB ns bs).length=bs.length:=by rw[IC,hnl,Ju]
 have fl:=λ(S:aa) (Q:QW) (u:Wd) (p r:Pt) (hC:Cf a bs.length U u p r) (hl:u.length<=800) e=>zK (defs:=defs) (fuel:=fuel) (d:=d) (S:=S) (Q:=Q) (m0:=.tup ms) (b0:=b0) (q:=q) V.lmay V.both V.fills hb hnl hC.gu hC.gp hC.gq hl e hk hC.mq
 have iw:=λ(S:aa) (Q:QW) (xs:GD W)=>o4 (defs:=defs) (fuel:=fuel) (d:=d+1) (S:=S) (Q:=Q) (xs:=xs) (b0:=b0) V.isw hml zl
 generalize W.tup [.tup ms,.tup (GY aB ns bs),b0]=R at fl iw;dsimp only[cR];nofun
 dsimp only[wS,wT,wE,wA,wV,wG];have ret:¬ oY a bs U (CI bs.length bw) w->∀(t:Hj),t=true->∀Q2:QO,(∀Z' S',K Z' S'->Q2 (.nx Z',S'))->(∀o S',(∀Z',o≠.nx Z')->Q' (o,S')->Q2 (o,S'))->(t=true->mR (am defs fuel (d+2)) fuel #v[.ret (.c (.bl false))] [gV R,gV (.ref q),gV w,gV (.bl bw),td,td,td,td,td] S Q2)/\(t=false->mR (am defs fuel (d+2)) fuel .nil [gV R,gV (.ref q),gV w,gV (.bl bw),td,td,td,td,td] S Q2):=λh t ht=>ae (Q0:=Q') (λ_ Q5 _ hr5=>st (by
   dsimp only[wS,wE];exact hr5 _ _ (no _ h .refl))) λz=>by rw[ht]at z; cases z
 show ab hw.t #[λzt=>ret (λ#[x,e,_]=>by subst e; exact Hb zt) _ rfl,λzt=>?_]
 cases hw with
 | @tup xs hx hxl=>
  show az (ab vz #[λzt=>ret (λ#[x,e,_]=>by cases e; exact Hb zt) _ rfl,λz3=>?_])
  obtain⟨t,p,r,rfl⟩ : ∃t p r,xs=[t,p,r]:=by
   match xs,z3 with
   | [t,p,r],_=>exact#[t,p,r,rfl]
   | [],z=>cases z
   | [_],z=>cases z
   | [_,_],z=>cases z
   | _::_::_::_::_,z=>
    simp at z;omega
  clear z3 zt;have ht:=hx t HH;have hpr:∀h∈[p,r],Thg S h:=λh hh=>hx h (Hv _ hh)
  show ac #v[] rfl ?_
  show ab ht.t ?_;dsimp only[wB];cases ht with
  | @tup ts hts htl=>
   show ae (Q0:=Q') (λz=>by cases z) (λ_ Q2 hn _=>aN (hn _ _ (hK _ _ ?_)))
   clear hn hK ret K;show st ?_;dsimp only[wS,wE,wV,wG,wU];show ab (show cC [4,5,6] [.tup ts,p,r] [gV R,gV (.ref q),gV (.tup [.tup ts,p,r]),gV (.bl bw),td,td,td,td,td]=gV [gV R,gV (.ref q),gV (.tup [.tup ts,p,r]),gV (.bl bw),gV (.tup ts),gV p,gV r,td,td]from rfl) ?_
   nofun
   show for_tup [p,r] (λi Z S'=>(∃a7,Z=[gV R,gV (.ref q),gV (.tup [.tup ts,p,r]),gV (.bl bw),gV (.tup ts),gV p,gV r,a7,td])/\(∀h∈[p,r].take i,∃u p',ts=u.map ag/\h=ag p'/\GoodW a bs.length u/\GoodP a bs.length u.length p'/\Std U (u++[p']))/\Ka S S') rfl rfl #[rfl,#[_,rfl],(λh hh=>nomatch hh),.refl] ?_ ?_
   ·rintro i h Z S1 hi ⟨⟨a7,rfl⟩,hok,k1⟩;clear hK;have hh:=G7 hi;show ab (show fq (.nm 7) h [gV R,gV (.ref q),gV (.tup [.tup ts,p,r]),gV (.bl bw),gV (.tup ts),gV p,gV r,a7,td] S1=gV ([gV R,gV (.ref q),gV (.tup [.tup ts,p,r]),gV (.bl bw),gV (.tup ts),gV p,gV r,gV h,td],S1)from rfl) ?_
    intro Q2 hn2 hr2;nofun
    dsimp only[wS,wT,wE,wA,wV,wG];have fw:(ts++[h]).length<=101:=by rw[GJ]; show _+1<=_; omega
    show ab (aP (cH ∅)) ?_
    dsimp only;have bad:∀S',Ka S S'->(¬ ∃u p',ts=u.map ag/\h=ag p'/\GoodW a bs.length u/\GoodP a bs.length u.length p'/\Std U (u++[p']))->Q2 (.rt (.bl false),S'):=λS' ka hno=>hr2 _ _ (no _ (λ#[x,ex,hC,_]=>hno (by
     injection ex with ex
     injection ex with e1 ex
     injection ex with e2 ex
     injection ex with e3 _
     injection e1 with e1
     rcases Hn.mp hh with rfl|hh
     ·exact#[x.1,x.2.1,e1,e2,hC.gu,hC.gp,Std.both.mpr #[hC.su,hC.mp]]
     ·cases G6.mp hh;exact#[x.1,x.2.2,e1,e3,hC.gu,hC.gq,Std.both.mpr #[hC.su,hC.mq]])) ka)
    show iw _ _ (ts++[h]) (λy hy=>?_) ∅ λS2 k2=>?_
    ·rcases Ht.mp hy with g|g
     ·exact(hts y g).ka k1
     ·cases G6.mp g; exact(hpr h hh).ka k1
    show ab (show cX S2 (.bl _)=gV _ from rfl) #[λz=>?_,λz=>?_]
    ·show ae (Q0:=Q2) (λ_ Q5 _ hr5=>st ?_) λz=>by cases z
     dsimp only[wS,wE];show hr5 _ _ (bad _ (k1.trans k2) λ#[u,p',e1,e2,gu,gp,_]=>?_)
     rw[fQ #[u++[p'],by rw[e1,e2]; show W.tup _=.tup _; rw[Hh]; rfl,gp.snoc gu]]at z
     cases z
    obtain⟨v,hv⟩:=cw.mp (show ii (∃u,W.tup (ts++[h])=ak u/\GoodW a bs.length u)=true by simpa using z)
    obtain⟨ev,gv⟩:=hv;clear z;show ab (aP (cH ∅)) ?_
    dsimp only;have vl:v.length<=101:=by
     have:(ts++[h]).length=v.length:=by
      unfold ak at ev;injection ev with ev
      rw[ev,GF]
     omega
    rw[ev];show sV (d:=d) V.lmay V.may gv ∅ ((k1.trans k2).get _ _ e) ?_
    show ab (show cX S2 (.bl _)=gV _ from rfl) ?_
    obtain⟨u,p',rfl,e1,e2,gu,gp⟩:=zN ev gv;show ae (Q0:=Q2) (λz Q5 _ hr5=>st ?_) (λz Q5 hn5 _=>aN (hn5 _ _ (hK _ _ (aN (hn2 _ _ #[#[_,rfl],λy hy=>?_,k1.trans k2])))))
    ·dsimp only[wS,wE];show hr5 _ _ (bad _ (k1.trans k2) λ#[u',p'',f1,f2,_,_,hs]=>?_)
     have:u'=u:=(KC λx y z=>iY z).mp (f1.symm.trans e1)
     subst this;cases iY (f2.symm.trans e2);rw[fQ hs]at z;cases z
    ·rw[HJ,hi]at hy;rcases Ht.mp hy with g|g
     ·exact hok y g
     ·cases G6.mp g;exact#[u,p',e1,e2,gu,gp,cw.mp (by simpa using z)]
   ·rintro Z S1 ⟨⟨a7,rfl⟩,hok,k1⟩;show hK _ _ ?_;clear hK K;obtain⟨u,p',rfl,rfl,gu,gp,sp⟩:=hok p HH;obtain⟨u',r',e1,rfl,_,gr,sr⟩:=hok r (Hv _ HH);have:u'=u:=((KC λx y z=>iY z).mp e1).symm
    subst this;have hC:Cf a bs.length U u' p' r':=#[gu,(Std.both.mp sp).1,gp,(Std.both.mp sp).2,gr,(Std.both.mp sr).2];nofun
    left;have fl1:=λ(Q:QW)=>fl S1 Q u' p' r' hC (by rw[GF]at htl; omega) (k1.get _ _ e)
    unfold ak at fl1;show fl1 _ λl8 S2 e8 _ k2=>hK _ _ ?_
    clear hK K;show st ?_;dsimp only[wS];show zL e8 (λ_ h=>h) (λ_ h=>h) λc S3 hc k3=>k c _ ?_ ((k1.trans k2).trans k3)
    rw[hc,<- wK hk];constructor
    ·intro hF;exact#[(u',p',r'),rfl,hC,hF]
    ·rintro⟨x,ex,_,hF⟩;cases m9 (x:=(u',p',r')) ex;exact hF
  | _=>
   show ae (Q0:=Q') (λ_ Q5 _ hr5=>st ?_) λz=>by cases z
   dsimp only[wS,wE];show hr5 _ _ (no _ (λ#[x,ex,_]=>?_) .refl)
   injection ex with ex
   injection ex with e1 ex
   cases e1
 | _=>cases zt
end
section
variable{defs:GD (Hc×Df)}{fuel d:GP}{S:aa}{r:GP}{Q:QW}
def zO {i:GP}{xs:GD W}(h:S[i]?=gV (.lst xs))(q:Q (.ref S.length,S++[.lst xs])):wO (Bi.list.fn [.ref i] S) Q:=by
 show ab ?_ q;have h1:ut S i=td:=by simp[ut,h]
 simp only[Bi.fn,BP,i5,h1,jJ,mP h,gw,fA,aI h]
def qh (G:Gen defs)(hg:Is defs ("_law_shuffled" : Hc) 2 4 bh){l:GP}{ls:GD GP}(hf:Fl S r)(e:S[l]?=gV (.lst (au ls)))(hnd:ls.Nodup)(hl:ls.length<=900)(hfu:ls.length < fuel)
  (k:∀(q:GP) (ps:GD GP) S',S'[q]?=gV (.lst (au ps))->ps.Nodup->(∀p∈ps,p∈ls)->ps.length=ls.length->S.length<=q->Fl S' r->Kp r S S'->Q (.ref q,S')) :
  wO (aE (am defs fuel (d+2)) "_law_shuffled" 2 [.ref r,.ref l] S) Q:=by
 show ap hg rfl rfl λQ' hR=>?_
 replace k:∀(q:GP) (ps:GD GP) S',S'[q]?=gV (.lst (au ps))->ps.Nodup->(∀p∈ps,p∈ls)->ps.length=ls.length->S.length<=q->Fl S' r->Kp r S S'->Q' (.rt (.ref q),S'):=λa b c e f g h i j m=>hR _ _ (k a b c e f g h i j m)
 clear hR;change wZ _ _ bh [gV (.ref r),gV (.ref l),td,td] S Q';have hrt:=hf.lt;have nl:∀xs:GD GP,(au xs).length=xs.length:=λxs=>GF ..
 dsimp only[bh];show st ?_;left;show zO e ?_;show st ?_;dsimp only[wS,wE,wA,G2];have l1:(S++[O.lst (au ls)]).length=S.length+1:=by simp
 nofun
 show Ak (λm Z S'=>Z=[gV (.ref r),gV (.ref l),gV (.ref S.length),gV (.ref (S++[O.lst (au ls)]).length)]/\∃xs ps:GD GP,S'[S.length]?=gV (.lst (au xs))/\S'[(S++[O.lst (au ls)]).length]?=gV (.lst (au ps))/\(xs++ps).Nodup/\(∀p∈xs++ps,p∈ls)/\xs.length+ps.length=ls.length/\xs.length=m/\Fl S' r/\Kp r S S') ls.length rfl rfl hfu #[rfl,ls,[],aw aj,aj,by rw[Iy]; exact hnd,λp hp=>by rw[Iy]at hp; exact hp,by simp,rfl,(hf.ka .push).ka .push,Kp.push.trans .push] ?_
 rintro m Z S2 ⟨rfl,xs,ps,e2,e3,nd,lt,hsz,hm,f2,k2⟩;rw[l1]at e3;rw[l1];have h2:=cj e2;have h3:=cj e3;dsimp only[wT,wE,wA,wV,wG];show ab (Er (aw e2) aj) ?_;dsimp only[wB];have e2':=aw (u:=O.lst []) e2;have e3':=aw (u:=O.lst []) e3;have f2':=f2.ka (Ka.push (o:=O.lst []));have k2':=k2.trans (Kp.push (o:=O.lst []));clear e2 e3 f2 k2 h2 h3;generalize S2++[O.lst []]=S2 at e2' e3' f2' k2';show#[λh=>?_,λh=>?_]
 ·have hx:xs≠[]:=λz=>by rw[z]at h; simp[au]at h
  have hx0:0 < xs.length:=JV.mpr hx;show#[m - 1,∅,λQ2 hn _=>?_]
  clear hK k;show st ?_;left;show#[da e3',da e2',qY e2' ?_];rw[nl];show aQ (d:=d) G.pick f2' ∅ ∅ λv S3 v0 v1 f3 k3=>?_
  have e2'':=k3.get _ _ ∅ e2'
  have e3'':=k3.get _ _ ∅ e3'
  have hv:v.toNat < xs.length:=∅
  show Ek e2'' v0 (js (G1 hv)) (by rw[nl]; omega) ?_
  have e3s:(S3.set S.length (.lst ((au xs).eraseIdx v.toNat)))[S.length+1]?=gV (.lst (au ps)):=by rw[cf ∅]; exact e3''
  have pm:(xs.eraseIdx v.toNat++(ps++[xs[v.toNat]])).Perm (xs++ps):=by
   have h1:xs.Perm (xs[v.toNat]::xs.eraseIdx v.toNat):=(nE hv).symm;have h2:(ps++[xs[v.toNat]]).Perm (xs[v.toNat]::ps):=List.perm_append_singleton ..;show(O2 _ h2).trans (LQ.trans ?_);exact(O1 ps h1).symm
  show jb e3s (by rw[nl]; omega) (aN (hn _ _ #[rfl,xs.eraseIdx v.toNat,ps++[xs[v.toNat]],?_,?_,pm.nodup_iff.mpr nd,λp hp=>lt p (pm.mem_iff.mp hp),?_,?_,(f3.own ∅).own ∅,((k2'.trans k3).late ∅).late ∅]))
  ·rw[cf ∅,bV e2'',oM]
  ·rw[bV e3s]; unfold au; rw[Hh]; rfl
  ·rw[MD,Ho hv,GJ,HB]; omega
  ·rw[MD,Ho hv]; omega
 ·have hx:xs=[]:=by
   cases xs with
   | nil=>rfl
   | cons x xs=>simp[au]at h
  subst hx;show hK _ _ (st ?_);dsimp only[wS,wE,wV,wG];rw[Oa]at nd lt;exact k _ ps S2 e3' nd lt (by simpa using hsz) ∅ f2' k2'
end
section
variable{defs:GD (Hc×Df)}{fuel d:GP}{S:aa}{Q:QW}
def zP (G:Gen defs){m0 b0:W}{ns:GD Hc}{bs:GD G0}{a l:GP}{u:Wd}{ps:GD GP}(hb:GoodB bs)(hl:ns.length=bs.length)(hu:GoodW a bs.length u)(hps:∀p∈ps,p < u.length)(hnd:ps.Nodup)(hsz:ps.length < 1000)(el:S[l]?=gV (.lst (au ps)))(k:∀S',Ka S S'->Q (ak (ar bs u ps),S')) :
  wO (aE (am defs fuel (d+2)) "_law_part" 3 [.tup [m0,.tup (GY aB ns bs),b0],ak u,.ref l] S) Q:=by
 show ap G.part rfl rfl λQ' hR=>?_
 replace k:∀S',Ka S S'->Q' (.rt (ak (ar bs u ps)),S'):=λS' a=>hR _ _ (k S' a)
 clear hR;change wZ _ _ dc [gV (.tup [m0,.tup (GY aB ns bs),b0]),gV (ak u),gV (.ref l),td,td,td] S Q';generalize hR0:W.tup [m0,.tup (GY aB ns bs),b0]=R;have hlS:=cj el;dsimp only[dc];show st ?_;dsimp only[wS,wE,wA,G2];nofun
 have nl:(au ps).length=ps.length:=GF ..;show bB (ps.length:G0) (λk Z S'=>(∃a4 a5,Z=[gV R,gV (ak u),gV (.ref l),gV (.ref S.length),a4,a5])/\S'[S.length]?=gV (.lst (((ar bs u ps).take k).map ag))/\S'[l]?=gV (.lst (au ps))/\Ka S S') rfl rfl ∅ ?_ ?_ ?_
 ·dsimp only[wE,wA,wV,wG];show qY (aw el) ?_;rw[nl];exact#[rfl,#[td,td,rfl],aj,aw el,.push]
 ·rintro i Z S1 hi ⟨⟨a4,a5,rfl⟩,e1,l1,k1⟩ Q2 hn _;clear hK;have hi':i < ps.length:=∅
  have hp:ps[i]?=gV ps[i]:=G1 hi';have hpu:ps[i] < u.length:=hps _ (HW hi');dsimp only[G2];show st ?_;dsimp only[wS,wE,wV,wG,G2];show eG l1 (js hp) ?_;show st ?_;left;show#[da e1,ac (GZ _) (cm hpu) (ac #v[] rfl ?_)]
  show kj (ps.take i) (λ(q:GP)=>W.int (q:G0)) (λ_=>true) (λq=>W.int (bv bs u ps[i] q)) [gV (.int ps[i]),gV R,gV (ak u)] rfl rfl rfl rfl (by rw[Hm]; omega) ?_ (λq hq S2 k2=>?_) λS2 k2=>?_
  ·dsimp only[wE,wP,wV,wG,wN];show ab (a:=(.ref S1.length,S1++[.lst (au (ps.take i))])) ?_ #[_,rfl,aj,.push];simp only[fR,aI l1,cO];unfold au;rw[Kb]
  ·dsimp only[fm,wC,wE,wA,wV,wG];subst hR0;have hqm:=JN hq;show#[λ_=>lH (d:=d) G hb hl hu hpu (hps _ hqm) (λe=>?_) #[rfl,rfl,.refl],λz=>by cases z]
   obtain⟨j,hj,ej⟩:=Kj.mp hq;rw[Hm]at hj;rw[Ke]at ej;have:=(Ji hnd).mp (ej.trans e.symm);omega
  ·rw[bO];show dX aj ?_;have e2:=aw (u:=O.lst ((ps.take i).map λq=>W.int (bv bs u ps[i] q))) (k2.get _ _ e1)
   have l2:=aw (u:=O.lst ((ps.take i).map λq=>W.int (bv bs u ps[i] q))) (k2.get _ _ l1)
   show jb e2 (by rw[GF,Hm]; omega) (aN (hn _ _ #[#[_,_,rfl],?_,?_,((k1.trans k2).trans .push).late (G3 _)]))
   ·rw[bV e2];have ep:(ar bs u ps)[i]?=gV ((u.getD ps[i] (0,[])).1,(ps.take i).map λq=>bv bs u ps[i] q):=by
     unfold ar;rw[GV,Jf hi',HA,getD_some hp]
    rw[HJ,ep];simp[ag,KP]
   ·rw[cf ∅]; exact l2
 ·rintro Z S1 ⟨⟨a4,a5,rfl⟩,e1,_,k1⟩;rw[Ha,<- aT bs u ps,HP]at e1;show hK _ _ (st ?_);left;exact dX e1 (k _ k1)
end
abbrev aU:Ss:=
 #v[.asg [3,4] (.v 2),.set 5 (.bi .len #v[.ix (.v 1) (.c (.int 1))]),.set 6 (.lst #v[.lst #v[.v 3,.v 4],.tup #v[.v 3,.bi .list #v[.v 4]],.tup #v[.v 3],.tup #v[.v 3,.v 4,.v 4],.tup #v[.v 3,.op .add (.v 4) (.tup #v[.c (.int 0)])],.tup #v[.v 3,.sl (.v 4) (.yes (.c (.int 1))) .no]]),.set 6 (.op .add (.v 6) (.lst #v[.tup #v[.v 4,.v 3],.c .non,.tup #v[.bi .len #v[.ix (.v 1) (.c (.int 0))],.v 4],.tup #v[.neg (.c (.int 1)),.v 4],.tup #v[.cmp .eq (.v 3) (.c (.int 1)),.v 4],.tup #v[.bi .str #v[.v 3],.v 4]])),.set 6 (.op .add (.v 6) (.lst #v[.tup #v[.v 3,.op .add (.sl (.v 4) .no (.yes (.neg (.c (.int 1))))) (.tup #v[.v 5])],.tup #v[.v 3,.op .add (.sl (.v 4) .no (.yes (.neg (.c (.int 1))))) (.tup #v[.neg (.c (.int 1))])],.tup #v[.v 3,.op .add (.sl (.v 4) .no (.yes (.neg (.c (.int 1))))) (.tup #v[.c (.bl true)])]])),.set 6 (.op .add (.v 6) (.lst #v[.tup #v[.c .non,.v 4],.tup #v[.v 3,.c .non],.tup .nil,.v 3,.v 4,.tup #v[.own "_law_pick" 2 #v[.v 0,.bi .len #v[.ix (.v 1) (.c (.int 0))]],.v 4]])),.ex (.me .append (.v 6) #v[.tup #v[.v 3,.bi .tuple #v[.comp (.own "_law_pick" 2 #v[.v 2,.v 3]) (.nm 1) (.seq (.v 4)) .nil [td,td,gV 0,gV 5]]]]),.ret (.ix (.v 6) (.own "_law_pick" 2 #v[.v 0,.c (.int 22)]))]
abbrev bj:Ss:=
 #v[.asg [3,4,5] (.v 2),.set 6 (.own "_law_pick" 2 #v[.v 0,.c (.int 8)]),.ite (.cmp .eq (.v 6) (.c (.int 0))) #v[.set 7 (.lst #v[.c .non,.tup .nil,.lst #v[.v 3,.v 4,.v 5],.tup #v[.v 3,.v 4],.tup #v[.v 3,.v 4,.v 5,.v 5],.tup #v[.v 4,.v 5,.v 3],.c (.str ""),.v 3,.c (.int 0)]),.ret (.ix (.v 7) (.own "_law_pick" 2 #v[.v 0,.c (.int 9)]))] .nil,.ite (.cmp .eq (.v 6) (.c (.int 1))) #v[.ret (.tup #v[.ix (.lst #v[.bi .list #v[.v 3],.c .non,.c (.str ""),.c (.int 0),.v 4]) (.own "_law_pick" 2 #v[.v 0,.c (.int 5)]),.v 4,.v 5])] .nil,.ite (.and (.cmp .eq (.v 6) (.c (.int 2))) (.cmp .ne (.v 3) (.tup .nil))) #v[.set 8 (.own "_law_pick" 2 #v[.v 0,.bi .len #v[.v 3]]),.ret (.tup #v[.op .add (.op .add (.sl (.v 3) .no (.yes (.v 8))) (.tup #v[.own "_law_other_point" 3 #v[.v 0,.v 1,.ix (.v 3) (.v 8)]])) (.sl (.v 3) (.yes (.op .add (.v 8) (.c (.int 1)))) .no),.v 4,.v 5])] .nil,.ite (.and (.cmp .eq (.v 6) (.c (.int 3))) (.cmp .ne (.v 3) (.tup .nil))) #v[.ret (.tup #v[.sl (.v 3) .no (.yes (.neg (.c (.int 1)))),.v 4,.v 5])] .nil,.ite (.cmp .lt (.v 6) (.c (.int 6))) #v[.ret (.tup #v[.v 3,.own "_law_other_point" 3 #v[.v 0,.v 1,.v 4],.v 5])] .nil,.ite (.cmp .eq (.v 6) (.c (.int 6))) #v[.ret (.tup #v[.v 3,.v 4,.v 4])] .nil,.ret (.tup #v[.v 3,.v 4,.own "_law_other_point" 3 #v[.v 0,.v 1,.v 5]])]
def fc {α:Type}{P:α->Prop}{a:α}{l:GD α}(h:P a)(t:∀x∈l,P x):∀x∈a::l,P x:=K5.mpr #[h,t]
def fn {α:Type}{P:α->Prop}:∀x∈([]:GD α),P x:=λ_ h=>nomatch h
def fa {α:Type}{P:α->Prop}{l l':GD α}(h:∀x∈l,P x)(t:∀x∈l',P x):∀x∈l++l',P x:=λx hx=>(Ht.mp hx).elim (h x) (t x)
def Gi {S:aa}{zs:GD G0}:∀x∈al zs,Thg S x:=λx hx=>by
 obtain⟨i,_,rfl⟩:=Hi.mp hx; exact .int
def rC {S:aa}{xs:GD W}{Q:QW}(q:Q (.ref S.length,S++[.lst xs])):wO (Bi.list.fn [.tup xs] S) Q:=by
 show ab ?_ q;simp only[Bi.fn,BP,i5,jJ,gw,fA]
section
variable{defs:GD (Hc×Df)}{fuel d:GP}{S:aa}{r:GP}{Q:QW}
def wR (G:Gen defs)(hg:Is defs ("_law_other_point" : Hc) 3 7 aU){Mqa N:GD W}{b0:W}{a n s:GP}{p:Pt}(hM:Mqa.length=a)(ha1:0 < a)(ha3:a<=3)(hN:N.length=n)(hn1:0 < n)(hn3:n<=3)(hp:GoodP a n s p)(hs:s<=50)(hf:Fl S r)
  (k:∀w S',Thg S' w->Fl S' r->Kp r S S'->Q (w,S')) :
  wO (aE (am defs fuel (d+2)) "_law_other_point" 3 [.ref r,.tup [.tup Mqa,.tup N,b0],ag p] S) Q:=by
 show ap hg rfl rfl λQ' hR=>?_
 replace k:∀w S',Thg S' w->Fl S' r->Kp r S S'->Q' (.rt w,S'):=λw S' x y z=>hR _ _ (k w S' x y z)
 clear hR;obtain⟨m,to⟩:=p;have hl:(al to).length<=50:=by have:=hp.len; dsimp only at this; rw[show(al to).length=to.length from GF ..]; omega
 have hm:=hp.mark;dsimp only at hm;change wZ _ _ aU [gV (.ref r),gV (.tup [.tup Mqa,.tup N,b0]),gV (.tup [.int m,.tup (al to)]),td,td,td,td] S Q';have hT:∀ {S:aa},∀x∈al to,Thg S x:=Gi;generalize al to=T at hl hT;have l0:∀(S:aa) (Q:QW),Q (.int (a:G0),S)->wO (gW (.tup [.tup Mqa,.tup N,b0]) (.int 0) S) λp=>wO (Bi.len.fn [p.1] p.2) Q:=λS Q q=>by
  show ac #v[] rfl (az ?_)
  rw[hM]; exact q
 have l1:∀(S:aa) (Q:QW),Q (.int (n:G0),S)->wO (gW (.tup [.tup Mqa,.tup N,b0]) (.int 1) S) λp=>wO (Bi.len.fn [p.1] p.2) Q:=λS Q q=>by
  show ac #v[] rfl (az ?_)
  rw[hN]; exact q
 generalize W.tup [.tup Mqa,.tup N,b0]=R at l0 l1;have tT:∀ {S:aa},Thg S (.tup T):=.tup hT ∅
 have hD:∀ {S:aa},∀x∈T.dropLast,Thg S x:=λx hx=>hT x (ME _ hx)
 have tS:∀ {S:aa} {zs:GD W} {y:W},(∀x∈zs,Thg S x)->zs.length<=50->Thg S y->Thg S (.tup (zs++[y])):=λh hz hy=>.tup (fa h (fc hy fn)) (by rw[GJ]; show _+1<=_; omega)
 have t2:∀ {S:aa} {x y:W},Thg S x->Thg S y->Thg S (.tup [x,y]):=λhx hy=>.tup (fc hx (fc hy fn)) (HI rfl)
 have sd:∀S:aa,fR (.tup T) td (gV (-1)) S=gV (.tup (T.dropLast),S):=λS=>by
  simp only[fR,j9]
 have s1:∀S:aa,fR (.tup T) (gV 1) td S=gV (.tup (T.drop 1),S):=λS=>by rw[show(1:G0)=((1:GP):G0)from rfl]; simp only[fR,j3]
 have dl:T.dropLast.length<=50:=by rw[Ja]; omega
 have fw:∀ {zs:GD W} {y:W},zs.length<=50->(zs++[y]).length<=sizeLine:=λhz=>cH (by rw[GJ]; show _+1<=_; omega)
 dsimp only[aU];show st ?_;dsimp only[wS,wE,wV,wG,wU];show ab (show cC [3,4] [.int m,.tup T] [gV (.ref r),gV R,gV (.tup [.int m,.tup T]),td,td,td,td]=gV [gV (.ref r),gV R,gV (.tup [.int m,.tup T]),gV (.int m),gV (.tup T),td,td]from rfl) ?_
 show st ?_;left;show l1 _ _ ?_;nofun
 dsimp only[wS,wE,wA,wP,wV,wG,wN,G2];show rC (ab (aP (fw hl)) ?_);dsimp only;show ab (s1 _) (hK _ _ ?_);clear hK K;have M1:∃xs,(S++[O.lst [.int m,.tup T]]++[O.lst (T)]++[O.lst [.ref S.length,.tup [.int m,.ref (S++[O.lst [.int m,.tup T]]).length],.tup [.int m],.tup [.int m,.tup T,.tup T],.tup [.int m,.tup (T++[.int 0])],.tup [.int m,.tup (T.drop 1)]]])[(S++[O.lst [.int m,.tup T]]++[O.lst (T)]).length]?=gV (O.lst xs)/\xs.length=6/\∀x∈xs,Thg (S++[O.lst [.int m,.tup T]]++[O.lst (T)]++[O.lst [.ref S.length,.tup [.int m,.ref (S++[O.lst [.int m,.tup T]]).length],.tup [.int m],.tup [.int m,.tup T,.tup T],.tup [.int m,.tup (T++[.int 0])],.tup [.int m,.tup (T.drop 1)]]]) x:=by
  show#[_,aj,rfl,?_];show fc (.lst #[_,aw (aw aj)]) (fc (t2 .int (.lst #[_,aw aj])) (fc (.tup (fc .int fn) (HI rfl)) (fc (.tup (fc .int (fc tT (fc tT fn))) (HI rfl)) (fc (t2 .int (tS hT hl .int)) (fc (t2 .int (.tup (λx hx=>hT x (NZ _ _ hx)) ?_)) fn)))))
  rw[IY]; omega
 have k1:Ka S (S++[O.lst [.int m,.tup T]]++[O.lst (T)]++[O.lst [.ref S.length,.tup [.int m,.ref (S++[O.lst [.int m,.tup T]]).length],.tup [.int m],.tup [.int m,.tup T,.tup T],.tup [.int m,.tup (T++[.int 0])],.tup [.int m,.tup (T.drop 1)]]]):=(Ka.push.trans .push).trans .push;have hL:S.length<=(S++[O.lst [.int m,.tup T]]++[O.lst (T)]).length:=by simp
 dsimp only;generalize S++[O.lst [.int m,.tup T]]++[O.lst (T)]++[O.lst [.ref S.length,.tup [.int m,.ref (S++[O.lst [.int m,.tup T]]).length],.tup [.int m],.tup [.int m,.tup T,.tup T],.tup [.int m,.tup (T++[.int 0])],.tup [.int m,.tup (T.drop 1)]]]=S1 at M1 k1;generalize(S++[O.lst [.int m,.tup T]]++[O.lst (T)]).length=c1 at M1 hL;obtain⟨xs,e1,x1,h1⟩:=M1;have f1:=hf.ka k1;have hrl:=hf.lt;replace k1:=k1.kp r;have more:∀(S1:aa) (c1:GP) (xs ys:GD W),S1[c1]?=gV (.lst xs)->(∀x∈xs,Thg S1 x)->(∀x∈ys,Thg S1 x)->xs.length<=50->ys.length<=50->∀Q:QW,(∀c2 S2,S2[c2]?=gV (.lst (xs++ys))->S1.length<=c2->(∀x∈xs++ys,Thg S2 x)->Ka S1 S2->Q (.ref c2,S2))->wO (ij .add (.ref c1) (.ref S1.length) (S1++[.lst ys])) Q:=by
  intro S1 c1 xs ys e1 h1 h2 hx hy Q kk;show ab (jY (aw e1) aj (cH (by rw[GJ]; omega))) (kk _ _ aj (by simp) (λx hx=>?_) (Ka.push.trans .push))
  exact(fa h1 h2 x hx).ka (Ka.push.trans .push)
 nofun
 dsimp only[wS,wE,wA,wP,wV,wG,wN,G2];show l0 _ _ (ab iL ?_);dsimp only;show ab (show Bi.str.fn [.int m] S1=gV (.str (IF (toString m)),S1) by simp only[Bi.fn,yH]; rw[Ho ∅]) ?_
 dsimp only;show more S1 c1 xs _ e1 h1 (fc (t2 tT .int) (fc .non (fc (t2 .int tT) (fc (t2 .int tT) (fc (t2 .bl tT) (fc (t2 .str tT) fn)))))) ∅ (HI rfl) _ λc2 S2 e2 hc2 h2 k2=>hK _ _ ?_
 clear hK K;have x2:(xs++[W.tup [.tup T,.int m],.non,.tup [.int (a:G0),.tup T],.tup [.int (-1),.tup T],.tup [.bl (m==1),.tup T],.tup [.str (IF (toString m)),.tup T]]).length=12:=by rw[GJ,x1]; rfl
 generalize xs++[W.tup [.tup T,.int m],.non,.tup [.int (a:G0),.tup T],.tup [.int (-1),.tup T],.tup [.bl (m==1),.tup T],.tup [.str (IF (toString m)),.tup T]]=xs2 at e2 h2 x2;have f2:=f1.ka k2;have q2:c2≠r:=by have:=cj e1; have:=k1.len; omega
 replace k1:=k1.trans (k2.kp r);clear h1 e1 x1 k2 hL f1;nofun
 dsimp only[wS,wE,wA,wP,wV,wG,wN,G2];show ab (sd _) ?_;dsimp only;show ab (aP (fw dl)) (ab (sd _) ?_);dsimp only;show ab (aP (fw dl)) (ab (sd _) ?_);dsimp only;show ab (aP (fw dl)) ?_;dsimp only;show more S2 c2 xs2 _ e2 h2 (fc (t2 .int (tS hD dl .int)) (fc (t2 .int (tS hD dl .int)) (fc (t2 .int (tS hD dl .bl)) fn))) ∅ (HI rfl) _ λc3 S3 e3 hc3 h3 k3=>hK _ _ ?_
 clear hK K;have x3:(xs2++[W.tup [.int m,.tup (T.dropLast++[.int (n:G0)])],.tup [.int m,.tup (T.dropLast++[.int (-1)])],.tup [.int m,.tup (T.dropLast++[.bl true])]]).length=15:=by rw[GJ,x2]; rfl
 generalize xs2++[W.tup [.int m,.tup (T.dropLast++[.int (n:G0)])],.tup [.int m,.tup (T.dropLast++[.int (-1)])],.tup [.int m,.tup (T.dropLast++[.bl true])]]=xs3 at e3 h3 x3;have f3:=f2.ka k3;have q3:c3≠r:=by have:=cj e2; have:=k1.len; omega
 replace k1:=k1.trans (k3.kp r);clear h2 e2 x2 k3 f2;nofun
 dsimp only[wS,wE,wA,wP,wV,wG,wN,G2];show l0 _ _ (aQ (d:=d) G.pick f3 ∅ ∅ λv S4 v0 v1 f4 k4=>?_)
 dsimp only;have e4:=k4.get _ _ q3 e3;have h4:∀x∈xs3,Thg S4 x:=λx hx=>(h3 x hx).kp k4 f4
 show more S4 c3 xs3 _ e4 h4 (fc (t2 .non tT) (fc (t2 .int .non) (fc (.tup fn (IB _)) (fc .int (fc tT (fc (t2 .int tT) fn)))))) ∅ (HI rfl) _ λc5 S5 e5 hc5 h5 k5=>hK _ _ ?_
 clear hK K;have x5:(xs3++[W.tup [.non,.tup T],.tup [.int m,.non],.tup [],.int m,.tup T,.tup [.int v,.tup T]]).length=21:=by rw[GJ,x3]; rfl
 generalize xs3++[W.tup [.non,.tup T],.tup [.int m,.non],.tup [],.int m,.tup T,.tup [.int v,.tup T]]=xs5 at e5 h5 x5;have f5:=f4.ka k5;have L5:S.length<=c5:=Hs k1.len (Hs k4.len hc5);have q5:c5≠r:=∅
 replace k1:=(k1.trans k4).trans (k5.kp r);clear h3 e3 x3 k4 k5 h4 e4 f3 f4;nofun
 left;show#[da e5,?_];show mS (T) (λi ys Z2 S6=>(∃a1,Z2=[td,a1,gV (.ref r),gV (.int (n:G0))])/\(∃zs:GD G0,ys=al zs/\zs.length=i)/\Fl S6 r/\Kp r S5 S6) rfl rfl rfl #[rfl,#[_,rfl],#[[],rfl,rfl],f5,.refl] ?_ ?_
 ·rintro i w ys Z2 S6 hw ⟨⟨a1,rfl⟩,⟨zs,rfl,hz⟩,f6,k6⟩;show ab (show fq (.nm 1) w [td,a1,gV (.ref r),gV (.int (n:G0))] S6=gV ([td,gV w,gV (.ref r),gV (.int (n:G0))],S6)from rfl) ?_
  dsimp only[fm,wC,wE,wA,wV,wG];show#[λ_=>aQ (d:=d) G.pick f6 ∅ ∅ λv S7 v0 v1 f7 k7=>#[#[_,rfl],#[zs++[v],?_,by rw[GJ,hz]; rfl],f7,k6.trans k7],λz=>by cases z]
  unfold al; rw[Hh]; rfl
 rintro ys Z2 S6 ⟨_,⟨zs,rfl,hz⟩,f6,k6⟩;show#[lE (by rw[show(al zs).length=zs.length from GF ..]; omega),dX aj ?_]
 dsimp only;have e6:=aw (u:=O.lst (al zs)) (k6.get _ _ q5 e5);have f6':=f6.ka (Ka.push (o:=O.lst (al zs)));have h6:∀x∈xs5,Thg (S6++[O.lst (al zs)]) x:=λx hx=>((h5 x hx).kp k6 f6).ka .push
 replace k1:=(k1.trans k6).trans (Kp.push (o:=O.lst (al zs)));generalize S6++[O.lst (al zs)]=S7 at e6 f6' h6 k1;show jb e6 ∅ (hK _ _ ?_)
 clear hK K;have e8:(S7.set c5 (O.lst (xs5++[.tup [.int m,.tup (al zs)]])))[c5]?=gV (O.lst (xs5++[.tup [.int m,.tup (al zs)]])):=bV e6;have h8:∀x∈xs5++[.tup [.int m,.tup (al zs)]],Thg (S7.set c5 (O.lst (xs5++[.tup [.int m,.tup (al zs)]]))) x:=by
  have mo:∀l:GP,(∃xs,S7[l]?=gV (O.lst xs))->∃xs,(S7.set c5 (O.lst (xs5++[.tup [.int m,.tup (al zs)]])))[l]?=gV (O.lst xs):=λl #[xs,e]=>by
   by_cases z:l=c5
   ·subst z; exact#[_,e8]
   ·exact#[xs,by rw[cf (Ne.symm z)]; exact e]
  exact fa (λx hx=>(h6 x hx).mono mo) (fc (t2 .int (.tup Gi (by rw[show(al zs).length=zs.length from GF ..]; omega))) fn)
 have f8:Fl (S7.set c5 (O.lst (xs5++[.tup [.int m,.tup (al zs)]]))) r:=f6'.own ∅
 have k8:Kp r S (S7.set c5 (O.lst (xs5++[.tup [.int m,.tup (al zs)]]))):=k1.late L5;have x8:(xs5++[W.tup [.int m,.tup (al zs)]]).length=22:=by rw[GJ,x5]; rfl
 generalize S7.set c5 (O.lst (xs5++[.tup [.int m,.tup (al zs)]]))=S8 at e8 h8 f8 k8;generalize xs5++[W.tup [.int m,.tup (al zs)]]=xs8 at e8 h8 x8;show st ?_;left;show aQ (d:=d) G.pick f8 #v[] #v[] λv S9 v0 v1 f9 k9=>?_
 have hv:v.toNat < xs8.length:=∅
 exact g9 (k9.get _ _ q5 e8) v0 (G1 hv) (k _ _ ((h8 _ (HW hv)).kp k9 f9) f9 (k8.trans k9))
end
abbrev dw:Ss:=
 #v[.set 4 (.v 3),.ite (.or (.cmp .is (.v 3) (.c .non)) (.cmp .eq (.own "_law_pick" 2 #v[.v 0,.c (.int 4)]) (.c (.int 0)))) #v[.set 4 (.own "_law_pair" 4 #v[.v 0,.v 1,.v 2,.own "_law_pick" 2 #v[.v 0,.c (.int 5)]])] .nil,.asg [5,6,7] (.v 4),.loop (.nm 8) (.rng #v[.own "_law_pick" 2 #v[.v 0,.c (.int 4)]]) #v[.set 9 (.own "_law_new_point" 4 #v[.v 0,.v 1,.v 2,.v 5]),.asg [10,11] (.tup #v[.c .non,.c .non]),.ite (.cmp .isnot (.v 9) (.c .non)) #v[.set 10 (.own "_law_new_ways" 6 #v[.v 0,.v 1,.v 2,.op .add (.v 5) (.tup #v[.v 9]),.ix (.v 6) (.c (.int 0)),.ix (.v 6) (.c (.int 1))]),.set 11 (.own "_law_new_ways" 6 #v[.v 0,.v 1,.v 2,.op .add (.v 5) (.tup #v[.v 9]),.ix (.v 7) (.c (.int 0)),.ix (.v 7) (.c (.int 1))])] .nil,.ite (.and (.cmp .isnot (.v 10) (.c .non)) (.cmp .isnot (.v 11) (.c .non))) #v[.pr3 5 6 7 #v[.op .add (.v 5) (.tup #v[.v 9]),.tup #v[.ix (.v 6) (.c (.int 0)),.v 10],.tup #v[.ix (.v 7) (.c (.int 0)),.v 11]]] .nil],.set 12 (.own "_law_shuffled" 2 #v[.v 0,.bi .list #v[.bi .range #v[.bi .len #v[.v 5]]]]),.set 13 (.comp (.tup #v[.ix (.v 1) (.c (.int 0)),.bi .tuple #v[.comp (.ix (.ix (.v 2) (.c (.int 1))) (.v 1)) (.nm 1) (.seq (.v 2)) .nil [td,td,gV 1]]]) (.nm 1) (.seq (.tup #v[.v 6,.v 7])) .nil [td,td,gV 12]),.ret (.tup #v[.own "_law_part" 3 #v[.v 1,.v 5,.v 12],.ix (.v 13) (.c (.int 0)),.ix (.v 13) (.c (.int 1))])]
def As {S:aa}{u:Wd}:aJ .ne (ak u) (.tup []) S=gV (.bl (!decide (u=[])),S):=by cases u <;> rfl
def At {S:aa}{u:Wd}{a n:GP}(hu:GoodW a n u)(hl:u.length<=50):∀x∈u.map ag,Thg S x:=λx hx=>by
 obtain⟨p,hp,rfl⟩:=Hi.mp hx;obtain⟨i,hi,e⟩:=K9 hp;exact .pt (by rw[hu.len i p (by rw[G1 hi,e])]; omega)
def qi {M:Hc->FF}{Z:Fm}{S:aa}{e:E}{n:GP}{m:G0}{Q:QW}(hm:m=n)(he:∀Q:QW,Q (.int m,S)->wE M e Z S Q)(hn:n<=1000)(k:∀(t:GP) S',S'[t]?=gV (.lst (au (G8 n)))->S.length<=t->Ka S S'->Q (.ref t,S')):wE M (.bi .list #v[.bi .range #v[e]]) Z S Q:=by
 have e1:Bi.range.fn [.int m] S=gV (.ref S.length,S++[.rng 0 m]):=by
  simp only[Bi.fn,mh];rw[Ho #[∅,∅]]
 have h:wO (Bi.list.fn [.ref S.length] (S++[O.rng 0 m])) Q:=by
  subst hm;exact zz aj hn (k _ _ aj (by simp) (Ka.push.trans .push))
 have g:wO (Bi.range.fn [.int m] S) λp=>wO (Bi.list.fn [p.1] p.2) Q:=by
  rw[e1];exact h
 rw[wE,wA];rw[wE,wA];exact he _ g
section
variable{defs:GD (Hc×Df)}{fuel d:GP}{S:aa}{r:GP}{Q:QW}
def wW (G:Gen defs)(ho:Is defs ("_law_other_point" : Hc) 3 7 aU)(hg:Is defs ("_law_spoilt_thing" : Hc) 3 9 bj){Mqa N:GD W}{b0:W}{a n:GP}{u:Wd}{p q:Pt}(hM:Mqa.length=a)(ha1:0 < a)(ha3:a<=3)(hN:N.length=n)(hn1:0 < n)(hn3:n<=3)(hu:GoodW a n u)(hp:GoodP a n u.length p)(hq:GoodP a n u.length q)(hul:u.length<=50)(hf:Fl S r)
  (k:∀w S',Thg S' w->Fl S' r->Kp r S S'->Q (w,S')) :
  wO (aE (am defs fuel (d+3)) "_law_spoilt_thing" 3 [.ref r,.tup [.tup Mqa,.tup N,b0],cW (u,p,q)] S) Q:=by
 show ap hg rfl rfl λQ' hR=>?_
 replace k:∀w S',Thg S' w->Fl S' r->Kp r S S'->Q' (.rt w,S'):=λw S' x y z=>hR _ _ (k w S' x y z)
 clear hR;change wZ _ _ bj [gV (.ref r),gV (.tup [.tup Mqa,.tup N,b0]),gV (.tup [ak u,ag p,ag q]),td,td,td,td,td,td] S Q';have ot:=λ(S:aa) (Q:QW) (s:GP) (p:Pt) (hp:GoodP a n s p) (hs:s<=50) (hf:Fl S r)=>wR (defs:=defs) (fuel:=fuel) (d:=d) (S:=S) (Q:=Q) (b0:=b0) G ho hM ha1 ha3 hN hn1 hn3 hp hs hf
 generalize W.tup [.tup Mqa,.tup N,b0]=R at ot;have ul:(u.map ag).length=u.length:=GF ..;have tp:∀ {S:aa},Thg S (ag p):=.pt (by rw[hp.len]; omega)
 have tq:∀ {S:aa},Thg S (ag q):=.pt (by rw[hq.len]; omega)
 have tU:∀ {S:aa},∀x∈u.map ag,Thg S x:=At hu hul;have tu:∀ {S:aa},Thg S (ak u):=.tup tU ∅
 have t3:∀ {S:aa} {x y z:W},Thg S x->Thg S y->Thg S z->Thg S (.tup [x,y,z]):=λhx hy hz=>.tup (fc hx (fc hy (fc hz fn))) (HI rfl)
 dsimp only[bj];show st ?_;dsimp only[wS,wE,wV,wG,wU];show ab (show cC [3,4,5] [ak u,ag p,ag q] [gV (.ref r),gV R,gV (.tup [ak u,ag p,ag q]),td,td,td,td,td,td]=gV [gV (.ref r),gV R,gV (.tup [ak u,ag p,ag q]),gV (ak u),gV (ag p),gV (ag q),td,td,td]from rfl) ?_
 nofun
 left;show aQ (d:=d+1) G.pick hf #v[] #v[] λv S1 v0 v1 f1 k1=>hK _ _ ?_
 clear hK K;nofun
 dsimp only[wS,wT,wE,wV,wG,iL,bJ,wB];show ae (Q0:=Q') (λ_ Q2 _ hr=>?_) (λ_ Q2 hn _=>aN (hn _ _ (hK _ _ ?_)))
 ·clear hK;show st ?_;left;have e2:(S1++[O.lst [ak u,ag p,ag q]]++[O.lst [.non,.tup [],.ref S1.length,.tup [ak u,ag p],.tup [ak u,ag p,ag q,ag q],.tup [ag p,ag q,ak u],.str "",ak u,.int 0]])[(S1++[O.lst [ak u,ag p,ag q]]).length]?=gV (O.lst [.non,.tup [],.ref S1.length,.tup [ak u,ag p],.tup [ak u,ag p,ag q,ag q],.tup [ag p,ag q,ak u],.str "",ak u,.int 0]):=aj;have h2:∀x∈[W.non,.tup [],.ref S1.length,.tup [ak u,ag p],.tup [ak u,ag p,ag q,ag q],.tup [ag p,ag q,ak u],.str "",ak u,.int 0],Thg (S1++[O.lst [ak u,ag p,ag q]]++[O.lst [.non,.tup [],.ref S1.length,.tup [ak u,ag p],.tup [ak u,ag p,ag q,ag q],.tup [ag p,ag q,ak u],.str "",ak u,.int 0]]) x:=
   fc .non (fc (.tup fn (IB _)) (fc (.lst #[_,aw aj]) (fc (.tup (fc tu (fc tp fn)) (HI rfl)) (fc (.tup (fc tu (fc tp (fc tq (fc tq fn)))) (HI rfl)) (fc (t3 tp tq tu) (fc .str (fc tu (fc .int fn))))))))
  have k2:Ka S1 (S1++[O.lst [ak u,ag p,ag q]]++[O.lst [.non,.tup [],.ref S1.length,.tup [ak u,ag p],.tup [ak u,ag p,ag q,ag q],.tup [ag p,ag q,ak u],.str "",ak u,.int 0]]):=Ka.push.trans .push;have hq2:(S1++[O.lst [ak u,ag p,ag q]]).length≠r:=by have:=f1.lt; simp; omega
  generalize S1++[O.lst [ak u,ag p,ag q]]++[O.lst [.non,.tup [],.ref S1.length,.tup [ak u,ag p],.tup [ak u,ag p,ag q,ag q],.tup [ag p,ag q,ak u],.str "",ak u,.int 0]]=S2 at e2 h2 k2;generalize(S1++[O.lst [ak u,ag p,ag q]]).length=c2 at e2 hq2;show st ?_;left;show aQ (d:=d+1) G.pick (f1.ka k2) #v[] #v[] λv2 S3 w0 w1 f3 k3=>?_
  have hv:v2.toNat < [W.non,.tup [],.ref S1.length,.tup [ak u,ag p],.tup [ak u,ag p,ag q,ag q],.tup [ag p,ag q,ak u],.str "",ak u,.int 0].length:=by change _ < 9; omega
  exact g9 (k3.get _ _ hq2 e2) w0 (G1 hv) (hr _ _ (k _ _ ((h2 _ (HW hv)).kp k3 f3) f3 ((k1.trans (k2.kp r)).trans k3)))
 clear hn hK K;nofun
 dsimp only[wS,wT,wE,wV,wG,iL,bJ,wB];show ae (Q0:=Q') (λ_ Q2 _ hr=>?_) (λ_ Q2 hn _=>aN (hn _ _ (hK _ _ ?_)))
 ·clear hK;show st ?_;left;show rC ?_;dsimp only;have e2:(S1++[O.lst (u.map ag)]++[O.lst [.ref S1.length,.non,.str "",.int 0,ag p]])[(S1++[O.lst (u.map ag)]).length]?=gV (O.lst [.ref S1.length,.non,.str "",.int 0,ag p]):=aj;have h2:∀x∈[W.ref S1.length,.non,.str "",.int 0,ag p],Thg (S1++[O.lst (u.map ag)]++[O.lst [.ref S1.length,.non,.str "",.int 0,ag p]]) x:=fc (.lst #[_,aw aj]) (fc .non (fc .str (fc .int (fc tp fn))));have k2:Ka S1 (S1++[O.lst (u.map ag)]++[O.lst [.ref S1.length,.non,.str "",.int 0,ag p]]):=Ka.push.trans .push;have hq2:(S1++[O.lst (u.map ag)]).length≠r:=by have:=f1.lt; simp; omega
  generalize S1++[O.lst (u.map ag)]++[O.lst [.ref S1.length,.non,.str "",.int 0,ag p]]=S2 at e2 h2 k2;generalize(S1++[O.lst (u.map ag)]).length=c2 at e2 hq2;show aQ (d:=d+1) G.pick (f1.ka k2) #v[] #v[] λv2 S3 w0 w1 f3 k3=>?_
  have hv:v2.toNat < [W.ref S1.length,.non,.str "",.int 0,ag p].length:=by change _ < 5; omega
  exact g9 (k3.get _ _ hq2 e2) w0 (G1 hv) (hr _ _ (k _ _ (t3 ((h2 _ (HW hv)).kp k3 f3) tp tq) f3 ((k1.trans (k2.kp r)).trans k3)))
 clear hn hK K;nofun
 dsimp only[wS,wT,wE,wA,wV,wG];have tl2:K [gV (.ref r),gV R,gV (.tup [ak u,ag p,ag q]),gV (ak u),gV (ag p),gV (ag q),gV (.int v),td,td] S1:=by
  show hK _ _ ?_;clear hK K;nofun
  dsimp only[wS,wT,wE,wA,wV,wG];have tl3:K [gV (.ref r),gV R,gV (.tup [ak u,ag p,ag q]),gV (ak u),gV (ag p),gV (ag q),gV (.int v),td,td] S1:=by
   show hK _ _ ?_;clear hK K;nofun
   dsimp only[wS,wT,wE,wV,wG,y6,bJ,wB];show ae (Q0:=Q') (λ_ Q2 _ hr=>?_) (λ_ Q2 hn _=>aN (hn _ _ (hK _ _ ?_)))
   ·show st ?_;left;exact ot _ _ _ p hp hul f1 λw S2 tw f2 k2=>hr _ _ (k _ _ (t3 tu tw tq) f2 (k1.trans k2))
   clear hn hK K;nofun
   dsimp only[wS,wT,wE,wV,wG,iL,bJ,wB];show ae (Q0:=Q') (λ_ Q2 _ hr=>?_) (λ_ Q2 hn _=>aN (hn _ _ (hK _ _ ?_)))
   ·show st ?_;left;exact hr _ _ (k _ _ (t3 tu tp tp) f1 k1)
   show st ?_;left;exact ot _ _ _ q hq hul f1 λw S2 tw f2 k2=>k _ _ (t3 tu tp tw) f2 (k1.trans k2)
  show ab iL ?_;dsimp only[wB];show#[λ_=>ab As ?_,λ_=>ae (Q0:=Q') (λz=>by cases z) λ_ Q3 hn3 _=>aN (hn3 _ _ tl3)]
  dsimp only[wB];show ae (Q0:=Q') (λ_ Q3 _ hr=>st ?_) (λ_ Q3 hn3 _=>aN (hn3 _ _ tl3))
  dsimp only[wS,wE,wA,wP,wV,wG,wN];show ab (show fR (ak u) td (gV (-1)) S1=gV (.tup (u.map ag).dropLast,S1) by simp only[ak,fR,j9]) ?_
  exact hr _ _ (k _ _ (t3 (.tup (λx hx=>tU x (ME _ hx)) (by rw[Ja]; omega)) tp tq) f1 k1)
 show ab iL ?_;dsimp only[wB];show#[λ_=>ab As ?_,λ_=>ae (Q0:=Q') (λz=>by cases z) λ_ Q3 hn3 _=>aN (hn3 _ _ tl2)]
 dsimp only[wB];show ae (Q0:=Q') (λhne Q3 _ hr=>?_) (λ_ Q3 hn3 _=>aN (hn3 _ _ tl2))
 clear hK tl2;have hne:u≠[]:=by simpa using hne
 have hup:0 < u.length:=JV.mpr hne;show st ?_;left;show az ?_;rw[ul];show aQ (d:=d+1) G.pick f1 ∅ ∅ λv2 S2 w0 w1 f2 k2=>?_
 obtain⟨at',rfl⟩ : ∃k:GP,v2=k:=#[v2.toNat,∅]
 have hat:at' < u.length:=∅
 show st ?_;dsimp only[wS,wE,wA,wP,wV,wG,wN];show ab (show fR (ak u) td (gV ((at':GP):G0)) S2=gV (.tup ((u.map ag).take at'),S2) by simp only[ak,fR,cO]) ?_
 dsimp only;show ac (GZ _) (cm hat) ?_;show ot _ _ at' _ (hu.pt (aq (d:=(0,[])) hat)) ∅ f2 λw S3 tw f3 k3=>?_
 show ab (aP (cH (by rw[GJ,Hm,ul]; show _+1<=_; omega))) ?_
 dsimp only;show ab cM ?_;dsimp only;show ab (show fR (ak u) (gV ((at':G0)+1)) td S3=gV (.tup ((u.map ag).drop (at'+1)),S3) by rw[show(at':G0)+1=((at'+1:GP):G0) by omega]; simp only[ak,fR,j3]) ?_
 dsimp only;show ab (aP (cH (by rw[GJ,GJ,Hm,IY,ul]; show _+1+_<=_; omega))) ?_
 dsimp only;show hr _ _ (k _ _ (t3 (.tup (fa (fa (λx hx=>tU x (List.take_subset _ _ hx)) (fc tw fn)) (λx hx=>tU x (NZ _ _ hx))) ?_) tp tq) f3 ((k1.trans k2).trans k3))
 rw[GJ,GJ,Hm,IY,ul]; show _+1+_<=_; omega
def F5 (G:Gen defs)(hs:Is defs ("_law_shuffled" : Hc) 2 4 bh){Z:Fm}{S:aa}{ss:Ss}{Q:QO}{r n:GP}{z:G0}{u:Wd}(hz:z=n)(hu:u.length=n)(hn:n<=8)(hfu:20 < fuel)(hf:Fl S r)(h0:∀P:W->Prop,P (.ref r)->wV Z 0 P)(h5:∀P:W->Prop,P (ak u)->wV Z 5 P)
  (k:∀(l:GP) (ps:GD GP) S',S'[l]?=gV (.lst (au ps))->ps.Nodup->(∀p∈ps,p < n)->ps.length=n->Fl S' r->Kp r S S'->wZ (am defs fuel (d+2)) fuel ss (Z.set 12 (gV (.ref l))) S' Q) :
  wZ (am defs fuel (d+2)) fuel (.cons (.set 12 (.own "_law_shuffled" 2 #v[.v 0,.bi .list #v[.bi .range #v[.bi .len #v[.v 5]]]])) ss) Z S Q:=by
 have ul:(u.map ag).length=n:=by rw[GF,hu]
 have he:∀Q:QW,Q (.int z,S)->wE (am defs fuel (d+2)) (.bi .len #v[.v 5]) Z S Q:=λQ q=>by
  dsimp only[wE,wA];show h5 _ (az ?_);rw[ul,<- hz]; exact q
 have hx:∀Q:QW,(∀(t:GP) S',S'[t]?=gV (.lst (au (G8 n)))->S.length<=t->Ka S S'->Q (.ref t,S'))->wE (am defs fuel (d+2)) (.bi .list #v[.bi .range #v[.bi .len #v[.v 5]]]) Z S Q:=λQ h=>qi hz he ∅ h
 clear he;generalize E.bi .list #v[.bi .range #v[.bi .len #v[.v 5]]]=c at hx ⊢;show st ?_;dsimp only[wS,wE,wA];show h0 _ (hx _ λt S1 e1 _ k1=>?_)
 dsimp only;show qh (d:=d) G hs (hf.ka k1) e1 NW (by rw[Hq]; omega) (by rw[Hq]; omega) λq ps S2 e2 nd mem hl _ f2 k2=>?_
 rw[Hq]at hl;exact k q ps S2 e2 nd (λp hp=>Hd.mp (mem p hp)) hl f2 ((k1.kp r).trans k2)
def zQ (hfu:20 < fuel)(G:Gen defs)(P:Pai defs)(hsh:Is defs ("_law_shuffled" : Hc) 2 4 bh)(hg:Is defs ("_law_thing" : Hc) 4 14 dw){ms:GD W}{b0:W}{ns:GD Hc}{bs:GD G0}{a q:GP}{U:GD (T×W)}{w:W}(hb:GoodB bs)(hnl:ns.length=bs.length)(hM:ms.length=a)(ha1:0 < a)(ha3:a<=3)(e:S[q]?=gV (.dic U))(hqr:q≠r)(hf:Fl S r)
  (hw:w=.non\/∃x:Wd×Pt×Pt,w=cW x/\GoodW a bs.length x.1/\GoodP a bs.length x.1.length x.2.1/\GoodP a bs.length x.1.length x.2.2/\x.1.length<=4)
  (k:∀(u:Wd) (p p2:Pt) S',GoodW a bs.length u->GoodP a bs.length u.length p->GoodP a bs.length u.length p2->u.length<=7->Fl S' r->Kp r S S'->Q (cW (u,p,p2),S')) :
  wO (aE (am defs fuel (d+5)) "_law_thing" 4 [.ref r,.tup [.tup ms,.tup (GY aB ns bs),b0],.ref q,w] S) Q:=by
 show ap hg rfl rfl λQ' hR=>?_
 replace k:∀(u:Wd) (p p2:Pt) S',GoodW a bs.length u->GoodP a bs.length u.length p->GoodP a bs.length u.length p2->u.length<=7->Fl S' r->Kp r S S'->Q' (.rt (cW (u,p,p2)),S'):=λu p p2 S' h1 h2 h3 h4 h5 h6=>hR _ _ (k u p p2 S' h1 h2 h3 h4 h5 h6)
 clear hR;have hb3:1<=bs.length/\bs.length<=3:=by rcases hb with rfl|rfl|rfl|rfl|rfl|rfl <;> decide
 have zl:(GY aB ns bs).length=bs.length:=by rw[IC,hnl,Ju]
 change wZ _ _ dw [gV (.ref r),gV (.tup [.tup ms,.tup (GY aB ns bs),b0]),gV (.ref q),gV w,td,td,td,td,td,td,td,td,td,td] S Q';dsimp only[dw];show st ?_;dsimp only[wS,wE,wV,wG,G2];nofun
 have tl:∀(x:Wd×Pt×Pt) (S1:aa),GoodW a bs.length x.1->GoodP a bs.length x.1.length x.2.1->GoodP a bs.length x.1.length x.2.2->x.1.length<=4->Fl S1 r->Kp r S S1->K [gV (.ref r),gV (.tup [.tup ms,.tup (GY aB ns bs),b0]),gV (.ref q),gV w,gV (cW x),td,td,td,td,td,td,td,td,td] S1:=by
  rintro⟨u,p,p2⟩ S1 hu hp hp2 hul f1 k1;dsimp only at hu hp hp2 hul;show hK _ _ ?_;clear hK K;show st ?_;dsimp only[wS,wE,wV,wG,wU,cW];show ab (show cC [5,6,7] [ak u,ag p,ag p2] [gV (.ref r),gV (.tup [.tup ms,.tup (GY aB ns bs),b0]),gV (.ref q),gV w,gV (.tup [ak u,ag p,ag p2]),td,td,td,td,td,td,td,td,td]=gV [gV (.ref r),gV (.tup [.tup ms,.tup (GY aB ns bs),b0]),gV (.ref q),gV w,gV (.tup [ak u,ag p,ag p2]),gV (ak u),gV (ag p),gV (ag p2),td,td,td,td,td,td]from rfl) ?_
  generalize W.tup [ak u,ag p,ag p2]=w4;nofun
  show oJ rfl rfl ?_;dsimp only[wE,wA,wV,wG];show aQ (d:=d+3) G.pick f1 #v[] #v[] λv S2 v0 v1 f2 k2=>?_
  show#[v,λi Z S'=>∃(u:Wd) (p p2:Pt) (a8 a9 a10 a11:GN W),Z=[gV (.ref r),gV (.tup [.tup ms,.tup (GY aB ns bs),b0]),gV (.ref q),gV w,gV w4,gV (ak u),gV (ag p),gV (ag p2),a8,a9,a10,a11,td,td]/\GoodW a bs.length u/\GoodP a bs.length u.length p/\GoodP a bs.length u.length p2/\u.length<=4+i/\Fl S' r/\Kp r S S',rfl,∅,#[u,p,p2,_,_,_,_,rfl,hu,hp,hp2,∅,f2,k1.trans k2],?_,?_]
  ·clear hu hp hp2 hul f1 k1 f2 k2 hK;rintro i Z S3 hi ⟨u,p,p2,a8,a9,a10,a11,rfl,hu,hp,hp2,hul,f3,k3⟩ Q2 hn2 _;dsimp only[G2];have ul:(u.map ag).length=u.length:=GF ..;nofun
   left;show fN (d:=d+1) G P hM ha1 ha3 zl hb3.2 hu ∅ (k3.get _ _ hqr e) hqr f3 λw9 S4 hw9 f4 k4=>hK _ _ ?_
   clear hK K;show st ?_;dsimp only[wS,wE,wA,wU];show ab (show cC [10,11] [.non,.non] [gV (.ref r),gV (.tup [.tup ms,.tup (GY aB ns bs),b0]),gV (.ref q),gV w,gV w4,gV (ak u),gV (ag p),gV (ag p2),gV (.int i),gV w9,a10,a11,td,td]=gV [gV (.ref r),gV (.tup [.tup ms,.tup (GY aB ns bs),b0]),gV (.ref q),gV w,gV w4,gV (ak u),gV (ag p),gV (ag p2),gV (.int i),gV w9,gV .non,gV .non,td,td]from rfl) ?_
   replace k3:=k3.trans k4;clear k4 f3;nofun
   dsimp only[wS,wT,wE,wA,wV,wG];have last:∀(w10 w11:W) (S5:aa),Fl S5 r->Kp r S S5->((w10=.non/\w11=.non)\/∃pt,w9=ag pt/\GoodP a bs.length u.length pt/\(w10=.non\/∃to:GD G0,w10=.tup (al to)/\to.length=u.length+1/\∀x∈to,0<=x/\x < (bs.length:G0))/\(w11=.non\/∃to:GD G0,w11=.tup (al to)/\to.length=u.length+1/\∀x∈to,0<=x/\x < (bs.length:G0)))->K [gV (.ref r),gV (.tup [.tup ms,.tup (GY aB ns bs),b0]),gV (.ref q),gV w,gV w4,gV (ak u),gV (ag p),gV (ag p2),gV (.int i),gV w9,gV w10,gV w11,td,td] S5:=by
    intro w10 w11 S5 f5 k5 h;show hK _ _ ?_;clear hK K;nofun
    dsimp only[wS,wT,wE,wA,wV,wG];have stay:K [gV (.ref r),gV (.tup [.tup ms,.tup (GY aB ns bs),b0]),gV (.ref q),gV w,gV w4,gV (ak u),gV (ag p),gV (ag p2),gV (.int i),gV w9,gV w10,gV w11,td,td] S5:=hK _ _ (aN (hn2 _ _ #[u,p,p2,_,_,_,_,rfl,hu,hp,hp2,∅,f5,k5]))
    rcases h with⟨rfl,rfl⟩|⟨pt,rfl,gpt,h10,h11⟩
    ·show ab (show aJ .isnot .non .non S5=gV (.bl false,S5)from rfl) #[λz=>(by cases z),λ_=>?_]
     exact ae (Q0:=Q2) (λz=>by cases z) λ_ Q3 hn3 _=>aN (hn3 _ _ stay)
    rcases h10 with rfl|⟨to,rfl,tl1,tr1⟩
    ·show ab (show aJ .isnot .non .non S5=gV (.bl false,S5)from rfl) #[λz=>(by cases z),λ_=>?_]
     exact ae (Q0:=Q2) (λz=>by cases z) λ_ Q3 hn3 _=>aN (hn3 _ _ stay)
    show ab (show aJ .isnot (.tup (al to)) .non S5=gV (.bl true,S5)from rfl) #[λ_=>?_,λz=>by cases z]
    rcases h11 with rfl|⟨to2,rfl,tl2,tr2⟩
    ·show ab (show aJ .isnot .non .non S5=gV (.bl false,S5)from rfl) ?_
     dsimp only[wB];exact ae (Q0:=Q2) (λz=>by cases z) λ_ Q3 hn3 _=>aN (hn3 _ _ stay)
    show ab (show aJ .isnot (.tup (al to2)) .non S5=gV (.bl true,S5)from rfl) ?_
    dsimp only[wB];show ae (Q0:=Q2) (λ_ Q3 hn3 _=>?_) λz=>by cases z
    show st ?_;dsimp only[wS,wE,wA,wV,wG,w3,G2,ak];have ev:u.map ag++[ag pt]=(u++[pt]).map ag:=by rw[Hh]; rfl
    show ab (aP (cH (by rw[GJ,ul]; show _+1<=_; omega))) ?_
    dsimp only;rw[ev];show ac #v[] rfl (ac #v[] rfl ?_)
    have l1:(u++[pt]).length=u.length+1:=by rw[GJ]; rfl
    exact aN (hn3 _ _ (hK _ _ (aN (hn2 _ _ #[u++[pt],(p.1,to),(p2.1,to2),_,_,_,_,rfl,gpt.snoc hu,#[hp.mark,by rw[l1]; exact tl1,tr1],#[hp2.mark,by rw[l1]; exact tl2,tr2],∅,f5,k5]))))
   rcases hw9 with⟨rfl,_⟩|⟨pt,rfl,gpt,_⟩
   ·show ab (show aJ .isnot .non .non S4=gV (.bl false,S4)from rfl) ?_
    dsimp only[wB];exact ae (Q0:=Q2) (λz=>by cases z) λ_ Q3 hn3 _=>aN (hn3 _ _ (last _ _ _ f4 k3 (.inl #[rfl,rfl])))
   ·show ab (show aJ .isnot (ag pt) .non S4=gV (.bl true,S4)from rfl) ?_
    dsimp only[wB];show ae (Q0:=Q2) (λ_ Q3 hn3 _=>?_) λz=>by cases z
    have ev:u.map ag++[ag pt]=(u++[pt]).map ag:=by rw[Hh]; rfl
    have l1:(u++[pt]).length=u.length+1:=by rw[GJ]; rfl
    have gu1:=gpt.snoc hu;have nw:=λ(S:aa) (Q:QW) (h:Pt) (gh:GoodP a bs.length u.length h) (e:S[q]?=gV (.dic U)) (hf:Fl S r)=>kg (defs:=defs) (fuel:=fuel) (d:=d+2) (S:=S) (r:=r) (Q:=Q) (m0:=.tup ms) (b0:=b0) (mk:=h.1) (t0:=h.2) G P.ways zl hb3.2 gu1 (by rw[l1]; omega) (by rw[l1,gh.len]; omega) gh.way e hqr hf
    unfold ak at nw;show st ?_;dsimp only[wS,wE,wA,wV,wG,G2,ak];show ab (aP (cH (by rw[GJ,ul]; show _+1<=_; omega))) ?_
    dsimp only;rw[ev];show ac #v[] rfl (ac #v[] rfl ?_)
    show nw _ _ p hp (k3.get _ _ hqr e) f4 λw10 S5 h10 f5 k5=>?_
    show st ?_;left;show ab (aP (cH (by rw[GJ,ul]; show _+1<=_; omega))) ?_
    dsimp only;rw[ev];show ac #v[] rfl (ac #v[] rfl ?_)
    show nw _ _ p2 hp2 ((k3.trans k5).get _ _ hqr e) f5 λw11 S6 h11 f6 k6=>aN (hn3 _ _ (last _ _ _ f6 ((k3.trans k5).trans k6) (.inr #[pt,rfl,gpt,?_,?_])))
    ·rcases h10 with h|⟨to,h1,h2,h3,_⟩
     ·exact .inl h
     ·exact .inr #[to,h1,by rw[h2,l1],h3]
    ·rcases h11 with h|⟨to,h1,h2,h3,_⟩
     ·exact .inl h
     ·exact .inr #[to,h1,by rw[h2,l1],h3]
  ·clear hu hp hp2 hul f1 k1 f2 k2;rintro Z S3 ⟨u,p,p2,a8,a9,a10,a11,rfl,hu,hp,hp2,hul,f3,k3⟩;have hul:u.length<=7:=∅
   show hK _ _ ?_;clear hK K;have ul:(u.map ag).length=u.length:=GF ..;show F5 (d:=d+2) G hsh (u:=u) (n:=u.length) rfl rfl ∅ hfu f3 (λ_ h=>h) (λ_ h=>h) λl ps S5 e5 nd mem hl f5 k5=>?_
   dsimp only[G2];have k35:=k3.trans k5;show st ?_;dsimp only[wS];show iR [p,p2] ag (λ_=>true) (λh=>ag (aL h ps)) [gV (.ref l)] rfl rfl rfl rfl (HI rfl) ?_ (λh hh S6 k6=>?_) λS6 k6=>?_
   ·dsimp only[wE,wA,wV,wG];exact#[rfl,.refl]
   ·have gh:GoodP a bs.length u.length h:=by
     rcases Hn.mp hh with rfl|hh
     ·exact hp
     ·cases G6.mp hh; exact hp2
    dsimp only[fm,wC,wE,wA,wV,wG];show#[λ_=>ac #v[] rfl ?_,λz=>by cases z]
    show kj ps (λ(x:GP)=>W.int (x:G0)) (λ_=>true) (λx=>W.int (h.2.getD x 0)) [gV (ag h)] rfl rfl rfl rfl (by rw[hl]; omega) #[l,rfl,k6.get _ _ e5,.refl] (λx hx S7 k7=>?_) λS7 k7=>?_
    ·dsimp only[fm,wC,wE,wV,wG];show#[λ_=>ac #v[] rfl (ac (GZ x) ?_ #[rfl,rfl,.refl]),λz=>by cases z]
     rw[Ha,GV,aq (d:=0) (by rw[gh.len]; exact mem x hx)]; rfl
    ·rw[bO];show dX aj #[rfl,?_,k7.trans .push];unfold aL ag;rw[IG]; rfl
   rw[bO];dsimp only[G2];have k6':=k6.trans (Ka.push (o:=O.lst ([p,p2].map λh=>ag (aL h ps))))
   have e6:(S6++[O.lst ([p,p2].map λh=>ag (aL h ps))])[S6.length]?=gV (O.lst [ag (aL p ps),ag (aL p2 ps)]):=aj
   generalize S6++[O.lst ([p,p2].map λh=>ag (aL h ps))]=S7 at k6' e6
   generalize S6.length=c6 at e6;show st ?_;left;show zP (d:=d+2) G hb hnl hu mem nd (by rw[hl]; omega) (k6'.get _ _ e5) λS8 k8=>?_
   show g9 (k8.get _ _ e6) #v[] rfl (g9 (k8.get _ _ e6) #v[] rfl ?_)
   have pl:(ar bs u ps).length=ps.length:=aT ..;have k78:=(k6'.trans k8);have ov:∀h:Pt,GoodP a bs.length u.length h->GoodP a bs.length (ar bs u ps).length (aL h ps):=λh gh=>#[gh.mark,by rw[pl]; exact GF ..,λx hx=>by
    obtain⟨i,hi,rfl⟩:=Hi.mp hx;exact gh.way _ (vX (by rw[gh.len]; exact mem i hi))]
   exact k (ar bs u ps) (aL p ps) (aL p2 ps) S8 (iS hb hu mem nd) (ov p hp) (ov p2 hp2) (by rw[pl,hl]; exact hul) (f5.ka k78) (k35.trans (k78.kp r))
 dsimp only[wS,wT,wE,wA,wV,wG];have pr:∀S1:aa,Fl S1 r->Kp r S S1->∀(t:Hj),t=true->∀Q2:QO,(∀Z' S',K Z' S'->Q2 (.nx Z',S'))->(∀o S',(∀Z',o≠.nx Z')->Q' (o,S')->Q2 (o,S'))->(t=true->mR (am defs fuel (d+4)) fuel #v[.set 4 (.own "_law_pair" 4 #v[.v 0,.v 1,.v 2,.own "_law_pick" 2 #v[.v 0,.c (.int 5)]])] [gV (.ref r),gV (.tup [.tup ms,.tup (GY aB ns bs),b0]),gV (.ref q),gV w,gV w,td,td,td,td,td,td,td,td,td] S1 Q2)/\(t=false->mR (am defs fuel (d+4)) fuel .nil [gV (.ref r),gV (.tup [.tup ms,.tup (GY aB ns bs),b0]),gV (.ref q),gV w,gV w,td,td,td,td,td,td,td,td,td] S1 Q2):=λS1 f1 k1 t ht=>ae (Q0:=Q') (λ_ Q3 hn3 _=>st (by
   left;show aQ (d:=d+3) G.pick f1 #v[] #v[] λv S2 v0 v1 f2 k2=>?_
   obtain⟨m,rfl⟩ : ∃m:GP,v=m:=#[v.toNat,∅]
   show Cp (d:=d) G P hM ha1 ha3 zl hb3.1 hb3.2 ∅ ((k1.trans k2).get _ _ hqr e) hqr f2 λu p w S3 hul hu _ gp _ gq _ f3 k3=>aN (hn3 _ _ (tl (u,p,w) S3 hu gp gq (by dsimp only; omega) f3 ((k1.trans k2).trans k3))))) λz=>by rw[ht]at z; cases z
 rcases hw with rfl|⟨x,rfl,h1,h2,h3,h4⟩
 ·show ab (show aJ .is .non .non S=gV (.bl true,S)from rfl) #[λ_=>pr S hf .refl _ rfl,λz=>by cases z]
 ·show ab (show aJ .is (cW x) .non S=gV (.bl false,S)from rfl) #[λz=>(by cases z),λ_=>?_]
  show aQ (d:=d+3) G.pick hf #v[] #v[] λv S2 v0 v1 f2 k2=>?_
  show ab iL ?_;dsimp only[wB];cases hv:(v==(0:G0))with
  | true=>exact pr S2 f2 k2 _ rfl
  | false=>exact ae (Q0:=Q') (λz=>by cases z) λ_ Q3 hn3 _=>aN (hn3 _ _ (tl x S2 h1 h2 h3 h4 f2 k2))
end
def wX {a c:GP}{bs:GD G0}{U:GD (T×W)}{u:Wd}{p q:Pt}(hc:0 < c)(hb:c<=bs.length+1)(h0:0 < bs.length)(hp:GoodP a bs.length u.length p):¬ oY a bs U c (.tup [.tup [],ag p,ag q]):=by
 rintro⟨⟨u',p',q'⟩,e,hC,hF⟩;injection e with e
 injection e with e1 e
 injection e with e2 _
 cases(wL (u:=[]) e1);have:=hF 0 hc;rw[dH h0]at this;obtain⟨k,hk,_⟩:=this;cases hk
section
variable{defs:GD (Hc×Df)}{fuel d:GP}{S:aa}{r:GP}{Q:QW}
def wY (hg:Is defs ("_law_alike" : Hc) 2 2 dk){b:Hj}(k:Q (.bl true,S)):wO (aE (am defs fuel (d+1)) "_law_alike" 2 [.bl b,.bl b] S) Q:=by
 show ap hg rfl rfl λQ' hR=>?_
 change wZ _ _ dk [gV (.bl b),gV (.bl b)] S Q';dsimp only[dk];nofun
 dsimp only[wS,wT,wE,wV,wG];show ab (show aJ .is (.bl b) .non S=gV (.bl false,S)from rfl) ?_
 dsimp only[wB];show ae (Q0:=Q') (λz=>by cases z) (λ_ Q2 hn2 _=>aN (hn2 _ _ (hK _ _ ?_)))
 clear hn2 hK K;nofun
 dsimp only[wS,wT,wE,wV,wG];have hb:sv S (.bl b) "bool" = gV true:=rfl;show ab hb #[λ_=>?_,λz=>by cases z]
 show ae (Q0:=Q') (λ_ Q2 _ hr2=>?_) (λz=>by cases z)
 show st ?_;dsimp only[wS,wE,wV,wG];show ab hb #[λ_=>ab hb #[λ_=>ab (show aJ .eq (.bl b) (.bl b) S=gV (.bl (b==b),S)from rfl) ?_,λz=>by cases z],λz=>by cases z]
 rw[Ip];exact hr2 _ _ (hR _ _ k)
end
abbrev cU:Ss:=
 #v[.ite (.cmp .gt (.own "_law_pick" 2 #v[.v 0,.c (.int 3)]) (.c (.int 0))) #v[.ret (.own "_law_any_rule" 1 #v[.v 0])] .nil,.ret (.own "_law_unlaying_rule" 1 #v[.v 0])]
abbrev ju:Ss:=
 #v[.set 1 (.own "_law_flow" 1 #v[.v 0]),.set 2 (.own "_law_some_rule" 1 #v[.v 1]),.set 3 (.own "_law_bad" 1 #v[.v 2]),.set 4 (.own "_law_thing" 4 #v[.v 1,.v 2,.v 3,.own "unlaid" 1 #v[.v 2]]),.set 5 (.own "_law_spoilt_thing" 3 #v[.v 1,.v 2,.v 4]),.set 6 (.tup #v[.ix (.v 4) (.c (.int 0)),.ix (.v 4) (.c (.int 2)),.ix (.v 4) (.c (.int 1))]),.loop (.nm 7) (.seq (.tup #v[.v 4,.v 5,.v 6,.v 4])) #v[.ite (.not (.own "_law_alike" 2 #v[.own "is_unlaid" 2 #v[.v 2,.v 7],.own "_law_unfilled" 4 #v[.v 2,.v 3,.v 7,.c (.bl false)]])) #v[.ret (.c (.bl false))] .nil],.ret (.cmp .is (.own "is_unlaid" 2 #v[.v 2,.tup #v[.tup .nil,.ix (.v 4) (.c (.int 1)),.ix (.v 4) (.c (.int 2))]]) (.c (.bl false)))]
structure Lw31 (defs:GD (Hc×Df)):Prop where
 gen:Gen defs
 unl:Unl defs
 bwt:Bwt defs
 isu:Is defs ("is_unlaid" : Hc) 2 2 dv
 pai:Pai defs
 tl3:Tl3 defs
 some':Is defs ("_law_some_rule" : Hc) 1 1 cU
 shuf:Is defs ("_law_shuffled" : Hc) 2 4 bh
 thing:Is defs ("_law_thing" : Hc) 4 14 dw
 other:Is defs ("_law_other_point" : Hc) 3 7 aU
 spoilt:Is defs ("_law_spoilt_thing" : Hc) 3 9 bj
 flow:Is defs ("_law_flow" : Hc) 1 1 dW
 bad:Is defs ("_law_bad" : Hc) 1 4 eJ
 alike:Is defs ("_law_alike" : Hc) 2 2 dk
 law:Is defs ("law" : Hc) 1 8 ju
section
variable{defs:GD (Hc×Df)}{fuel d:GP}{S:aa}{r:GP}{Q:QW}
def w8 (hfu:20 < fuel)(G:Gen defs)(P:Pai defs)(hg:Is defs ("_law_some_rule" : Hc) 1 1 cU)(hf:Fl S r)(k:∀w S',gI w->Fl S' r->Kp r S S'->Q (w,S')):wO (aE (am defs fuel (d+8)) "_law_some_rule" 1 [.ref r] S) Q:=by
 show ap hg rfl rfl λQ' hR=>?_
 replace k:∀w S',gI w->Fl S' r->Kp r S S'->Q' (.rt w,S'):=λz S' a b c=>hR _ _ (k z S' a b c)
 clear hR;change wZ _ _ cU [gV (.ref r)] S Q';dsimp only[cU];nofun
 dsimp only[wS,wT,wE,wA,wV,wG];show aQ (d:=d+6) G.pick hf #v[] #v[] λv S1 v0 v7 f1 k1=>?_
 show ab y8 ?_;dsimp only[wB];show ae (Q0:=Q') (λ_ Q2 _ hr=>?_) (λ_ Q2 hn _=>aN (hn _ _ (hK _ _ ?_)))
 ·show st ?_;left;exact pP (d:=d+1) hfu G f1 λw S2 a b c=>hr _ _ (k w S2 a b (k1.trans c))
 show st ?_;left;exact pQ (d:=d+1) hfu G P.un f1 λw S2 a b c=>k w S2 a b (k1.trans c)
def xf (hfu:50 < fuel)(L:Lw31 defs){zs:GD G0}:∃S',am defs fuel (d+12) "law" [.ref 0] [.fro (zs.map W.int)]=gV (.bl true,S'):=by
 suffices h:wO (aE (am defs fuel (d+12)) "law" 1 [.ref 0] [.fro (zs.map W.int)]) (λp=>p.1=.bl true) by
  obtain⟨⟨v,S'⟩,e,q⟩:=bN h;cases(show v=.bl true from q)
  exact#[S',e]
 have G:=L.gen;show ap L.law rfl rfl λQ' hR=>?_
 change wZ _ _ ju [gV (.ref 0),td,td,td,td,td,td,td] [.fro (zs.map W.int)] Q';unfold ju;nofun
 left;show Cm (d:=d+10) L.flow (ns:=zs) rfl λr S1 _ f1=>hK _ _ ?_
 clear hK K;nofun
 left;show w8 (d:=d+3) ∅ G L.pai L.some' f1 λw S2 hw f2 _=>hK _ _ ?_
 clear hK K f1;obtain⟨a,bs,ms,ns,gs0,rfl,hr⟩:=hw;have hb:=hr.size.good;have hnl:=hr.nl;have hml:=hr.ml;have hpos:=hr.size.pos;have ha3:=hr.size.a3;have pm:(hW gs0).Perm gs0:=uH;have hgs:∀g∈hW gs0,GoodW a bs.length g/\g.length=3:=λg hg=>sO hb (hr.mem g (pm.mem_iff.mp hg))
 have h64:(hW gs0).length<=100:=by
  have h1:=mT gs0 _ hr.nd hr.mem;have h2:=mV hr.size;rw[pm.length_eq]; omega
 clear hr pm;unfold d8;generalize hW gs0=gs at hgs h64;clear gs0;have hb1:0 < bs.length/\bs.length<=3:=by rcases hb with rfl|rfl|rfl|rfl|rfl|rfl <;> decide
 have ml:(ms.map W.str).length=a:=by rw[GF,hml]
 have zl:(GY aB ns bs).length=bs.length:=by rw[IC,hnl,Ju]
 nofun
 left;show En (d:=d+8) G L.bad hb hnl hgs h64 λq U S3 e3 h3 hq k3=>hK _ _ ?_
 clear hK K;have f3:=f2.ka k3;have hqr:q≠r:=by have:=f2.lt; omega
 clear k3 hq f2;nofun
 left;show wy (d:=d) ∅ L.unl hb hnl ml ha3 hgs h64 λw U1 S4 h4 hf1 hd1 k4=>?_
 show zQ (d:=d+6) ∅ G L.pai L.shuf L.thing hb hnl ml hpos ha3 (k4.get _ _ e3) hqr (f3.ka k4) ?_ λu p p2 S5 hu hp hp2 hul f5 k5=>hK _ _ ?_
 ·rcases hf1 with⟨h,_⟩|⟨x,h,hC,_,hl⟩
  ·exact .inl h
  ·exact .inr #[x,h,hC.gu,hC.gp,hC.gq,∅]
 clear hK K;have e5:=k5.get _ _ hqr (k4.get _ _ e3);clear k5 k4 e3 f3 hf1 hd1 h4;nofun
 left;show wW (d:=d+8) G L.other L.spoilt ml hpos ha3 zl hb1.1 hb1.2 hu hp hp2 ∅ f5 λw6 S6 t6 f6 k6=>hK _ _ ?_
 clear hK K;have e6:=k6.get _ _ hqr e5;clear e5 k6 f5;show st ?_;dsimp only[wS,wE,wA,wV,wG,G2,cW];show ac #v[] rfl (ac #v[] rfl (ac #v[] rfl ?_))
 have ul:(u.map ag).length=u.length:=GF ..;have tp:∀ {S:aa},Thg S (ag p):=.pt (by rw[hp.len]; omega)
 have tq:∀ {S:aa},Thg S (ag p2):=.pt (by rw[hp2.len]; omega)
 have tu:∀ {S:aa},Thg S (ak u):=.tup (At hu ∅) ∅
 have t3:∀ {S:aa} {x y z:W},Thg S x->Thg S y->Thg S z->Thg S (.tup [x,y,z]):=λhx hy hz=>.tup (fc hx (fc hy (fc hz fn))) (HI rfl)
 have iu:=λ(S:aa) (Q:QW) (w:W)=>oZ (defs:=defs) (fuel:=fuel) (d:=d+3) (S:=S) (Q:=Q) (w:=w) ∅ L.unl.fil L.bwt L.isu hb hnl ml hgs h64 h3
 have uf:=λ(S:aa) (Q:QW) (w:W)=>qg (defs:=defs) (fuel:=fuel) (d:=d+8) (S:=S) (Q:=Q) (w:=w) (b0:=.tup (gs.map ak)) (q:=q) (bw:=false) L.tl3 hb hnl ml h3.get
 generalize W.tup [.tup (ms.map W.str),.tup (GY aB ns bs),.tup (gs.map ak)]=R at iu uf;nofun
 show for_tup [.tup [ak u,ag p,ag p2],w6,.tup [ak u,ag p2,ag p],.tup [ak u,ag p,ag p2]] (λi Z S'=>(∃a7,Z=[gV (.ref 0),gV (.ref r),gV R,gV (.ref q),gV (.tup [ak u,ag p,ag p2]),gV w6,gV (.tup [ak u,ag p2,ag p]),a7])/\Ka S6 S') rfl rfl #[rfl,#[_,rfl],.refl] ?_ ?_
 ·rintro i w Z S7 hw ⟨⟨a7,rfl⟩,k7⟩;clear hK;have tw:Thg S7 w:=fc (P:=Thg S7) (t3 tu tp tq) (fc (t6.ka k7) (fc (t3 tu tq tp) (fc (t3 tu tp tq) fn))) w (G7 hw);show ab (show fq (.nm 7) w [gV (.ref 0),gV (.ref r),gV R,gV (.ref q),gV (.tup [ak u,ag p,ag p2]),gV w6,gV (.tup [ak u,ag p2,ag p]),a7] S7=gV ([gV (.ref 0),gV (.ref r),gV R,gV (.ref q),gV (.tup [ak u,ag p,ag p2]),gV w6,gV (.tup [ak u,ag p2,ag p]),gV w],S7)from rfl) ?_
  intro Q2 hn2 _;nofun
  dsimp only[wS,wT,wE,wA,wV,wG];show iu _ _ w tw λb S8 hb8 k8=>?_
  show uf _ _ w ((k7.trans k8).get _ _ e6) (tw.ka k8) λb' S9 hb9 k9=>?_
  have:b'=b:=by rw[Jp,hb8,hb9]; rfl
  subst this;show wY (d:=d+10) L.alike ?_;dsimp only;show ab (show cX S9 (.bl true)=gV true from rfl) ?_
  exact ae (Q0:=Q2) (λz=>by cases z) (λ_ Q5 hn5 _=>aN (hn5 _ _ (hK _ _ (aN (hn2 _ _ #[#[_,rfl],(k7.trans k8).trans k9])))))
 ·rintro Z S7 ⟨⟨a7,rfl⟩,k7⟩;show hK _ _ (st ?_);left;show ac #v[] rfl (ac #v[] rfl ?_)
  show iu _ _ (.tup [.tup [],ag p,ag p2]) (t3 (.tup fn (IB _)) tp tq) λb S8 hb8 _=>?_
  have:b=false:=Jd.mpr λz=>wX (Nat.succ_pos _) (G3 _) hb1.1 hp (hb8.mp z)
  subst this;exact ab (show aJ .is (.bl false) (.bl false) S8=gV (.bl true,S8)from rfl) (hR _ _ rfl)
end
abbrev Au:Df:=#[["_law_script"],["_law_script","_law_flow_here","_law_rule","_law_bad_here","_law_thing_here","_law_spoilt","_law_turned_thing","_law_each"],ju]
noncomputable abbrev Tw:=Hc×GP×Df×GP
noncomputable abbrev tw (x:Hc)(i:GP)(d:Df)(a:GP):Tw:=(x,i,d,a)
abbrev TL:GD Tw:=[tw "is_whole" 1 #[["thing"],["thing"],eX] 21,tw "is_tuple_of" 2 #[["thing","size"],["thing","size"],dj] 28,tw "is_numbers" 3 #[["thing","size"],["thing","size"],dI] 33,tw "is_world" 5 #[["rule","thing"],["rule","thing"],eY] 38,tw "is_point" 6 #[["rule","thing","ahead"],["rule","thing","ahead","mark_there"],eZ] 43,tw "has_point_form" 7 #[["thing","ahead"],["thing","ahead"],ce] 50,tw "way" 8 #[["rule","world","i","j"],["rule","world","i","j"],re] 57,tw "part" 10 #[["rule","world","points"],["rule","world","points"],gJ] 62,tw "point_over" 11 #[["rule","world","ahead","point"],["rule","world","ahead","point"],dG] 67,tw "longer_orders" 12 #[["orders","size"],["orders","size","longer","order"],aV] 72,tw "back" 14 #[["rule","way"],["rule","way"],iV] 79,tw "barred_threes" 16 #[["rule"],["rule","orders","barred","figure","order"],bq] 86,tw "three_at" 17 #[["world","i","j","k"],["world","i","j","k","one","two"],aW] 93,tw "first_barred" 18 #[["rule","world"],["rule","world"],bY] 100,tw "first_three" 19 #[["barred","world"],["barred","world","i","j","k"],bP] 107,tw "first_bar" 20 #[["barred","world"],["barred","world","last","point"],aS] 114,tw "wishes_over" 21 #[["rule","barred","world"],["rule","barred","world","found","mark","heads","size"],cq] 119,tw "longer_wishes" 22 #[["rule","heads"],["rule","heads","longer","mark","ways"],br] 124,tw "barred_by" 24 #[["rule","base","one","other"],["rule","base","one","other"],dq] 131,tw "all_bars" 25 #[["rule","barred","base","one","other"],["rule","barred","base","one","other","bars"],eU] 136,tw "with_both" 26 #[["rule","base","one","other","number"],["rule","base","one","other","number"],dt] 143,tw "same_bar" 27 #[["one","other"],["one","other","apart"],dY] 148,tw "unlaid" 29 #[["rule"],["rule"],ig] 155,tw "first_unfilled" 30 #[["rule","counted"],["rule","counted","barred","mark","other","found"],cb] 162,tw "unfilled_behind" 31 #[["rule","barred","tried","counted"],["rule","barred","tried","counted","bars","place","longer","found"],bz] 169,tw "longer_by_a_point" 32 #[["rule","barred","tried"],["rule","barred","tried","longer","point","base","others","one"],bD] 174,tw "longer_by_a_way" 33 #[["rule","barred","base","wish"],["rule","barred","base","wish","longer"],bx] 179,tw "is_unlaid" 34 #[["rule","thing"],["rule","thing"],dv] 186,tw "is_base_with_two" 35 #[["rule","thing"],["rule","thing"],bL] 191,tw "_law_flow" 37 #[["_law_script"],["_law_script"],dW] 198,tw "_law_pick" 38 #[["_law_flow_here","_law_many"],["_law_flow_here","_law_many","_law_cell","_law_digit"],cD] 205,tw "_law_shuffled" 39 #[["_law_flow_here","_law_things"],["_law_flow_here","_law_things","_law_left","_law_told"],bh] 212,tw "_law_names" 40 #[["_law_flow_here","_law_many"],["_law_flow_here","_law_many"],d7] 217,tw "_law_between" 41 #[["_law_rule","_law_world_here","_law_i","_law_j"],["_law_rule","_law_world_here","_law_i","_law_j"],dh] 224,tw "_law_part" 42 #[["_law_rule","_law_world_here","_law_points"],["_law_rule","_law_world_here","_law_points","_law_told","_law_k","_law_i"],dc] 229,tw "_law_turns" 43 #[[],[],fL] 236,tw "_law_figure" 44 #[["_law_rule","_law_three"],["_law_rule","_law_three"],dE] 241,tw "_law_bad" 45 #[["_law_rule"],["_law_rule","_law_bad_here","_law_three","_law_points"],eJ] 248,tw "_law_may" 46 #[["_law_rule","_law_bad_here","_law_world_here"],["_law_rule","_law_bad_here","_law_world_here","_law_k"],eO] 255,tw "_law_last_may" 47 #[["_law_rule","_law_bad_here","_law_world_here","_law_k"],["_law_rule","_law_bad_here","_law_world_here","_law_k","_law_mark","_law_to","_law_j","_law_i"],aF] 262,tw "_law_backs" 48 #[["_law_flow_here","_law_many"],["_law_flow_here","_law_many","_law_menu"],d4] 269,tw "_law_rule_of" 49 #[["_law_flow_here","_law_marks","_law_backs_here","_law_barred"],["_law_flow_here","_law_marks","_law_backs_here","_law_barred","_law_names_here","_law_ways"],di] 274,tw "_law_free_three" 50 #[["_law_flow_here","_law_marks","_law_ways"],["_law_flow_here","_law_marks","_law_ways","_law_told","_law_k"],b8] 279,tw "_law_sizes" 51 #[["_law_flow_here"],["_law_flow_here","_law_menu"],d6] 286,tw "_law_any_rule" 52 #[["_law_flow_here"],["_law_flow_here","_law_marks","_law_ways","_law_rule","_law_barred","_law_k"],cN] 293,tw "_law_rising" 53 #[["_law_marks"],["_law_marks","_law_told","_law_i","_law_j"],dF] 298,tw "_law_unlaying_rule" 54 #[["_law_flow_here"],["_law_flow_here","_law_form","_law_rule","_law_barred","_law_some","_law_one","_law_two","_law_between_here","_law_first","_law_marks"],ba] 303,tw "_law_new_ways" 55 #[["_law_flow_here","_law_rule","_law_bad_here","_law_world_here","_law_mark","_law_to"],["_law_flow_here","_law_rule","_law_bad_here","_law_world_here","_law_mark","_law_to","_law_k","_law_left","_law_w","_law_seen","_law_i"],aK] 310,tw "_law_world" 56 #[["_law_flow_here","_law_rule","_law_bad_here","_law_many"],["_law_flow_here","_law_rule","_law_bad_here","_law_many","_law_world_here","_law_k","_law_mark","_law_to"],dm] 317,tw "_law_alike" 57 #[["_law_found","_law_due"],["_law_found","_law_due"],dk] 322,tw "_law_new_point" 58 #[["_law_flow_here","_law_rule","_law_bad_here","_law_base"],["_law_flow_here","_law_rule","_law_bad_here","_law_base","_law_first","_law_k","_law_mark","_law_to"],cv] 329,tw "_law_near" 59 #[["_law_flow_here","_law_rule","_law_bad_here","_law_base","_law_point"],["_law_flow_here","_law_rule","_law_bad_here","_law_base","_law_point","_law_mark","_law_to","_law_kind","_law_at"],eV] 336,tw "_law_pair" 60 #[["_law_flow_here","_law_rule","_law_bad_here","_law_many"],["_law_flow_here","_law_rule","_law_bad_here","_law_many","_law_base","_law_one","_law_other"],eW] 343,tw "_law_both" 61 #[["_law_rule","_law_base","_law_one","_law_other","_law_number"],["_law_rule","_law_base","_law_one","_law_other","_law_number"],de] 350,tw "_law_fills" 62 #[["_law_rule","_law_bad_here","_law_base","_law_one","_law_other"],["_law_rule","_law_bad_here","_law_base","_law_one","_law_other","_law_found","_law_number"],du] 357,tw "_law_is_world" 63 #[["_law_rule","_law_thing_here"],["_law_rule","_law_thing_here","_law_k","_law_point","_law_number","_law_numbers","_law_many"],bZ] 362,tw "_law_unfilled" 64 #[["_law_rule","_law_bad_here","_law_thing_here","_law_by_ways"],["_law_rule","_law_bad_here","_law_thing_here","_law_by_ways","_law_base","_law_one","_law_other","_law_point","_law_found"],cR] 369,tw "_law_thing" 65 #[["_law_flow_here","_law_rule","_law_bad_here","_law_told"],["_law_flow_here","_law_rule","_law_bad_here","_law_told","_law_thing_here","_law_base","_law_one","_law_other","_law_k","_law_point","_law_mine","_law_yours","_law_points","_law_told_ones"],dw] 374,tw "_law_other_point" 66 #[["_law_flow_here","_law_rule","_law_point"],["_law_flow_here","_law_rule","_law_point","_law_mark","_law_to","_law_many","_law_some"],aU] 379,tw "_law_spoilt_thing" 67 #[["_law_flow_here","_law_rule","_law_thing_here"],["_law_flow_here","_law_rule","_law_thing_here","_law_base","_law_one","_law_other","_law_kind","_law_some","_law_at"],bj] 386,tw "_law_some_rule" 68 #[["_law_flow_here"],["_law_flow_here"],cU] 393,tw "law" 69 Au 400]
abbrev je:GD (Hc×Df):=TL.map λp=>(p.1,p.2.2.1)
abbrev F6:GD (Hc×GP):=TL.map λp=>(p.1,p.2.2.1.ps.length)
abbrev zR:GD Hc:=["range","len","list","tuple","int","sorted","isinstance","bool","str","all","min","enumerate"]
abbrev CJ:Md:=#[F6,zR]
abbrev BD (x:Hc)(st:JR)(df:Df):Prop:=∀(kV doc pm:GK) (an:GN GU) (cdv ct:GK) (us:GD GK),us.length=df.ps.length->bindArgs (Jj x x (dA st) (cr st) (aR st) .none kV doc pm an cdv ct) #[us,[]]=pure (df.ps.zip us)
def Gj {us:GD GK}(h:us.length=0):us=[]:=JY.mp h
def uc {us:GD GK}{n:GP}(h:us.length=n+1):∃a t,us=a::t/\t.length=n:=by
 cases us with
 | nil=>cases h
 | cons a t=>exact#[a,t,rfl,P0 h]
def Gk {us:GD GK}(h:us.length=1):∃a,us=[a]:=by obtain⟨a,t,rfl,g⟩:=uc h; cases Gj g; exact#[a,rfl]
def Gm {us:GD GK}(h:us.length=2):∃a b,us=[a,b]:=by obtain⟨a,t,rfl,g⟩:=uc h; obtain⟨b,rfl⟩:=Gk g; exact#[a,b,rfl]
def Gn {us:GD GK}(h:us.length=3):∃a b c,us=[a,b,c]:=by obtain⟨a,t,rfl,g⟩:=uc h; obtain⟨b,c,rfl⟩:=Gm g; exact#[a,b,c,rfl]
def Go {us:GD GK}(h:us.length=4):∃a b c d,us=[a,b,c,d]:=by obtain⟨a,t,rfl,g⟩:=uc h; obtain⟨b,c,d,rfl⟩:=Gn g; exact#[a,b,c,d,rfl]
def Gp {us:GD GK}(h:us.length=5):∃a b c d e,us=[a,b,c,d,e]:=by obtain⟨a,t,rfl,g⟩:=uc h; obtain⟨b,c,d,e,rfl⟩:=Go g; exact#[a,b,c,d,e,rfl]
def Gy {us:GD GK}(h:us.length=6):∃a b c d e f,us=[a,b,c,d,e,f]:=by obtain⟨a,t,rfl,g⟩:=uc h; obtain⟨b,c,d,e,f,rfl⟩:=Gp g; exact#[a,b,c,d,e,f,rfl]
abbrev DG (p:Tw):Prop:=DI CJ (kX p.2.1) p.2.2.1/\FnScope p.2.2.1.N p.2.2.1.ps (aR (kX p.2.1))/\BD p.1 (kX p.2.1) p.2.2.1
def gc {α:Type}{F:α->Prop}{p:α}{L:GD α}(a:F p)(b:∀q∈L,F q):∀q∈p::L,F q:=K5.mpr #[a,b]
def gn {α:Type}{F:α->Prop}:∀q∈([]:GD α),F q:=λ_ h=>nomatch h
def Gz {p:Tw}(a:qV (cS 20 (vo CJ (kX p.2.1) p.2.2.1.N)) (cr (kX p.2.1))=gV p.2.2.1.body)(b:FnScope p.2.2.1.N p.2.2.1.ps (aR (kX p.2.1)))(c:BD p.1 (kX p.2.1) p.2.2.1):DG p:=#[a,b,c]
set_option maxHeartbeats 0 in
def Av:∀p∈TL,DG p:=by
 unfold TL
 repeat show gc (Gz (by kernel_rfl) #[rfl,rfl,rfl,by decide +kernel,rfl,by decide +kernel,by decide +kernel] λ_ _ _ _ _ _ us h=>by
  first
   | (obtain⟨a,rfl⟩:=Gk h; rfl)
   | (obtain⟨a,b,rfl⟩:=Gm h; rfl)
   | (obtain⟨a,b,c,rfl⟩:=Gn h; rfl)
   | (obtain⟨a,b,c,d,rfl⟩:=Go h; rfl)
   | (obtain⟨a,b,c,d,e,rfl⟩:=Gp h; rfl)
   | (obtain⟨a,b,c,d,e,f,rfl⟩:=Gy h; rfl)
   | (obtain rfl:=Gj h; rfl)) ?_
 exact gn
def GB {f:Hc}{m n:GP}{b:Ss}(h:((je.lookup f).map λd=>(d.ps.length,d.N.length,d.body))=gV (m,n,b)):Is je f m n b:=by
 rw[GM]at h;obtain⟨d,h1,h2⟩:=h;rw[OS,OS]at h2;exact#[d,h1,h2.1,h2.2.1,h2.2.2]
set_option maxHeartbeats 0 in
def EA:Lw31 je:=by
 repeat' first
  | exact GB (by kernel_rfl)
  | constructor
def kC:∀(L:GD Tw) (x:Hc) (n:GP),(L.map λp=>(p.1,p.2.2.1.ps.length)).lookup x=gV n->∃p∈L,p.1=x/\p.2.2.1.ps.length=n/\(L.map λp=>(p.1,p.2.2.1)).lookup x=gV p.2.2.1
 | [],x,n,h=>by cases h
 | p::L,x,n,h=>by
  rw[Ir,Ii]at h;rw[Ir,Ii];cases e:x==p.1 with
  | true=>
   rw[e]at h;cases h;exact#[p,HH ..,(eq_of_beq e).symm,rfl,rfl]
  | false=>
   rw[e]at h;obtain⟨q,h1,h2,h3,h4⟩:=kC L x n h;exact#[q,Hv _ h1,h2,h3,h4]
section
variable{P:Hx}{w:HL}{K:G4}{mg:Hc->GN GK}{base:HX}
abbrev xg (K:G4)(mg:Hc->GN GK)(x:Hc)(st:JR)(df:Df):Prop:=∃(f:GU) (fd:Jz),Fun K x x st f fd/\mg x=gV (.ref f)/\Iz K (.ref f)=true/\Binds K fd df.ps []
def Cz {h:HX}{x:Hc}{st:JR}{df:Df}{f:GU}{oc:GK}{od an:GN GU}{osl:HR (GN GK)}{kV doc pm cdv ct:GK}(X:K.In h)(G:h.Ns mainGlobals mg)
  (b:BD x st df)
  (a:Kk K mainGlobals x=gV (gV (.ref f))) (l:K.lookup f=gV #[oc,od,.func (Jj x x (dA st) (cr st) (aR st) .none kV doc pm an cdv ct),osl]) (c:JW K cdv x=true) (k:Iz K (.ref f)=true):xg K mg x st df:=
 have F:=ub (st:=st) l c k
 #[f,_,F,OT X G a,k,F.binds b]
def xi {fuel:GP}(hb:MdOk w K mg CJ)(D:∀p∈TL,xg K mg p.1 (kX p.2.1) p.2.2.1):∀d,z9 P w K mg base CJ je fuel d
 | 0=>λf n h=>by
  obtain⟨p,h1,rfl,h2,h3⟩:=kC TL f n h;obtain⟨fa,fd,F,m,kp,b⟩:=D p h1;show#[fa,fd,p.2.2.1.ps,#[λvs H Q E z=>?_,λA outer s H args us vs Q E hr he hbd hv z=>?_],m,kp,b]
  all_goals
   obtain⟨_,_,_,_,_,_,_,_,z,_⟩:=z;cases z
 | d+1=>λf n h=>by
  obtain⟨p,h1,rfl,h2,h3⟩:=kC TL f n h;obtain⟨g1,g2,_⟩:=Av p h1;obtain⟨fa,fd,F,m,kp,b⟩:=D p h1;show#[fa,fd,p.2.2.1.ps,?_,m,kp,b];rw[<- h2];exact Aa F g2 h3 g1 hb (xi hb D d)
def EB {h:HX}(X:K.In h)(G:h.Ns mainGlobals mg)(z:∀y∈zR,Kk K mainGlobals y=gV td):MdOk w K mg CJ:=#[λy hy=>PySem.W.mg_none_of X G (z y hy)]
end
def CA {l:L9}{w:HL}{K:G4}{h:HX}{mg:Hc->GN GK}{fa f:GU}(X:K.In h)(G:h.Ns mainGlobals mg)(hfa:mg "law" = gV (.ref fa))(hb:MdOk w K mg CJ)(D:∀p∈TL,xg K mg p.1 (kX p.2.1) p.2.2.1)
  {oc:GK} {od an:GN GU} {osl:HR (GN GK)} {kV doc pm cdv ct:GK} (a:Kk K mainGlobals "law" = gV (gV (.ref f))) (l':K.lookup f=gV #[oc,od,.func (Jj "law" "law" (dA (kX 69)) (cr (kX 69)) (aR (kX 69)) .none kV doc pm an cdv ct),osl]) (c:JW K cdv "law" = true) (k:Iz K (.ref f)=true) :
  ∃fd:Jz,(∀(s:GL) (v:GK),Nn s fd #[[v],[]] [("_law_script",v)])/\∀base:HX,K.In base->base.Ns mainGlobals mg->FnOk l.prog w K mg base sW 12 fa fd ["_law_script"] (spF w K 1 (am je 100 12 "law")):=by
 have e:=hfa.symm.trans (OT X G a);cases e;have F:=ub (st:=kX 69) l' c k;exact#[Jj "law" "law" (dA (kX 69)) (cr (kX 69)) (aR (kX 69)) .none kV doc pm an cdv ct,λs v=>.of_eq rfl,λbase _ _=>Aa (df:=Au) F #[rfl,rfl,rfl,by decide +kernel,rfl,by decide +kernel,by decide +kernel] (by rfl) (by rfl) hb (xi hb D 11)]
def F7 {l:L9}{q:Hx}{loose:GD Hc}{XP:(Hc->GN GK)->HX->Prop}{YP:HL->HX->Prop}{d:DefRec}{K:M8->G4}(hn:l.most=gV 63)(hdf:d.params.defaults=[])
  (hY:∀(w:HL) (h:HX),YP w h->(K w.params).In h)
  (F:∀(w:HL) (mg:Hc->GN GK) (fa:GU) (h:HX),(K w.params).In h->h.Ns mainGlobals mg->mg d.name=gV (.ref fa)->
   ∃fd:Jz,(∀(s:GL) (u:GK),Nn s fd #[[u],[]] [("_law_script",u)])/\∀base:HX,(K w.params).In base->base.Ns mainGlobals mg->FnOk l.prog w (K w.params) mg base sW 12 fa fd ["_law_script"] (spF w (K w.params) 1 (am je 100 12 "law"))) :
  OI q loose XP YP l.row.toRowW d [] (λf vs=>Oq f vs):=
 L2.xN (n:=63) (k:=12) (x:="_law_script") (CX:=λ_=>sW) (sp:=λw=>spF w (K w.params) 1 (am je 100 12 "law")) hn #v[] hdf #[rfl,#v[],#v[]] hY F
  (λw H a ns hl hO hS=>BV (xf (defs:=je) (fuel:=100) (d:=0) #v[] EA) hO hS) λ_ _ _ _ _ z=>z
end Mi
open PySem PySem.W PyProof.Rows L2
namespace Mi
section
abbrev EL (K:G4)(p:Tw):Prop:=Kk K mainGlobals p.1=gV (gV (.ref p.2.2.2))/\K.lookup p.2.2.2=gV (kf p.2.2.2 (kX p.2.1) p.1 (Fv p.2.1) (.ref (p.2.2.2 - 1))).2/\JW K (.ref (p.2.2.2 - 1)) p.1=true/\Iz K (.ref p.2.2.2)=true
def GC {K:G4}{p:Tw}(e:Kk K mainGlobals p.1=gV (gV (.ref p.2.2.2)))(l:K.lookup p.2.2.2=gV (kf p.2.2.2 (kX p.2.1) p.1 (Fv p.2.1) (.ref (p.2.2.2 - 1))).2)(c:JW K (.ref (p.2.2.2 - 1)) p.1=true)(k:Iz K (.ref p.2.2.2)=true):EL K p:=#[e,l,c,k]
def EC (P:M8):∀p∈TL,EL (K0 P) p:=by
 unfold TL
 repeat show gc (GC (by kernel_rfl) (by kernel_rfl) (by kernel_rfl) (by kernel_rfl)) ?_
 exact gn
def ED (P:M8):∀y∈zR,Kk (K0 P) mainGlobals y=gV td:=by
 unfold zR
 repeat show gc (F:=λy=>Kk (K0 P) mainGlobals y=gV td) (by kernel_rfl) ?_
 exact gn
end
end Mi
end
end ZZ.Lean
open ZZ.Lean
theorem PySem.Challenge.cw_layworld_k31_unlaid_looked_at_holds : PySem.Challenge.rw_layworld_k31_unlaid_looked_at.Holds := by
 w_on
 show PySem.W.holds_law (HM (HM (HM (HM (HM (HM (HM (HM (HM (HM (HM (HM (HM (HM (HM (HM (HM (HM (Mi.s0) (by kernel_rfl)) (by kernel_rfl)) (by kernel_rfl)) (by kernel_rfl)) (by kernel_rfl)) (by kernel_rfl)) (by kernel_rfl)) (by kernel_rfl)) (by kernel_rfl)) (by kernel_rfl)) (by kernel_rfl)) (by kernel_rfl)) (by kernel_rfl)) (by kernel_rfl)) (by kernel_rfl)) (by kernel_rfl)) (by kernel_rfl)) (by kernel_rfl)) (λsaid=>?_)
 show PySem.W.holds_open (q:=Mi.vq) (loose:=Mi.lo) (Xt:=λs=>OX Mi.vq [] s&&OJ [] s) (XP:=PySem.W.XL Mi.vq []) (Yf:=Mi.hk.obs) (Ya:=Mi.hk.val) (YP:=Mi.hk.says) (N:=4008) Mi.hl Mi.hk.of Mi.hk.keeps (λs e=>PySem.W.xl_of s (MF.mp e).1) PH (by rfl) (by rfl) (by rfl) (λs e=>PySem.W.recFacts_of (MF.mp e).2) (by rfl) said (by decide +kernel) #[rfl,rfl,rfl,rfl,rfl,by decide +kernel] ?hw ?hc
 case hw=>w_witness2
 case hc=>
 show Mi.F7 (l:=Lu) (K:=Mi.K0) rfl rfl (λw h Yq=>PySem.W.kIn_of Yq) ?F
 case F=>
  intro w mg fa h KX G hmg;exact Mi.CA KX G hmg (Mi.EB KX G (Mi.ED w.params)) (λp hp=>let ⟨e,l,c,k⟩:=Mi.EC w.params p hp; Mi.Cz KX G (Mi.Av p hp).2.2 e l c k)
   (f:=400) (oc:=.type "function") (od:=td) (an:=td) (osl:=#[]) (kV:=.none) (doc:=.none) (pm:=(.str "law_layworld_k31_unlaid_looked_at" 434)) (cdv:=.ref 399) (ct:=.none) (by kernel_rfl) (by kernel_rfl) (by kernel_rfl) (by kernel_rfl)
