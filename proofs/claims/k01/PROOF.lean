import PyProof.Rows.All
import Wide.All
import OpenK.AllK
import Wide.FinOn
import Lean
import PyProof.EqAt
import PyProof.EqKinds
import PyProof.TupleCall
import KE.KDictList
import PyProof.SetKind
import PyProof.IsRules
import KE.KSortTup
import PyProof.ZipIter
import PyProof.Draws
import PyProof.EnumMake
import PyProof.WalksEnum
import PySem.Challenge.RW_layworld_k01_rules_let_by
noncomputable section
open Option renaming some->ba,none->gV
set_option hygiene false
local macro_rules|`(abbrev $i:declId $s:optDeclSig $v:declVal)=>`(noncomputable def $i:declId $s:optDeclSig $v:declVal)|`(def $i:declId $b* :$t $v:declVal)=>`(theorem $i:declId $b* :$t $v:declVal)|`(tactic|omega)=>`(tactic|first|lia|omega (config:={}))|`(tactic|show $e:term)=>`(tactic|refine $e:term)|`(tactic|left)=>`(tactic|dsimp only[wS,wE,wA,wV,wG,List.set])|`(tactic|nofun)=>`(tactic|refine aG λK hK=>?_)
local macro_rules|`(#v[])=>`((by decide))|`(#v[$x:term])=>`(.cons $x .nil)|`(#v[$x:term,$y:term,*])=>`(.cons $x #v[$y,*])
local macro_rules|`(#[$x:term])=>`(⟨$x⟩)|`(#[$x:term,$y:term,*])=>`(⟨$x,$y,*⟩)
local macro_rules|`(∅)=>`((by omega))
open _root_ renaming List->GK,Option->GR,Nat->GX,Int->G7,if_pos->Hk,Bool->Hr,if_neg->Hu,decide_eq_false->Hv,decide_eq_true_eq->Hw,Array->HD,of_decide_eq_true->HF,beq_self_eq_true->HI,decide_eq_true->HN,False->Iq,String->Iw,of_decide_eq_false->Iy,or_false->IY,if_false->JJ,if_true->JQ,DecidableEq->J6,beq_eq_false_iff_ne->KZ,decide_eq_false_iff_not->LF,True->MQ,bne_self_eq_false->No,not_or->ND,Unit->O8,dif_pos->Pj
open PySem renaming wpAny_bind->GL,Value->GM,Shared->GQ,wpAny_pure->GY,Addr->GZ,Str->Ha,Expr->Hi,Program->Hs,Around->Hy,World->HA,Heap->HQ,sizeLine_eq->HV,wpAny_callSpecial?_slot->HW,wpAny_newObj_type->HY,wpAny_call_entry->Io,codeAny_builtin->Ip,wpAny_holding->Ir,wpAny_truthy_bool->IC,Obj->ID,wpAny_field->IE,NameKind->IT,wpAny_mono->IV,wpAny_seqItems->IZ,wpAny_typeNameOfWhole_keyiter->Jk,DictEntry->Jm,Pos->Jt,plainId_quiet->Jz,Spec->JA,FuncData->JB,wpAny_passesOwn->JG,wpAny_typeNameOf_keyiter->JN,Stmt->JO,mem_of_lookup->JP,wpAny_setField_rec->J0,strKind->J2,Scope->J4,wpAny_pyIter_list->J5,wpAny_letGo->J8,wpAny_attempt->Km,wpAny_Call_Name_kw->Ko,codeAny_mono->Kx,SetTable->KA,wpAny_dictEntries->KC,wpAny_rule->KI,wpAny_isInstance->KN,IsPair->KP,wpAny_standAt->KR,Builtin->KS,wpAny_loadPart'->KU,wpAny_typeOf->K2,IsPart->K7,call_meets->K9,wpAny_runValue->La,wpAny_setField->Lb,wpAny_tryCatch->Lc,wpAny_of_eq->Lo,wpAny_comprehension_free->Lw,wpAny_pyHash_str->LA,noFill_tuple_add->LB,Paired->LJ,ItemsOf->LO,wpAny_execs_nil->LU,codeAny_of_tree->LY,wpAny_dictEpoch->LZ,wpAny_updateSeq->L0,wpAny_isOneOf_keyiter->Mb,GenState->Mg,Params->Mj,isSubtype_stop->Ml,wpAny_pyIter_keyiter->Mm,wpAny_newTuple->Mo,wpAny_updateSeq_pair->Mr,PassesOwn->Mz,rangeSize_one->MG,seq_tuple_add->MH,wpAny_newList->ML,IsZip->MM,wpAny_load->MT,wpAny_pyIter_tuple->M1,wpAny_pyIter_ascii->M2,Env->M7,wpAny_assign_Name->M8,Operator->Na,BindsTo->Nb,concat_meets->Nd,wpAny_sequenceKey->Nf,seqIndex_neg->Ng,list_append->Nh,wpAny_pyIter_enum->Nr,wpAny_pyHash_int->Nv,Result->Nx,wpAny_forIn_list->NC,wpAny_pyIter_zip->NH,CmpOp->NP,seqIndex_of->NQ,wpAny_mkInt->NR,Keyword->N2,wpAny_Name->N4,wpAny_bindName->N5,typeIs_int->N7,fitsIndex_both->N9,call->Ob,wpAny_fieldsOf->Of,callType_newIn->Oh,intBits_le_64->Op,evalPart_none->Os,call_list_seq->Ou,wpAny_handled->Oz,wpAny_onRaise->OB,small_one->OF,call_range_1->OJ,Sem->OP,IsRangeIter->OQ,wpAny_alloc->OX,wpAny_throw->OY,BoolOp->Pe,IsEnum->Pf,IsRange->Pk,Tok->Pq,Drawn->Pv,Model->Pw,Walks->PB
open PySem.Heap renaming get?_push_of_some->GN,get?_push_size->G4,lt_size->Hb,get?_update_other->Ig,get?_update_self->Jc,SameBut->Je,size_push->JD,get?_update_ne->Kj,ExtBut->Mk,size_update->NF
open Option renaming map_eq_some_iff->GP,map_some->HC,isSome_iff_exists->Ih,getD_none->Nz,getD_some->NI,toList->OC
open List renaming length_map->GU,getElem?_map->G1,length_append->G3,getElem?_eq_getElem->G5,size_toArray->G6,getElem?_eq_some_iff->G8,set->G9,mem_singleton->Hc,zipWith->Hd,mem_of_getElem?->He,mem_cons->Hj,mem_map->Hl,all_eq_true->Hq,mem_append_right->Hx,replicate->HB,not_mem_nil->HE,length_cons->HH,range->HJ,map_append->HK,getElem?_append_left->HL,getElem_mem->HP,all_cons->HR,mem_cons_of_mem->HS,mem_append->HU,map_cons->HX,mem_range->HZ,mem_cons_self->Ik,length_take->Im,length_range->Iu,getElem?_eq_none_iff->Iv,lookup_cons->IB,getD_eq_getElem?_getD->IG,replicate_succ->II,length_zipWith->IJ,map_congr_left->IK,take_add_one->IL,length_nil->IP,getElem?_set->IX,take_length->Jd,map_map->Jg,mem_append_left->Ji,append_assoc->Jl,nodup_append->Jn,pairwise_map->Jo,append_nil->Jq,idxOf_lt_length_of_mem->Jw,any_cons->Jx,getElem?_append_right->JC,mem_filter->JF,nodup_cons->JH,flatten_cons->JK,getElem_inj->JS,length_eq_zero_iff->JW,eq_nil_of_length_eq_zero->JX,zip_cons_cons->JY,take_of_length_le->JZ,find?_cons->J1,length_filter_le->J3,nodup_iff_pairwise_ne->J9,length_drop->Kb,pairwise_iff_getElem->Kg,exists_mem_of_ne_nil->Kh,filterMap_cons->Ki,getElem?_range->Kk,findIdx?_eq_some_iff_getElem->Kv,length_singleton->KD,getElem?_zipWith->KF,take_append_drop->KH,ext_getElem->KM,mem_flatMap->KQ,mem_iff_getElem->KT,forIn_cons->KW,mem_eraseDups->Le,filter_append->Lf,ne_nil_of_mem->Lg,getElem_idxOf->Lh,getElem_take->Lq,getElem?_take_of_lt->Ls,map_take->Ly,nodup_range->LD,map_zipWith->LG,getElem?_set_self->LK,range_succ_eq_map->LM,drop_of_length_le->LS,of_mem_zip->LV,foldl_cons->LW,find?_some->L4,range_succ->L5,length_zip->L6,length_replicate->L7,getElem?_eq_none->Mf,getElem?_set_ne->Mh,forIn_nil->Mp,nodup_nil->Mq,mem_of_mem_take->Ms,dropLast_concat->Mu,getLastD_concat->Mv,eraseDups_cons->ME,length_pos_iff->MF,mem_filterMap->MU,length_zipIdx->M3,take_sublist->Nc,all_map->Nk,zip_nil_left->Nl,ext_getElem?->Nq,any_toArray->NE,getElem_map->NG,isEmpty_iff->NJ,cons_ne_nil->NL,cons_append->NM,perm_middle->NN,zipWith_map->NO,nil_append->NV,foldr_cons->NX,drop_left'->N1,foldl->N8,Nodup->Oi,drop_zero->Oj,length->OR,zip->OZ,map->PD
open Bool renaming and_eq_true->GV,false_ne_true->Hh,false_eq_true->Ix,or_eq_true->Jr,false_or->Lu,true_and->Lx,and_eq_false_iff->L8,and_eq_true_iff->Mw,and_true->MJ,not_true->MK,not_eq_true'->Nt,or_false->Ot
open PySem.W renaming Frag->G0,look_both->HG,keepIn->Iz,fnOf->Jf,nsIn->Jh,kia_one->JI,codeIn->JT,kas_sort->JV,methodObj->Lm,cellsFrom_some->LL,OpenLaw->LX,kat_nil->L3,KdlSrc->Mn,mg_of->MN,WalkO->Ov,Looks->OA,recOk->OE,xlAt->OO
open Nat renaming le_refl->G2,ne_of_lt->Hn,lt_of_lt_of_le->Ht,le_trans->Hz,lt_irrefl->IA,ne_of_gt->IH,zero_le->Jj,le_succ->Jy,lt_succ_self->Kc,le_add_right->Kd,le_of_lt->Kw,le_of_ble_eq_true->KG,succ_le_succ->KL,lt_succ_of_lt->Lp,mul_le_mul_right->Mt,lt_or_gt_of_ne->M0,min_eq_right->NK,min_eq_left->NZ,not_lt->Og,add_assoc->Ox,succ_mul->OL,min_self->OM,sub_zero->ON,ble->PL
open Int renaming toNat_natCast->Hf,natCast_nonneg->Ho,emod_lt_of_pos->IR,emod_nonneg->Js,zero_add->LR,toNat_of_nonneg->MC,ediv_nonneg->NY
open Array renaming length_toList->Hg,getElem?_toList->Il,getElem?_eq_some_iff->Ja,getElem?_eq_getElem->Kf,perm_iff_toList_perm->Ld,getElem?_eq_none->LN,getD->LP,append_assoc->MR,forIn_toList->MY,toList->OI
open Option.some renaming injEq->Hm,inj->Ij
open PySem.Value renaming ref->HM,none->Ic,bool->Jp,type->JL,str->Kr,int->Lz
open PySem.Around renaming under_plainId->Ii
open PySem.Obj renaming mapSeq->IF,data_mapFields->Kq,isFreed_of_fields->Mc,cls_mapFields->Nm,mapFields->Oy
open PySem.Builtin.Tuple renaming tupleExact->IM,tupleItemsOf->J7,tupleHashOf->Li,tupleCompareSizes->Nu,tupleIsExact->Oc
open PySem.Builtin.SmallTypes renaming ownedTupleIsFree->IN,ownedTupleHandOut->Ju,nextOf->Ll
open ForInStep renaming yield->IQ
open PySem.Builtin.Range renaming rangeSize->IS,small->K1
open PyProof.Rows renaming callWith_type1->IU,slot_tuple_getitem->Jb,subscriptTail_builtinR->Kz,assignInOrder_cons->K6,AllBare->Ln,listUpdate_at->Lv,SortKind->LC,get?_update_seq->L1,entry_tuple_getitem->MB,lt_int->MD,args_tuple_getitem->MV,IsTup->M6,assignInOrder_nil->M9,listItems_at->Nn,callWith_builtin1->Ny,seqEpoch_at->NS,IntsAre->N3,slicePart_none->N6,tupleItemsOf_->Oq,StrsAre->Pi,Call_->Px
open PySem.Str renaming ofString->IW,length->Pa,join->PC
open PySem.Builtin.List renaming listExtendWith->Jv,listTooLong->JM,listFitsIndex->Oa
open PySem.Builtin.Slice renaming slicePlaces->JE,sliceAdjust->Ke,sliceApplied->K8,slicePartIndex->NT,sliceFields->Ol
open PySem.Heap.SameBut renaming update->JR,refl->Nj
open PySem.SetTable renaming grown->JU,fits_plain_off->OG,orStandIn->Pd,relaid->Ps,laid->PF
open PySem.F renaming args_tuple_add_2->Kl,entry_tuple_add->Kt,plainAttrs_list->Ku,slot_tuple_add->Ky,slot_dict_get->L9
open PySem.NameKind renaming free->Kn,cell->PJ
open PySem.Builtin.Str renaming occurrences->Ks,tooLong->Om,glued->Pl
open PySem.SeqAt renaming EqAt->KJ,notIn_listAt->MW,in_tupleAt->NA,in_listAt->NU
open True renaming intro->KO
open PySem.Builtin.Dict_items renaming ownsTuple->KY
open PySem.Builtin.Builtins renaming bindParams->K4
open PySem.Calls renaming Name_function_global->K5,call_function_entry->Lk,Constant_str->MS
open Classical renaming byContradiction->Lj,propDecidable->OH
open PySem.Paired renaming length->Lr
open PySem.Challenge renaming pw_layworld_k01_rules_let_by->LH,rw_layworld_k01_rules_let_by->LI
open PySem.Env renaming kindOf->LQ
open PySem.Builtin.Dict renaming showsAll->Ma,dictSlotNone->On,pendingCount->Oo
open Sum renaming inl->Mx,inr->My
open PySem.Expr renaming Name->MA
open PySem.SeqAt.EqAt renaming int_str->MO,str_int->MP,none_bool->OS,bool_none->OT,bool_bool->OU,none_int->O0,none_str->O1,bool_int->O2,bool_str->O3,int_none->O4,int_bool->O5,str_none->O6,str_bool->O7,int_int->Pb,str_str->Pc,same->Pr
open PySem.Code renaming quiet_builtin->MX
open PUnit renaming unit->MZ
open PySem.ScopeKind renaming function->M4
open PySem.AutoListH renaming list___mul___list_int_3->M5
open PySem.AutoSeq1 renaming list_extend_list_list_0->Ni,sub_tuple_tuple->Ow
open Function renaming comp_def->Np
open PyProof.Rows.IsTup renaming new->Nw
open PySem.IsL renaming update->NB
open PySem.Builtin.Frozenset renaming updateFrom->NW,newClass->Od
open PySem.Walks renaming list->Oe
open Prod.mk renaming injEq->OD
open PySem.MeetsSeq renaming list_pop_at->OV
open PySem.Txt renaming join->OW,mul->PK
open PySem.Heap.IsSliceOf renaming new->O9
open List.Nodup renaming sublist->Pg
open List.Pairwise renaming nil->Ph
open PySem.Flow renaming next->Pn
open PySem.W.Looks renaming ld->Po
open PySem.W.XL renaming keeps->Pp
open PySem.PassesOwn renaming never->Pu
open Prod renaming ext->Py
open Or renaming inr->Pz
open List.Perm renaming map->PH
open Nat.succ renaming inj->PM
set_option genSizeOf false
namespace ZZ.Lean
noncomputable section
set_option Elab.async false
set_option linter.all false
set_option maxRecDepth 100000
namespace L2
open PySem PySem.Spec PyProof.Rows
noncomputable abbrev kM:=Sum G7 Ha
abbrev zJ:kM->GM->Hr
 | .inl k,v=>Value.isInt k v
 | .inr x,v=>Value.isStrOf x v
abbrev ET (w:HA):kM->G7
 | .inl k=>hashInt k
 | .inr x=>hashStr w x
def aZ:∀ {k:kM} {v:GM},zJ k v=true->(∃i t,k=Mx i/\v=Lz i t)\/(∃x t,k=My x/\v=Kr x t)
 | .inl i,v,h=>by
  obtain⟨t,e⟩:=Value.isInt_shape (k:=i) (v:=v) h;exact .inl #[i,t,rfl,e]
 | .inr x,v,h=>by
  obtain⟨t,e⟩:=Value.isStrOf_shape (x:=x) (v:=v) h;exact .inr #[x,t,rfl,e]
def Ao (a b:G7):decide ((Mx a:kM)=Mx b)=(a==b):=by
 by_cases e:a=b
 ·subst e; simp
 ·have h:¬ (Mx a:kM)=Mx b:=λq=>e (Sum.inl.inj q)
  rw[Hv h];exact(KZ.mpr e).symm
def Ap (a b:Ha):decide ((My a:kM)=My b)=decide (a=b):=by
 by_cases e:a=b
 ·subst e; simp
 ·have h:¬ (My a:kM)=My b:=λq=>e (Sum.inr.inj q)
  rw[Hv h,Hv e]
def Aq (a:G7)(b:Ha):decide ((Mx a:kM)=My b)=false:=Hv (λq=>nomatch q)
def Ar (a:Ha)(b:G7):decide ((My a:kM)=Mx b)=false:=Hv (λq=>nomatch q)
abbrev kN (prog:Hs)(w:HA):PySem.KeyKind prog w kM where
 is:=zJ
 hash:=ET w
 inj:=λv a b ha hb=>by
  rcases aZ ha with⟨i,t,rfl,rfl⟩|⟨x,t,rfl,rfl⟩
  ·rcases aZ hb with⟨j,u,rfl,e⟩|⟨y,u,rfl,e⟩
   ·injection e with e1 _; rw[e1]
   ·exact nomatch e
  ·rcases aZ hb with⟨j,u,rfl,e⟩|⟨y,u,rfl,e⟩
   ·exact nomatch e
   ·injection e with e1 _; rw[e1]
 byValue:=λk v h=>by
  rcases aZ h with⟨i,t,rfl,rfl⟩|⟨x,t,rfl,rfl⟩ <;> rfl
 pyHash:=λhv h=>by
  rcases aZ hv with⟨i,t,rfl,rfl⟩|⟨x,t,rfl,rfl⟩
  ·exact Nv h
  ·exact LA h
 eqBool:=λhu hv h=>by
  rcases aZ hu with⟨i,t,rfl,rfl⟩|⟨x,t,rfl,rfl⟩
  ·rcases aZ hv with⟨j,u,rfl,rfl⟩|⟨y,u,rfl,rfl⟩
   ·rw[Ao]at h; exact wpAny_eqBool_int h
   ·rw[Aq]at h; exact MO i t y u _ _ _ _ h
  ·rcases aZ hv with⟨j,u,rfl,rfl⟩|⟨y,u,rfl,rfl⟩
   ·rw[Ar]at h; exact MP x t j u _ _ _ _ h
   ·rw[Ap]at h; exact wpAny_eqBool_str h
 «strs»:=λk x t v h=>by
  rcases aZ h with⟨i,u,rfl,e⟩|⟨y,u,rfl,e⟩
  ·exact nomatch e
  ·injection e with e1 _
   subst e1;cases v <;> rfl
inductive V where
 | non|bl (b:Hr)|int (i:G7)|str (x:Ha)|byt (b:HD UInt8)|flt (b:UInt64)|ref (a:GZ)|ty (n:Iw)
 deriving J6
abbrev RelV:V->GM->Prop
 | .non,u=>u=Ic
 | .bl b,u=>u=Jp b
 | .int i,u=>∃t,u=Lz i t
 | .str x,u=>∃t,u=Kr x t
 | .byt b,u=>∃t,u=Value.bytes b t
 | .flt b,u=>∃t,u=Value.float b t
 | .ref a,u=>u=HM a
 | .ty n,u=>u=JL n
noncomputable abbrev Vals:GK V->GK GM->Prop:=LJ RelV
def Vals.length {xs:GK V}{us:GK GM}(r:Vals xs us):xs.length=us.length:=Lr r
def Vals.get:∀ {xs:GK V} {us:GK GM} {i:GX} {x:V},Vals xs us->xs[i]?=ba x->∃u,us[i]?=ba u/\RelV x u
 | _,_,_,_,.nil,e=>by simp at e
 | _,_,0,_,.cons r _,e=>by simp at e; subst e; exact#[_,rfl,r]
 | _,_,i+1,x,.cons _ t,e=>by
  obtain⟨u,h1,h2⟩:=Vals.get (i:=i) (x:=x) t (by simpa using e)
  exact#[u,by simpa using h1,h2]
def Vals.set {x:V}{u:GM}(r:RelV x u):∀ {xs:GK V} {us:GK GM} (i:GX),Vals xs us->Vals (xs.set i x) (us.set i u)
 | _,_,_,.nil=>.nil
 | _,_,0,.cons _ t=>.cons r t
 | _,_,i+1,.cons q t=>.cons q (Vals.set r i t)
def Vals.append:∀ {xs ys:GK V} {us ws:GK GM},Vals xs us->Vals ys ws->Vals (xs++ys) (us++ws)
 | _,_,_,_,.nil,s=>s
 | _,_,_,_,.cons r t,s=>.cons r (Vals.append t s)
def Vals.take:∀ {xs:GK V} {us:GK GM} (n:GX),Vals xs us->Vals (xs.take n) (us.take n)
 | _,_,0,_=>.nil
 | _,_,_+1,.nil=>.nil
 | _,_,n+1,.cons r t=>.cons r (Vals.take n t)
def Vals.drop:∀ {xs:GK V} {us:GK GM} (n:GX),Vals xs us->Vals (xs.drop n) (us.drop n)
 | _,_,0,r=>r
 | _,_,_+1,.nil=>.nil
 | _,_,n+1,.cons _ t=>Vals.drop n t
abbrev CK:GR V->GR GM->Prop
 | some v,ba u=>RelV v u
 | none,gV=>MQ
 | _,_=>Iq
abbrev KV {κ:Type}:GK (κ×V)->GK (κ×GM)->Prop:=LJ λ(p:κ×V) (q:κ×GM)=>p.1=q.1/\RelV p.2 q.2
abbrev kV:kM->V
 | .inl i=>.int i
 | .inr x=>.str x
inductive HO where
 | lst (xs:GK V)
 | tup (xs:GK V)
 | dK (U:GK (kM×V))|dT (U:GK (GK kM×V))
 | set (S:G7->Hr) (n:GX)
 | ins (C dx:GZ) (fs:GK (Ha×V))
 | own (x:GZ)
 | xd (fs:GK (Ha×V))
 | met (f x:GZ)
 | rng (lo hi:G7)
 | frz (o:ID) (u:HO)
 | tbl (ps:HD GM)
 | ext (φ:HQ->Prop)
noncomputable abbrev Hp:=GZ->GR HO
abbrev be (H:Hp)(a:GZ)(o:HO):Hp:=λb=>if b=a then ba o else H b
def aI {H:Hp}{a:GZ}{o:HO}:be H a o a=ba o:=by unfold be; rw[Hk rfl]
def az {H:Hp}{a b:GZ}{o:HO}(h:b≠a):be H a o b=H b:=by unfold be; rw[Hu h]
def c9 {H:Hp}{a b:GZ}{o:HO}(h:H a=ba o)(h':H b=gV):a≠b:=by
 intro e; subst e; rw[h]at h'; cases h'
section
variable (P:Hs) (w:HA)
abbrev ObjOk (H:Hp)(h:HQ)(a:GZ):HO->Prop
 | .lst xs=>xs.length<=sizeLine/\∃(its:GK GM) (n:GX),Vals xs its/\h.get? a=ba { cls:=.type "list",data:=.seq its.toArray n }
 | .tup xs=>xs.length<=sizeLine/\∃its:GK GM,Vals xs its/\M6 h a its.toArray
 | .dK U=>U.length<=sizeLine/\(a==sysModules)=false/\∃vs,KV U vs/\h.DictOf (kN P w) a vs
 | .dT U=>U.length<=sizeLine/\(a==sysModules)=false/\∃xs:GK (GK kM×GZ×GM),
   LJ (λ(p:GK kM×V) (q:GK kM×GZ×GM)=>p.1=q.1/\H q.2.1=ba (.tup (p.1.map kV))/\RelV p.2 q.2.2) U xs/\
   ∃o es ep,h.get? a=ba o/\o.ExactDict/\o.data=.dict es ep/\es.toList=xs.map (entryOfKey (tupleKind (kN P w)))/\(xs.map (·.1)).Nodup
 | .set S n=>h.SetOf (intKind P w) a S n
 | .ins C dx fs=>H dx=ba (.own a)/\fs.length<=1000/\dx≠a/\h.get? a=ba (PySem.W.instObj C dx)/\
   ∃mA,h.Ns1 dx mA/\(∀f,CK (fs.lookup f) (mA f))/\PySem.Within mA (fs.map (·.1))
 | .own _=>∃o,h.get? a=ba o
 | .xd fs=>∃mA,h.Ns1 a mA/\∀f,CK (fs.lookup f) (mA f)
 | .rng lo hi=>∃t u v,h.get? a=ba { cls:=.type "range",data:=.fields [.int lo t,.int hi u,.int 1 v].toArray }
 | .frz o u=>h.get? a=ba o/\ObjOk H h a u
 | .tbl ps=>h.get? a=ba { cls:=.none,data:=.fields ps }
 | .met f x=>h.get? a=ba (Lm (.ref f) (.ref x))
 | .ext φ=>φ h/\(∃o,h.get? a=ba o)/\∀h1 h2:HQ,φ h1->(∀o,h1.get? a=ba o->h2.get? a=ba o)->φ h2
abbrev HOk (H:Hp)(h:HQ):Prop:=∀a o,H a=ba o->ObjOk P w H h a o
end
section
variable{P:Hs}{w:HA}{H H':Hp}{h h':HQ}{a:GZ}{o:HO}
def ObjOk.lt (x:ObjOk P w H h a o):a < h.objs.size:=by
 cases o with
 | lst xs=>obtain⟨_,_,_,_,e⟩:=x; exact Hb e
 | tup xs=>obtain⟨_,_,_,p⟩:=x; exact p.lt
 | dK U=>obtain⟨_,_,_,_,o,_,_,e,_⟩:=x; exact Hb e
 | dT U=>obtain⟨_,_,_,_,o,_,_,e,_⟩:=x; exact Hb e
 | set S n=>obtain⟨o,_,_,_,e,_⟩:=x; exact Hb e
 | ins C dx fs=>obtain⟨_,_,_,e,_⟩:=x; exact Hb e
 | own y=>obtain⟨_,e⟩:=x; exact Hb e
 | xd fs=>obtain⟨_,⟨_,_,_,e,_⟩,_⟩:=x; exact Hb e
 | rng lo hi=>obtain⟨_,_,_,e⟩:=x; exact Hb e
 | frz ob u=>obtain⟨e,_⟩:=x; exact Hb e
 | tbl ps=>exact Hb (show h.get? a=ba _ from x)
 | met f y=>exact Hb (show h.get? a=ba _ from x)
 | ext φ=>obtain⟨_,⟨_,e⟩,_⟩:=x; exact Hb e
def Paired.mapP {α β:Type}{F G:α->β->Prop}:∀ {l₁:GK α} {l₂:GK β},LJ F l₁ l₂->(∀a b,F a b->G a b)->LJ G l₁ l₂
 | _,_,.nil,_=>.nil
 | _,_,.cons r t,f=>.cons (f _ _ r) (Paired.mapP t f)
def ObjOk.stay (x:ObjOk P w H h a o)(k:∀b u,(b=a\/H b=ba (.own a))->h.get? b=ba u->h'.get? b=ba u)
  (ho:∀b,H b=ba (.own a)->H' b=ba (.own a)) (ht:∀b xs,H b=ba (.tup xs)->H' b=ba (.tup xs)):ObjOk P w H' h' a o:=by
 induction o with
 | lst xs=>obtain⟨z,its,n,r,e⟩:=x; exact#[z,its,n,r,k _ _ (.inl rfl) e]
 | tup xs=>obtain⟨z,its,r,ob,e,c⟩:=x; exact#[z,its,r,ob,k _ _ (.inl rfl) e,c]
 | dK U=>obtain⟨z,y,vs,r,ob,es,ep,e,c⟩:=x; exact#[z,y,vs,r,ob,es,ep,k _ _ (.inl rfl) e,c]
 | dT U=>
  obtain⟨z,y,xs,r,ob,es,ep,e,c⟩:=x;exact#[z,y,xs,Paired.mapP r λp q z=>#[z.1,ht _ _ z.2.1,z.2.2],ob,es,ep,k _ _ (.inl rfl) e,c]
 | set S n=>obtain⟨ob,es,ep,t,e,c⟩:=x; exact#[ob,es,ep,t,k _ _ (.inl rfl) e,c]
 | ins C dx fs=>
  obtain⟨d,z,ne,e,mA,⟨od,es,ep,e2,c⟩,r⟩:=x;exact#[ho _ d,z,ne,k _ _ (.inl rfl) e,mA,#[od,es,ep,k _ _ (.inr d) e2,c],r]
 | own y=>obtain⟨ob,e⟩:=x; exact#[ob,k _ _ (.inl rfl) e]
 | xd fs=>obtain⟨mA,⟨od,es,ep,e,c⟩,r⟩:=x; exact#[mA,#[od,es,ep,k _ _ (.inl rfl) e,c],r]
 | rng lo hi=>obtain⟨t,u,v,e⟩:=x; exact#[t,u,v,k _ _ (.inl rfl) e]
 | frz ob u ih=>obtain⟨e,q⟩:=x; exact#[k _ _ (.inl rfl) e,ih q]
 | tbl ps=>
  have e:h.get? a=ba { cls:=.none,data:=.fields ps }:=x;change h'.get? a=ba { cls:=.none,data:=.fields ps };exact k a _ (.inl rfl) e
 | met f y=>
  have e:h.get? a=ba (Lm (.ref f) (.ref y)):=x;change h'.get? a=ba (Lm (.ref f) (.ref y));exact k a _ (.inl rfl) e
 | ext φ=>obtain⟨p,⟨o,e⟩,st⟩:=x; exact#[st _ _ p λo q=>k _ _ (.inl rfl) q,#[o,k _ _ (.inl rfl) e],st]
def HOk.lt (x:HOk P w H h)(e:H a=ba o):a < h.objs.size:=(x a o e).lt
def HOk.fresh (x:HOk P w H h)(e:h.objs.size<=a):H a=gV:=by
 cases q:H a with
 | none=>rfl
 | some u=>exact absurd (Ht (x.lt q) e) (IA _)
def HOk.kept (x:HOk P w H h)(k:∀b u,h.get? b=ba u->h'.get? b=ba u):HOk P w H h':=λa o e=>
 (x a o e).stay (λb u _ q=>k b u q) (λ_ q=>q) λ_ _ q=>q
def HOk.laid (x:HOk P w H h)(k:∀b u,h.get? b=ba u->h'.get? b=ba u)(hp:h.objs.size<=a)(new:ObjOk P w (be H a o) h' a o):HOk P w (be H a o) h':=λb u e=>by
 have hn:=x.fresh hp
 by_cases hb:b=a
 ·subst hb; rw[aI]at e; cases e; exact new
 ·rw[az hb]at e;exact(x b u e).stay (λc v _ q=>k c v q) (λc q=>by rw[az (c9 q hn)]; exact q) λc xs q=>by rw[az (c9 q hn)]; exact q
end
abbrev Rd (H:Hp)(a:GZ)(u:HO):Prop:=H a=ba u\/∃o,H a=ba (.frz o u)
def Rd.ok {P:Hs}{w:HA}{H:Hp}{h:HQ}{a:GZ}{u:HO}(r:Rd H a u)(x:HOk P w H h):ObjOk P w H h a u:=by
 rcases r with r|⟨o,r⟩
 ·exact x a u r
 ·obtain⟨_,q⟩:=x a _ r;exact q
abbrev CL:GR HO->Prop
 | some (.lst _)=>MQ
 | some (.dK _)=>MQ
 | some (.dT _)=>MQ
 | some (.set _ _)=>MQ
 | some (.ins _ _ _)=>MQ
 | some (.ext _)=>MQ
 | _=>Iq
section
variable{P:Hs}{w:HA}{H:Hp}{h h':HQ}{x e:GZ}{o':HO}
def HOk.write (ok:HOk P w H h)(mu:CL (H x))(he:e=x\/H e=ba (.own x))(k:∀b u,b≠e->h.get? b=ba u->h'.get? b=ba u)(heo:∃u,h'.get? e=ba u)
  (new:ObjOk P w (be H x o') h' x o'):HOk P w (be H x o') h':=λb u q=>by
 have nown:∀c y,H c=ba (.own y)->c≠x:=λc y r z=>by subst z; rw[r]at mu; exact mu
 have ntup:∀c xs,H c=ba (.tup xs)->c≠x:=λc xs r z=>by subst z; rw[r]at mu; exact mu
 by_cases hb:b=x
 ·subst hb; rw[aI]at q; cases q; exact new
 ·rw[az hb]at q
  by_cases hbe:b=e
  ·have q':H b=ba (.own x):=by
    rcases he with z|z
    ·exact absurd (hbe.trans z) hb
    ·rw[hbe]; exact z
   rw[q]at q'; cases q'
   obtain⟨v,hv⟩:=heo;exact#[v,by rw[hbe]; exact hv]
  ·show(ok b u q).stay (λc v hc r=>k c v ?_ r) (λc r=>by rw[az (nown c b r)]; exact r) λc xs r=>by rw[az (ntup c xs r)]; exact r
   rcases hc with rfl|hc
   ·exact hbe
   ·rintro rfl;rcases he with z|z
    ·exact nown c b hc z
    ·rw[hc]at z; cases z; exact hb rfl
end
structure Un (fs ex:GK GZ)(H H':Hp)(h h':HQ):Prop where
 keep:∀b o,h.get? b=ba o->H b=gV->b∉fs->b∉ex->h'.get? b=ba o
 slot:∀b o,h.get? b=ba o->H b=gV->b∈fs->b∉ex->∃sl,h'.get? b=ba { o with slots:=sl }
 free:∀b o,h.get? b=ba o->H b=gV->b∉ex->H' b=gV
 there:∀b o,h.get? b=ba o->b∉ex->∃o',h'.get? b=ba o'
 tups:∀b xs,H b=ba (.tup xs)->H' b=ba (.tup xs)
 frzs:∀b o u,H b=ba (.frz o u)->H' b=ba (.frz o u)
 tbls:∀b ps,H b=ba (.tbl ps)->∃more,H' b=ba (.tbl (ps++more))
section
variable{fs fs' ex ex':GK GZ}{H H1 H2:Hp}{h h1 h2 h':HQ}{a x e:GZ}{o:HO}
def Un.any (u:Un fs ex H H1 h h1){b:GZ}{ob:ID}(q:h.get? b=ba ob)(n:H b=gV)(hx:b∉ex):∃sl,h1.get? b=ba { ob with slots:=sl }:=by
 by_cases hb:b∈fs
 ·exact u.slot b ob q n hb hx
 ·exact#[ob.slots,u.keep b ob q n hb hx]
def Un.trans (a:Un fs ex H H1 h h1)(b:Un fs ex H1 H2 h1 h2):Un fs ex H H2 h h2 where
 keep:=λc ob q n hc hx=>b.keep c ob (a.keep c ob q n hc hx) (a.free c ob q n hx) hc hx
 slot:=λc ob q n hc hx=>by
  obtain⟨sl,e1⟩:=a.slot c ob q n hc hx;obtain⟨sl',e2⟩:=b.slot c _ e1 (a.free c ob q n hx) hc hx;exact#[sl',e2]
 free:=λc ob q n hx=>by
  obtain⟨o',e1⟩:=a.there c ob q hx;exact b.free c o' e1 (a.free c ob q n hx) hx
 there:=λc ob q hx=>by
  obtain⟨o',e1⟩:=a.there c ob q hx;exact b.there c o' e1 hx
 tups:=λc xs q=>b.tups c xs (a.tups c xs q)
 frzs:=λc ob xs q=>b.frzs c ob xs (a.frzs c ob xs q)
 tbls:=λc ps q=>by
  obtain⟨m1,e1⟩:=a.tbls c ps q;obtain⟨m2,e2⟩:=b.tbls c _ e1;exact#[m1++m2,by rw[e2,MR]]
def Un.kept (k:∀b u,h.get? b=ba u->h'.get? b=ba u):Un fs ex H H h h':=
 #[λb ob q _ _ _=>k b ob q,λb ob q _ _ _=>#[ob.slots,k b ob q],λ_ _ _ n _=>n,λb ob q _=>#[ob,k b ob q],λ_ _ q=>q,λ_ _ _ q=>q,λ_ ps q=>#[#[],by rw[q]; simp]]
def Un.refl:Un fs ex H H h h:=Un.kept λ_ _ q=>q
def Un.laid (k:∀b u,h.get? b=ba u->h'.get? b=ba u)(hp:h.objs.size<=a)(hn:H a=gV):Un fs ex H (be H a o) h h' where
 keep:=λb u q _ _ _=>k b u q
 slot:=λb u q _ _ _=>#[u.slots,k b u q]
 free:=λb u q n _=>by rw[az (Hn (Ht (Hb q) hp))]; exact n
 there:=λb u q _=>#[u,k b u q]
 tups:=λb xs q=>by rw[az (c9 q hn)]; exact q
 frzs:=λb u xs q=>by rw[az (c9 q hn)]; exact q
 tbls:=λb ps q=>#[#[],by rw[az (c9 q hn),q]; simp]
def Un.write (mu:CL (H x))(he:e=x\/H e=ba (.own x))(k:∀b u,b≠e->h.get? b=ba u->h'.get? b=ba u)(heo:∃u,h'.get? e=ba u):Un fs ex H (be H x o) h h':=by
 have hx:∀b,H b=gV->b≠x:=λb n z=>by subst z; rw[n]at mu; exact mu
 have hb:∀b,H b=gV->b≠e:=λb n z=>by
  subst z;rcases he with r|r
  ·exact hx b n r
  ·rw[n]at r; cases r
 have hm:∀b u,H b=ba u->¬ CL (ba u)->b≠x:=λb u q nm z=>by subst z; rw[q]at mu; exact nm mu
 show#[λb u q n _ _=>k b u (hb b n) q,λb u q n _ _=>#[u.slots,k b u (hb b n) q],λb u q n _=>by rw[az (hx b n)]; exact n,λb u q _=>?_,
  λb xs q=>by rw[az (hm b _ q λz=>z)]; exact q,λb u xs q=>by rw[az (hm b _ q λz=>z)]; exact q,λb ps q=>#[#[],by rw[az (hm b _ q λz=>z),q]; simp]]
 by_cases hbe:b=e
 ·subst hbe; exact heo
 ·exact#[u,k b u hbe q]
end
abbrev EH (h:HQ)(H:Hp):GK GZ:=(HJ h.objs.size).filter λa=>(H a).isSome
abbrev kO (h:HQ)(H:Hp):HQ:=PySem.W.hideAll h (EH h H)
def rg (h:HQ)(H:Hp):(kO h H).objs.size=h.objs.size:=PySem.W.hideAll_size _ _
def sM {h:HQ}{H:Hp}{b:GZ}{o:ID}(e:h.get? b=ba o)(n:H b=gV):(kO h H).get? b=ba o:=
 PySem.W.hideAll_get _ e λhm=>by
  have q:(H b).isSome=true:=(JF.mp hm).2;rw[n]at q; simp at q
def w8 {h:HQ}{H:Hp}{b:GZ}{o:ID}(e:(kO h H).get? b=ba o):h.get? b=ba o/\H b=gV:=by
 have e':h.get? b=ba o:=PySem.W.of_hideAll (EH h H) e;show#[e',?_];cases q:H b with
 | none=>rfl
 | some x=>
  have hm:b∈EH h H:=JF.mpr #[HZ.mpr (Hb e'),by simp[q]]
  have z:(kO h H).get? b=gV:=PySem.W.hideAll_none (EH h H) hm;rw[z]at e; cases e
abbrev w9 (g h:HQ)(L:GZ):GK (GZ×ID):=(HJ h.objs.size).filterMap λa=>if a=L\/(g.get? a).isSome=true then gV else(h.get? a).map λo=>(a,o)
abbrev bB (g h:HQ)(L d:GZ):GK (GZ×ID):=(w9 g h L).filter λp=>decide (p.1≠d)
structure Mod (K:G0)(mg:Ha->GR GM)(base:HQ):Prop where
 kin:K.In base
 glob:base.Ns mainGlobals mg
 blt:∃mb,base.Ns builtinsNs mb/\∀x:Ha,x≠"__name__"->mb x=bootBuiltins x
 nolimit:base.NoLimit
structure Cx where
 prog:Hs
 w:HA
 K:G0
 mg:Ha->GR GM
 base:HQ
 A:Hy
 N:GK Ha
 s₀:GQ
 H₀:Hp
 env:M7
 outer:GK M7
 stack:GK M7
 ex:GK GZ
 fn:Ha->Hr
 calm:Hr
 pn:GK (GZ×ID)
 xe:GM->GQ->Prop
abbrev oG (l:GK M7):GK GZ:=l.filterMap (·.frame)
noncomputable abbrev Cx.fs (X:Cx):GK GZ:=oG X.outer
abbrev EI (sc:J4)(x:Ha):Prop:=sc.names.lookup x=ba .local\/sc.names.lookup x=ba .cell\/sc.names.lookup x=ba .free
abbrev xf (sc:J4)(x:Ha):Prop:=sc.names.lookup x=ba .local\/sc.names.lookup x=ba .cell
abbrev Look (env:M7)(h:HQ)(m:Ha->GR GM)(x:Ha)(u:GM):Prop:=
 (env.kindOf x=ba .local/\m x=ba u)\/((env.kindOf x=ba .cell\/env.kindOf x=ba .free)/\∃c,env.cells.lookup x=ba c/\h.IsCell c (ba u))
structure Cx.Ok (X:Cx):Prop where
 mod:Mod X.K X.mg X.base
 kind:X.env.scope.kind=.function
 glob:X.env.globals=mainGlobals
 blt:X.env.builtins=builtinsNs
 above:X.s₀.heap.objs.size<=X.env.locals
 inj:∀x y c,X.env.cells.lookup x=ba c->X.env.cells.lookup y=ba c->x=y
 has:∀x,(X.env.kindOf x=ba .cell\/X.env.kindOf x=ba .free)->∃c,X.env.cells.lookup x=ba c
 cab:∀x c,X.fn x=true->X.env.cells.lookup x=ba c->X.s₀.heap.objs.size<=c
 hd:X.calm=true->X.A.handled=gV
 frames:X.A.frames=ba X.stack
 stk:X.stack=X.outer\/(X.stack=X.env::X.outer/\X.env.frame=ba X.env.locals)
 exf:∀b∈X.ex,b≠X.env.locals/\∀x c,X.env.cells.lookup x=ba c->c≠b
 bs:∀b o,X.base.get? b=ba o->X.s₀.heap.get? b=ba o/\X.H₀ b=gV
 bsz:X.base.objs.size<=X.s₀.heap.objs.size
 noex:∀b o,X.base.get? b=ba o->b∉X.ex
 exfs:∀b∈X.ex,b∉X.fs
 funs:X.s₀.heap.FunFrames X.base X.outer
 frf:∀b∈X.fs,X.H₀ b=gV
structure Inv (X:Cx)(J:GK (GZ×ID))(Y:GK (GR V))(H:Hp)(s:GQ):Prop where
 ok:X.Ok
 os:s.os=X.s₀.os
 bare:Ln s.gens
 base:Un X.fs X.ex X.H₀ H X.s₀.heap s.heap
 loc:∃m,s.heap.Ns X.env.locals m/\∀(i:GX) (x:Ha) (v:V),X.N[i]?=ba x->Y[i]?=ba (ba v)->EI X.env.scope x->∃u,RelV v u/\Look X.env s.heap m x u
 cell:∀x c,X.env.cells.lookup x=ba c->∃v,s.heap.IsCell c v
 free:H X.env.locals=gV
 freeC:∀x c,X.env.cells.lookup x=ba c->H c=gV
 pin:∀p∈X.pn++J,s.heap.get? p.1=ba p.2/\H p.1=gV/\p.1≠X.env.locals/\p.1∉X.fs/\∀v,p.2.data≠.cell v
 hok:HOk X.prog X.w H s.heap
 len:Y.length=X.N.length
section
variable{X:Cx}{J:GK (GZ×ID)}{Y:GK (GR V)}{H H':Hp}{s:GQ}{h':HQ}
def Cx.Ok.nofr (ok:X.Ok){b:GZ}{o:ID}(e:X.base.get? b=ba o):b∉X.fs:=λhb=>by
 have:=(ok.funs.mem hb).1;rw[e]at this; cases this
def Inv.bs (I:Inv X J Y H s):∀b o,X.base.get? b=ba o->s.heap.get? b=ba o/\H b=gV:=λb o e=>
 #[I.base.keep b o (I.ok.bs b o e).1 (I.ok.bs b o e).2 (I.ok.nofr e) (I.ok.noex b o e),I.base.free b o (I.ok.bs b o e).1 (I.ok.bs b o e).2 (I.ok.noex b o e)]
def Inv.bk (I:Inv X J Y H s):∀b o,X.base.get? b=ba o->s.heap.get? b=ba o:=λb o e=>(I.bs b o e).1
def Inv.mod (I:Inv X J Y H s):Mod X.K X.mg X.base:=I.ok.mod
def Inv.kIn (I:Inv X J Y H s):X.K.In s.heap:=I.ok.mod.kin.keeps I.bk
def Inv.lt (I:Inv X J Y H s):X.env.locals < s.heap.objs.size:=let ⟨_,hn,_⟩:=I.loc; hn.lt
def Inv.sz (I:Inv X J Y H s):X.s₀.heap.objs.size<=s.heap.objs.size:=Hz I.ok.above (Kw I.lt)
def Inv.nofs (I:Inv X J Y H s){a:GZ}(h:s.heap.objs.size<=a):a∉X.fs:=λhb=>by
 obtain⟨_,o,ho,_⟩:=I.ok.funs.mem hb;exact absurd (Ht (Hb ho) (Hz I.sz h)) (IA _)
def Inv.cne (I:Inv X J Y H s):∀x c,X.env.cells.lookup x=ba c->c≠X.env.locals:=λx c e z=>by
 obtain⟨v,o,ho,hd⟩:=I.cell x c e;obtain⟨m,⟨o',es,ep,ho',hd',_⟩,_⟩:=I.loc;rw[z,ho']at ho; cases ho; rw[hd']at hd; cases hd
def Inv.funs (I:Inv X J Y H s):s.heap.FunFrames X.base X.outer:=by
 have all:∀(l:GK M7),(∀b∈oG l,b∈X.fs)->X.s₀.heap.FunFrames X.base l->s.heap.FunFrames X.base l:=by
  intro l
  induction l with
  | nil=>intro _ _; trivial
  | cons env r ih=>
   intro hs hl;obtain⟨hk,⟨L,o,hf,hn,ho,hd⟩,hr⟩:=hl;have hL:L∈X.fs:=hs L (by unfold oG; rw[Ki,hf]; exact Ik)
   obtain⟨sl,e⟩:=I.base.slot L o ho (I.ok.frf L hL) hL λz=>I.ok.exfs L z hL
   exact#[hk,#[L,_,hf,hn,e,hd],ih (λb hb=>hs b (by unfold oG; rw[Ki,hf]; exact HS _ hb)) hr]
 exact all X.outer (λ_ hb=>hb) I.ok.funs
def Inv.stack (I:Inv X J Y H s):s.heap.FunFrames X.base X.stack:=by
 rcases I.ok.stk with e|⟨e,hf⟩
 ·rw[e]; exact I.funs
 ·rw[e];obtain⟨m,hn,_⟩:=I.loc;show .cons (by rw[I.ok.kind]; decide) hf hn ?_ I.funs
  exact Heap.get?_none_of_le (Hz I.ok.bsz I.ok.above)
def Inv.stkSub (I:Inv X J Y H s):∀b∈oG X.stack,b∈X.env.locals::X.fs:=λb hb=>by
 rcases I.ok.stk with e|⟨e,hf⟩
 ·rw[e]at hb; exact HS _ hb
 ·rw[e]at hb;unfold oG at hb;rw[Ki,hf]at hb;exact hb
def Inv.stkFree (I:Inv X J Y H s):∀b∈oG X.stack,H b=gV:=λb hb=>by
 rcases Hj.mp (I.stkSub b hb)with e|hb
 ·rw[e]; exact I.free
 ·obtain⟨_,o,ho,_⟩:=I.ok.funs.mem hb;exact I.base.free b o ho (I.ok.frf b hb) λz=>I.ok.exfs b z hb
def Inv.step {g':HD Mg}{t':GX}{d':Pv}{ch:GK GZ}(I:Inv X J Y H s)
  (hch:∀b∈ch,(b∈X.ex\/X.s₀.heap.objs.size<=b)/\b≠X.env.locals/\(∀x c,X.env.cells.lookup x=ba c->c≠b)/\∀p∈X.pn++J,p.1≠b)
  (keep:∀b o,b≠X.env.locals->b∉X.fs->b∉ch->s.heap.get? b=ba o->H b=gV->h'.get? b=ba o)
  (slot:∀b o,b≠X.env.locals->b∈X.fs->b∉ch->s.heap.get? b=ba o->H b=gV->∃sl,h'.get? b=ba { o with slots:=sl }) (free:∀b o,b∉ch->s.heap.get? b=ba o->H b=gV->H' b=gV)
  (there:∀b o,b∉ch->s.heap.get? b=ba o->∃o',h'.get? b=ba o')
  (tups:∀b xs,H b=ba (.tup xs)->H' b=ba (.tup xs)) (frzs:∀b o u,H b=ba (.frz o u)->H' b=ba (.frz o u)) (tbls:∀b ps,H b=ba (.tbl ps)->∃more,H' b=ba (.tbl (ps++more)))
  (ns:∀m,s.heap.Ns X.env.locals m->h'.Ns X.env.locals m) (hok:HOk X.prog X.w H' h') (hg:Ln g') :
  Inv X J Y H' { s with heap:=h',gens:=g',drawn:=d',toks:=t' }:=by
 have neL:∀b o,X.s₀.heap.get? b=ba o->b≠X.env.locals:=λb o e=>Hn (Ht (Hb e) I.ok.above)
 have neC:∀b o,X.s₀.heap.get? b=ba o->b∉X.ex->b∉ch:=λb o e hx hb=>by
  rcases(hch b hb).1 with z|z
  ·exact hx z
  ·exact absurd (Ht (Hb e) z) (IA _)
 have cellK:∀x c,X.env.cells.lookup x=ba c->∀v,s.heap.IsCell c v->h'.IsCell c v:=λx c e v #[o,ho,hd]=>by
  have nch:c∉ch:=λz=>(hch c z).2.2.1 x c e rfl
  by_cases hc:c∈X.fs
  ·obtain⟨sl,q⟩:=slot c o (I.cne x c e) hc nch ho (I.freeC x c e);exact#[_,q,hd]
  ·exact#[o,keep c o (I.cne x c e) hc nch ho (I.freeC x c e),hd]
 show#[I.ok,I.os,hg,#[λb o e n hb hx=>?_,λb o e n hb hx=>?_,λb o e n hx=>?_,λb o e hx=>?_,λb xs e=>tups b xs (I.base.tups b xs e),λb o xs e=>frzs b o xs (I.base.frzs b o xs e),λb ps e=>?_],?_,λx c e=>?_,?_,λx c e=>?_,λp hp=>?_,hok,I.len]
 ·exact keep b o (neL b o e) hb (neC b o e hx) (I.base.keep b o e n hb hx) (I.base.free b o e n hx)
 ·obtain⟨sl,e1⟩:=I.base.slot b o e n hb hx;obtain⟨sl',e2⟩:=slot b _ (neL b o e) hb (neC b o e hx) e1 (I.base.free b o e n hx);exact#[sl',e2]
 ·obtain⟨o',e1⟩:=I.base.there b o e hx;exact free b o' (neC b o e hx) e1 (I.base.free b o e n hx)
 ·obtain⟨o',e1⟩:=I.base.there b o e hx;exact there b o' (neC b o e hx) e1
 ·obtain⟨m1,e1⟩:=I.base.tbls b ps e;obtain⟨m2,e2⟩:=tbls b _ e1;exact#[m1++m2,by rw[e2,MR]]
 ·obtain⟨m,hn,hl⟩:=I.loc;show#[m,ns m hn,λi x v e1 e2 e3=>?_]
  obtain⟨u,r,l⟩:=hl i x v e1 e2 e3;show#[u,r,?_];rcases l with l|⟨k,c,e,z⟩
  ·exact .inl l
  ·exact .inr #[k,c,e,cellK x c e _ z]
 ·obtain⟨v,z⟩:=I.cell x c e;exact#[v,cellK x c e v z]
 ·obtain⟨m,⟨o,_,_,ho,_⟩,_⟩:=I.loc;exact free _ o (λz=>(hch _ z).2.1 rfl) ho I.free
 ·obtain⟨v,o,ho,hd⟩:=I.cell x c e;exact free c o (λz=>(hch c z).2.2.1 x c e rfl) ho (I.freeC x c e)
 ·obtain⟨e,n,ne,nf,d⟩:=I.pin p hp;have nch:p.1∉ch:=λz=>(hch p.1 z).2.2.2 p hp rfl
  exact#[keep p.1 p.2 ne nf nch e n,free p.1 p.2 nch e n,ne,nf,d]
def Inv.un {t':GX}(I:Inv X J Y H s)(u:Un X.fs [] H H' s.heap h')(hok:HOk X.prog X.w H' h'):Inv X J Y H' { s with heap:=h',toks:=t' }:=by
 obtain⟨m,⟨o,es,ep,ho,r⟩,_⟩:=id I.loc;obtain⟨sl,hL⟩:=u.any ho I.free (by simp)
 exact I.step (g':=s.gens) (d':=s.drawn) (ch:=[]) (λ_ z=>nomatch z) (λb o _ hb _ e n=>u.keep b o e n hb (by simp)) (λb o _ hb _ e n=>u.slot b o e n hb (by simp)) (λb o _ e n=>u.free b o e n (by simp)) (λb o _ e=>u.there b o e (by simp)) u.tups u.frzs u.tbls (λm' hm=>by
  obtain⟨o',es',ep',ho',r'⟩:=hm;rw[ho]at ho'; cases ho'
  exact#[_,es',ep',hL,r']) hok I.bare
def Inv.call {g':HD Mg}{t':GX}{d':Pv}{ch:GK GZ}(I:Inv X J Y H s)(u:Un (oG X.stack) ch H H' s.heap h')(hok:HOk X.prog X.w H' h')(hg:Ln g')
  (hch:∀b∈ch,(b∈X.ex\/X.s₀.heap.objs.size<=b)/\b≠X.env.locals/\(∀x c,X.env.cells.lookup x=ba c->c≠b)/\∀p∈X.pn++J,p.1≠b) :
  Inv X J Y H' { s with heap:=h',gens:=g',drawn:=d',toks:=t' }:=by
 obtain⟨m,⟨o,es,ep,ho,r⟩,_⟩:=id I.loc;obtain⟨sl,hL⟩:=u.any ho I.free λz=>(hch _ z).2.1 rfl
 exact I.step (ch:=ch) hch (λb o hL hb hc e n=>u.keep b o e n (λz=>(Hj.mp (I.stkSub b z)).elim hL hb) hc) (λb o _ _ hc e n=>u.any e n hc) (λb o hc e n=>u.free b o e n hc) (λb o hc e=>u.there b o e hc) u.tups u.frzs u.tbls (λm' hm=>by
  obtain⟨o',es',ep',ho',r'⟩:=hm;rw[ho]at ho'; cases ho'
  exact#[_,es',ep',hL,r']) hok hg
def Inv.turned {t':GX}{it:GZ}(I:Inv X J Y H s)(k:∀b o,b≠it->s.heap.get? b=ba o->h'.get? b=ba o)(hn:H it=gV)(hL:it≠X.env.locals)
  (h1:it∈X.ex\/X.s₀.heap.objs.size<=it) (h2:∀x c,X.env.cells.lookup x=ba c->c≠it) (h3:∀p∈X.pn++J,p.1≠it):Inv X J Y H { s with heap:=h',toks:=t' }:=by
 have nit:∀b u,H b=ba u->b≠it:=λb u e z=>by rw[z,hn]at e; cases e
 show I.step (g':=s.gens) (d':=s.drawn) (ch:=[it]) (λb hb=>?_) (λb o _ _ hc e _=>k b o (λz=>hc (by simp[z])) e) (λb o _ _ hc e _=>#[o.slots,k b o (λz=>hc (by simp[z])) e]) (λ_ _ _ _ n=>n)
  (λb o hc e=>#[o,k b o (λz=>hc (by simp[z])) e]) (λ_ _ e=>e) (λ_ _ _ e=>e) (λb ps e=>#[#[],by rw[e]; simp]) (λm hm=>?_) (λb u e=>?_) I.bare
 ·have e:b=it:=by simpa using hb
  subst e;exact#[h1,hL,h2,h3]
 ·obtain⟨o,es,ep,ho,r⟩:=hm;exact#[o,es,ep,k _ o (Ne.symm hL) ho,r]
 ·show(I.hok b u e).stay (λc v hc q=>k c v ?_ q) (λ_ q=>q) λ_ _ q=>q
  rcases hc with z|z
  ·rw[z]; exact nit b u e
  ·exact nit c _ z
def Inv.tok (I:Inv X J Y H s)(t:GX):Inv X J Y H { s with toks:=t }:=I.un (h':=s.heap) (t':=t) Un.refl I.hok
def Inv.kept {t':GX}(I:Inv X J Y H s)(k:∀b u,s.heap.get? b=ba u->h'.get? b=ba u):Inv X J Y H { s with heap:=h',toks:=t' }:=I.un (Un.kept k) (I.hok.kept k)
def Inv.laid {a:GZ}{o:HO}{t':GX}(I:Inv X J Y H s)(k:∀b u,s.heap.get? b=ba u->h'.get? b=ba u)(hp:s.heap.objs.size<=a)(new:ObjOk X.prog X.w (be H a o) h' a o) :
  Inv X J Y (be H a o) { s with heap:=h',toks:=t' }:=I.un (Un.laid k hp (I.hok.fresh hp)) (I.hok.laid k hp new)
def Inv.write {x e:GZ}{o:HO}{t':GX}(I:Inv X J Y H s)(mu:CL (H x))(he:e=x\/H e=ba (.own x))(k:∀b u,b≠e->s.heap.get? b=ba u->h'.get? b=ba u)(heo:∃u,h'.get? e=ba u)
  (new:ObjOk X.prog X.w (be H x o) h' x o):Inv X J Y (be H x o) { s with heap:=h',toks:=t' }:=I.un (Un.write mu he k heo) (I.hok.write mu he k heo new)
def Inv.pins_of {J':GK (GZ×ID)}(I:Inv X J Y H s)(h:∀p∈J',s.heap.get? p.1=ba p.2/\H p.1=gV/\p.1≠X.env.locals/\p.1∉X.fs/\∀v,p.2.data≠.cell v):Inv X J' Y H s:=
 #[I.ok,I.os,I.bare,I.base,I.loc,I.cell,I.free,I.freeC,λp hp=>(HU.mp hp).elim (λz=>I.pin p (Ji _ z)) (h p),I.hok,I.len]
def mq {N:GK Ha}(hN:N.Nodup){i j:GX}{x:Ha}(a:N[i]?=ba x)(b:N[j]?=ba x):i=j:=by
 obtain⟨h1,e1⟩:=G8.mp a;obtain⟨h2,e2⟩:=G8.mp b;exact(JS hN).mp (e1.trans e2.symm)
def rh {tv:Pw}{A:Hy}{E:GM->GQ->Prop}{i:GX}{x:Ha}{v:V}{u:GM}{Q:O8->GQ->Prop}(I:Inv X J Y H s)(hN:X.N.Nodup)(hi:X.N[i]?=ba x)(hx:xf X.env.scope x)(r:RelV v u)
  (h:∀s',Inv X J (Y.set i (ba v)) H s'->(∃a,Je a s.heap s'.heap/\(a=X.env.locals\/X.env.cells.lookup x=ba a))->Q () s') (hf:X.fn x=true\/X.env.scope.names.lookup x=ba .local):wpAny tv A (storeName X.env x u) Q E s:=by
 obtain⟨m,hn,hl⟩:=id I.loc;have hcls:(X.env.scope.kind==.class||(X.env.scope.kind==.module&&X.env.locals != X.env.globals))=false:=by rw[I.ok.kind]; rfl
 have hiσ:i < Y.length:=by rw[I.len]; exact(G8.mp hi).1
 have cne:=I.cne;have tracked:∀ {a:GZ} {h':HQ},(∃o,s.heap.get? a=ba o/\H a=gV)->Je a s.heap h'->HOk X.prog X.w H h':=λ{a h'} ha hs b ob e=>by
  obtain⟨_,_,hfree⟩:=ha;show(I.hok b ob e).stay (λc w' hc q=>(hs.2 c ?_).trans q) (λ_ q=>q) λ_ _ q=>q
  rintro rfl;rcases hc with rfl|hc
  ·rw[hfree]at e; cases e
  ·rw[hfree]at hc; cases hc
 rcases hx with hk|hk
 ·show wpAny_storeName_local hk hn (λh' hn' hs=>?_) hcls
  obtain⟨oL,_,_,hoL,_⟩:=id hn;show h _ #[I.ok,I.os,I.bare,#[λb o e n hb hx=>?_,λb o e n hb hx=>?_,I.base.free,λb o e hx=>?_,I.base.tups,I.base.frzs,I.base.tbls],#[_,hn',λj y v' e1 e2 e3=>?_],λy c e=>?_,I.free,I.freeC,λp hp=>?_,tracked #[oL,hoL,I.free] hs,by simpa using I.len] #[_,hs,.inl rfl]
  ·exact(hs.2 b (Hn (Ht (Hb e) I.ok.above))).trans (I.base.keep b o e n hb hx)
  ·obtain⟨sl,e1⟩:=I.base.slot b o e n hb hx;exact#[sl,(hs.2 b (Hn (Ht (Hb e) I.ok.above))).trans e1]
  ·obtain⟨o',e1⟩:=I.base.there b o e hx;exact#[o',(hs.2 b (Hn (Ht (Hb e) I.ok.above))).trans e1]
  ·by_cases hj:j=i
   ·subst hj;rw[hi]at e1; cases e1
    rw[LK hiσ]at e2;cases e2;exact#[u,r,.inl #[hk,by simp]]
   ·rw[Mh (Ne.symm hj)]at e2;obtain⟨u',r',q⟩:=hl j y v' e1 e2 e3;show#[u',r',?_];rcases q with⟨k,e⟩|⟨k,c,e,z⟩
    ·show .inl #[k,?_];have:y≠x:=λe=>hj (mq hN e1 (e ▸ hi))
     simp[this,e]
    ·exact .inr #[k,c,e,z.sameBut hs (cne y c e)]
  ·obtain⟨w',z⟩:=I.cell y c e;exact#[w',z.sameBut hs (cne y c e)]
  ·obtain⟨e,n,ne,nf,d⟩:=I.pin p hp;exact#[(hs.2 p.1 ne).trans e,n,ne,nf,d]
 ·have hfn:X.fn x=true:=by
   rcases hf with z|z
   ·exact z
   ·rw[z]at hk; cases hk
  obtain⟨c,hc⟩:=I.ok.has x (.inl hk);obtain⟨w',z⟩:=I.cell x c hc;show wpAny_storeName_cell I.ok.kind hk hc z (λh' hc' hs=>?_)
  obtain⟨oc,hoc,hocd⟩:=id z;show h { s with heap:=h' } #[I.ok,I.os,I.bare,#[λb o e n hb hx=>?_,λb o e n hb hx=>?_,I.base.free,λb o e hx=>?_,I.base.tups,I.base.frzs,I.base.tbls],#[m,hn.sameBut hs (Ne.symm (cne x c hc)),λj y v' e1 e2 e3=>?_],λy c' e=>?_,I.free,I.freeC,λp hp=>?_,tracked #[oc,hoc,I.freeC x c hc] hs,by simpa using I.len] #[c,hs,.inr hc]
  ·exact(hs.2 b (Hn (Ht (Hb e) (I.ok.cab x c hfn hc)))).trans (I.base.keep b o e n hb hx)
  ·obtain⟨sl,e1⟩:=I.base.slot b o e n hb hx;exact#[sl,(hs.2 b (Hn (Ht (Hb e) (I.ok.cab x c hfn hc)))).trans e1]
  ·obtain⟨o',e1⟩:=I.base.there b o e hx;exact#[o',(hs.2 b (Hn (Ht (Hb e) (I.ok.cab x c hfn hc)))).trans e1]
  ·by_cases hj:j=i
   ·subst hj;rw[hi]at e1; cases e1
    rw[LK hiσ]at e2;cases e2;exact#[u,r,.inr #[.inl hk,c,hc,hc']]
   ·rw[Mh (Ne.symm hj)]at e2;obtain⟨u',r',q⟩:=hl j y v' e1 e2 e3;show#[u',r',?_];rcases q with q|⟨k,c',e,z'⟩
    ·exact .inl q
    ·show .inr #[k,c',e,z'.sameBut hs ?_];rintro rfl;exact hj (mq hN e1 (I.ok.inj _ _ _ e hc ▸ hi))
  ·by_cases hcc:c'=c
   ·subst hcc; exact#[_,hc']
   ·obtain⟨w2,z2⟩:=I.cell y c' e;exact#[w2,z2.sameBut hs hcc]
  ·obtain⟨e,n,ne,nf,d⟩:=I.pin p hp;show#[(hs.2 p.1 ?_).trans e,n,ne,nf,d];intro q;rw[q,hoc]at e;have q':oc=p.2:=Ij e;exact d w' (by rw[<- q']; exact hocd)
def fU {tv:Pw}{A:Hy}{E:GM->GQ->Prop}{i:GX}{x:Ha}{v:V}{u:GM}{Q:O8->GQ->Prop}(I:Inv X J Y H s)(hN:X.N.Nodup)(hi:X.N[i]?=ba x)(hx:xf X.env.scope x)(r:RelV v u)
  (h:∀s',Inv X J (Y.set i (ba v)) H s'->Q () s') (hf:X.fn x=true\/X.env.scope.names.lookup x=ba .local):wpAny tv A (storeName X.env x u) Q E s:=
 rh I hN hi hx r (λs' I' _=>h s' I') hf
def Inv.call' {s':GQ}{ch:GK GZ}(I:Inv X J Y H s)(ho:s'.os=s.os)(u:Un (oG X.stack) ch H H' s.heap s'.heap)(hok:HOk X.prog X.w H' s'.heap)(hg:Ln s'.gens)
  (hch:∀b∈ch,(b∈X.ex\/X.s₀.heap.objs.size<=b)/\b≠X.env.locals/\(∀x c,X.env.cells.lookup x=ba c->c≠b)/\∀p∈X.pn++J,p.1≠b):Inv X J Y H' s':=by
 obtain⟨h',g',d',t',o'⟩:=s';have e:o'=s.os:=ho;subst e;exact I.call (g':=g') (t':=t') (d':=d') u hok hg hch
end
noncomputable abbrev XK:=GM->GR GZ->Hp->Prop
noncomputable abbrev St:=GK (GR V)
noncomputable abbrev VK:=V->Hp->Prop
noncomputable abbrev TE:=St->Hp->VK->Prop
noncomputable abbrev TT:=St->Hp->(Hr->Hp->Prop)->Prop
noncomputable abbrev TA:=St->Hp->(GK V->Hp->Prop)->Prop
structure Ends where
 nx:St->Hp->Prop
 rt:VK
 bk:St->Hp->Prop:=λ_ _=>Iq
 ct:St->Hp->Prop:=λ_ _=>Iq
noncomputable abbrev TS:=Ends->St->Hp->Prop
inductive EP (X:Cx)(J:GK (GZ×ID))(Y:St)(Q:VK)(u:GM)(s':GQ):Prop
 | mk (v:V) (H':Hp) (i:Inv X J Y H' s') (r:RelV v u) (q:Q v H'):EP X J Y Q u s'
inductive TP (X:Cx)(J:GK (GZ×ID))(Y:St)(Q:Hr->Hp->Prop)(b:Hr)(s':GQ):Prop
 | mk (H':Hp) (i:Inv X J Y H' s') (q:Q b H'):TP X J Y Q b s'
inductive AP (X:Cx)(J:GK (GZ×ID))(Y:St)(Q:GK V->Hp->Prop)(us:GK GM)(s':GQ):Prop
 | mk (vs:GK V) (H':Hp) (i:Inv X J Y H' s') (r:Vals vs us) (q:Q vs H'):AP X J Y Q us s'
abbrev SP (X:Cx)(J:GK (GZ×ID))(D:Ends)(f:Flow)(s':GQ):Prop:=
 match f with
 | .next=>∃Y' H',Inv X J Y' H' s'/\D.nx Y' H'
 | .brk=>∃Y' H',Inv X J Y' H' s'/\D.bk Y' H'
 | .cont=>∃Y' H',Inv X J Y' H' s'/\D.ct Y' H'
 | .ret u=>∃v Y' H',Inv X J Y' H' s'/\RelV v u/\D.rt v H'
abbrev PE (X:Cx)(e:Hi)(t:TE):Prop:=
 ∀(J:GK (GZ×ID)) (s:GQ) (Y:St) (H:Hp) (Q:VK),Inv X J Y H s->t Y H Q->wpAny (model X.prog X.w) X.A (eval e X.env) (EP X J Y Q) X.xe s
abbrev PT (X:Cx)(e:Hi)(t:TT):Prop:=
 ∀(J:GK (GZ×ID)) (s:GQ) (Y:St) (H:Hp) (Q:Hr->Hp->Prop),Inv X J Y H s->t Y H Q->wpAny (model X.prog X.w) X.A (isTrue e X.env (eval e X.env)) (TP X J Y Q) X.xe s
abbrev PW (X:Cx)(e:Hi)(t:TT):Prop:=
 ∀(whole:OP GM) (J:GK (GZ×ID)) (s:GQ) (Y:St) (H:Hp) (Q:Hr->Hp->Prop),Inv X J Y H s->t Y H Q->wpAny (model X.prog X.w) X.A (isTrue e X.env whole) (TP X J Y Q) X.xe s
def PW.pt {X:Cx}{e:Hi}{t:TT}(h:PW X e t):PT X e t:=h _
abbrev PA (X:Cx)(es:GK Hi)(t:TA):Prop:=
 ∀(pos:Jt) (J:GK (GZ×ID)) (s:GQ) (Y:St) (H:Hp) (Q:GK V->Hp->Prop),Inv X J Y H s->t Y H Q->wpAny (model X.prog X.w) X.A (spliced (backTo pos (starEach es X.env))) (AP X J Y Q) X.xe s
abbrev PS (X:Cx)(st:JO)(t:TS):Prop:=
 ∀(J:GK (GZ×ID)) (s:GQ) (Y:St) (H:Hp) (D:Ends),Inv X J Y H s->t D Y H->wpAny (model X.prog X.w) X.A (exec st X.env) (SP X J D) X.xe s
abbrev PSs (X:Cx)(st:GK JO)(t:TS):Prop:=
 ∀(J:GK (GZ×ID)) (s:GQ) (Y:St) (H:Hp) (D:Ends),Inv X J Y H s->t D Y H->wpAny (model X.prog X.w) X.A (execs st X.env) (SP X J D) X.xe s
def aT {α:Type}{t:OP α}{Q Q':α->GQ->Prop}{tv:Pw}{A:Hy}{E:GM->GQ->Prop}{s:GQ}(h:wpAny tv A t Q E s)(hQ:∀a s,Q a s->Q' a s):wpAny tv A t Q' E s:=IV h hQ λ_ _ x=>x
section
variable{X:Cx}
def GJ {a b:Hi}{ta tb:TE}(ha:PE X a ta)(hb:PE X b tb){J:GK (GZ×ID)}{s:GQ}{Y:St}{H:Hp}{R:V->V->Hp->Prop}(I:Inv X J Y H s)(h:ta Y H λx H1=>tb Y H1 λy H2=>R x y H2)
  {α:Type} {Q:α->GQ->Prop} {f:GM->GM->OP α}
  (hf:∀v u s2 x y H2,Inv X J Y H2 s2->RelV x v->RelV y u->R x y H2->wpAny (model X.prog X.w) X.A (f v u) Q X.xe s2) :
  wpAny (model X.prog X.w) X.A (eval a X.env) (λv s₁=>wpAny (model X.prog X.w) X.A (eval b X.env) (λu s₂=>wpAny (model X.prog X.w) X.A (f v u) Q X.xe s₂) X.xe s₁) X.xe s:=by
 show aT (ha J s Y H _ I h) λv s1 #[x,H1,I1,r1,q1]=>?_
 show aT (hb J s1 Y H1 _ I1 q1) λu s2 #[y,H2,I2,r2,q2]=>?_
 exact hf v u s2 x y H2 I2 r1 r2 q2
abbrev As (i:GX):TE:=λY H Q=>∃v,Y[i]?=ba (ba v)/\Q v H
abbrev tC (v:V):TE:=λ_ H Q=>Q v H
def sN {i:GX}{x:Ha}{pos:Jt}(hN:X.N[i]?=ba x)(hv:EI X.env.scope x)(hd:(x==("__debug__" : Ha))=false:=by decide)(hcd:(x==("__classdict__" : Ha))=false:=by decide):PE X (.Name x pos) (As i):=by
 intro J s Y H Q I h;obtain⟨v,e,h⟩:=h;obtain⟨m,hn,hl⟩:=I.loc;obtain⟨u,r,l⟩:=hl i x v hN e hv;have fin:EP X J Y Q u s:=#[v,H,I,r,h];rcases l with⟨hk,hm⟩|⟨hk,c,hc,hcell⟩
 ·exact N4 (wpAny_loadName_local I.ok.kind hk hn hm fin) hd
 ·rcases hk with hk|hk
  ·exact N4 (wpAny_loadName_cell I.ok.kind hk hc hcell fin) hd
  ·exact N4 (wpAny_loadName_free I.ok.kind hk hc hcell fin hcd) hd
def sO {i j pos}:PE X (.Constant (.int i) j pos) (tC (.int i)):=λ_ _ _ H _ I h=>wpAny_Constant_int #[.int i,H,I.tok _,#[_,rfl],h]
def zK {b j pos}:PE X (.Constant (.bool b) j pos) (tC (.bl b)):=λ_ _ _ H _ I h=>Constant_bool #[.bl b,H,I,rfl,h]
def sP {j pos}:PE X (.Constant .none j pos) (tC .non):=λ_ _ _ H _ I h=>Constant_none #[.non,H,I,rfl,h]
def sQ {x j pos}:PE X (.Constant (.str x) j pos) (tC (.str x)):=λ_ _ _ H _ I h=>MS #[.str x,H,I.tok _,#[_,rfl],h]
abbrev Gl (X:Cx)(x:Ha):Prop:=X.env.kindOf x=ba .globalImplicit
def kP {E:GM->GQ->Prop}{J:GK (GZ×ID)}{s:GQ}{Y:St}{H:Hp}{x:Ha}{u:GM}{pos:Jt}{Q:GM->GQ->Prop}(I:Inv X J Y H s)(hg:Gl X x)(hm:X.mg x=ba u)(h:Q u s)
  (hd:(x==("__debug__" : Ha))=false:=by decide):wpAny (model X.prog X.w) X.A (eval (.Name x pos) X.env) Q E s:=
 K5 I.ok.kind hg (Calls.loadGlobal_global (by rw[I.ok.glob]; exact I.mod.glob.keeps I.bk) hm h) hd
def fI {E:GM->GQ->Prop}{J:GK (GZ×ID)}{s:GQ}{Y:St}{H:Hp}{x:Ha}{u:GM}{pos:Jt}{Q:GM->GQ->Prop}(I:Inv X J Y H s)(hg:Gl X x)(hm:X.mg x=gV)(hv:bootBuiltins x=ba u)(h:Q u s)
  (hn:x≠"__name__":=by decide) (hd:(x==("__debug__" : Ha))=false:=by decide):wpAny (model X.prog X.w) X.A (eval (.Name x pos) X.env) Q E s:=by
 obtain⟨mb,h1,h2⟩:=I.mod.blt;exact K5 I.ok.kind hg (Calls.loadGlobal_builtin (by rw[I.ok.glob]; exact I.mod.glob.keeps I.bk) hm (by rw[I.ok.blt]; exact h1.keeps I.bk) ((h2 x hn).trans hv) h) hd
def xg {x:Ha}{v:V}{u:GM}{pos:Jt}(hg:Gl X x)(hm:X.mg x=ba u)(r:RelV v u)(hd:(x==("__debug__" : Ha))=false:=by decide):PE X (.Name x pos) (tC v):=
 λ_ _ _ H _ I h=>kP I hg hm #[v,H,I,r,h] hd
def xh {x:Ha}{v:V}{u:GM}{pos:Jt}(hg:Gl X x)(hm:X.mg x=gV)(hv:bootBuiltins x=ba u)(r:RelV v u)(hn:x≠"__name__":=by decide)(hd:(x==("__debug__" : Ha))=false:=by decide):PE X (.Name x pos) (tC v):=
 λ_ _ _ H _ I h=>fI I hg hm hv #[v,H,I,r,h] hn hd
variable{a b:Hi}{ta tb:TE}{pos:Jt}
variable{tA tB':TT}{bB:GK Hi}
abbrev CM (t u:TT):TT:=λY H Q=>t Y H λc H1=>if c=true then u Y H1 Q else Q false H1
abbrev F9 (t u:TT):TT:=λY H Q=>t Y H λc H1=>if c=true then Q true H1 else u Y H1 Q
abbrev EU (t:TT):TT:=λY H Q=>t Y H λc H1=>Q (!c) H1
def xi (ha:PT X a tA):PW X (.BoolOp .And [a] pos) tA:=by
 intro wh J s Y H Q I h;show isTrue_and (aT (ha J s Y H Q I h) λc s1 e=>?_)
 cases c with
 | true=>exact isTrue_and_nil e
 | false=>exact e
def At (ha:PT X a tA):PW X (.BoolOp .Or [a] pos) tA:=by
 intro wh J s Y H Q I h;show isTrue_or (aT (ha J s Y H Q I h) λc s1 e=>?_)
 cases c with
 | false=>exact isTrue_or_nil e
 | true=>exact e
def Au (ha:PT X a tA)(hb:PW X (.BoolOp .And (b::bB) pos) tB'):PW X (.BoolOp .And (a::b::bB) pos) (CM tA tB'):=by
 intro wh J s Y H Q I h;show isTrue_and (aT (ha J s Y H _ I h) λc s1 #[H1,I1,q1]=>?_)
 cases c with
 | true=>exact hb wh J s1 Y H1 Q I1 q1
 | false=>exact#[H1,I1,q1]
def CN (ha:PT X a tA)(hb:PW X (.BoolOp .Or (b::bB) pos) tB'):PW X (.BoolOp .Or (a::b::bB) pos) (F9 tA tB'):=by
 intro wh J s Y H Q I h;show isTrue_or (aT (ha J s Y H _ I h) λc s1 #[H1,I1,q1]=>?_)
 cases c with
 | true=>exact#[H1,I1,q1]
 | false=>exact hb wh J s1 Y H1 Q I1 q1
def Av (ha:PT X a tA):PT X (.UnaryOp .Not a pos) (EU tA):=by
 intro J s Y H Q I h;exact isTrue_not (aT (ha J s Y H (λc H1=>Q (!c) H1) I h) λ_ _ #[H1,i,q]=>#[H1,i,q])
abbrev CO (ta tb:TE):TE:=λY H Q=>ta Y H λx H1=>∃c,x=.bl c/\if c=true then tb Y H1 Q else Q (.bl false) H1
abbrev EV (ta tb:TE):TE:=λY H Q=>ta Y H λx H1=>∃c,x=.bl c/\if c=true then Q (.bl true) H1 else tb Y H1 Q
abbrev CP (ta:TE):TE:=λY H Q=>ta Y H λx H1=>∃c,x=.bl c/\Q (.bl (!c)) H1
def Aw {op}{t:TE}(h:PE X a t):PE X (.BoolOp op [a] pos) t:=λJ s Y H Q I hw=>BoolOp_one (h J s Y H Q I hw)
def Ax (ha:PE X a ta)(hb:PE X (.BoolOp .And (b::bB) pos) tb):PE X (.BoolOp .And (a::b::bB) pos) (CO ta tb):=by
 intro J s Y H Q I h;show BoolOp_and (aT (ha J s Y H _ I h) λv s1 #[x,H1,I1,r1,q1]=>?_)
 obtain⟨c,rfl,q1⟩:=q1;cases r1;show IC ?_;cases c with
 | true=>exact hb J s1 Y H1 Q I1 q1
 | false=>exact#[.bl false,H1,I1,rfl,q1]
def CQ (ha:PE X a ta)(hb:PE X (.BoolOp .Or (b::bB) pos) tb):PE X (.BoolOp .Or (a::b::bB) pos) (EV ta tb):=by
 intro J s Y H Q I h;show BoolOp_or (aT (ha J s Y H _ I h) λv s1 #[x,H1,I1,r1,q1]=>?_)
 obtain⟨c,rfl,q1⟩:=q1;cases r1;show IC ?_;cases c with
 | false=>exact hb J s1 Y H1 Q I1 q1
 | true=>exact#[.bl true,H1,I1,rfl,q1]
def Ay (ha:PE X a ta):PE X (.UnaryOp .Not a pos) (CP ta):=by
 intro J s Y H Q I h;show UnaryOp_ (aT (ha J s Y H _ I h) λv s1 #[x,H1,I1,r1,q1]=>?_)
 obtain⟨c,rfl,q1⟩:=q1;cases r1;exact not_of (IC #[.bl (!c),H1,I1,rfl,q1])
abbrev Gq (t:TT)(ta tb:TE):TE:=λY H Q=>t Y H λc H1=>if c=true then ta Y H1 Q else tb Y H1 Q
def sR {c:Hi}(hc:PT X c tA)(ha:PE X a ta)(hb:PE X b tb):PE X (.IfExp c a b pos) (Gq tA ta tb):=by
 intro J s Y H Q I h;show wpAny_IfExp (aT (hc J s Y H _ I h) λd s1 #[H1,I1,q1]=>?_)
 cases d with
 | true=>exact ha J s1 Y H1 Q I1 q1
 | false=>exact hb J s1 Y H1 Q I1 q1
end
abbrev SqL (K:G0)(H:Hp)(a:GZ)(xs:GK V):Prop:=
 Rd H a (.lst xs)\/
  ∃(o:ID) (its:HD GM) (n:GX),K.lookup a=ba o/\o.cls=.type "list"/\o.dict=gV/\o.data=.seq its n/\its.size<=sizeLine/\Vals xs its.toList
abbrev SqT (K:G0)(H:Hp)(a:GZ)(xs:GK V):Prop:=
 Rd H a (.tup xs)\/
  ∃(o:ID) (its:HD GM) (n:GX),K.lookup a=ba o/\o.cls=.type "tuple"/\o.data=.seq its n/\its.size<=sizeLine/\Vals xs its.toList
abbrev xj:GM->GR V
 | .none=>ba .non
 | .bool b=>ba (.bl b)
 | .int i _=>ba (.int i)
 | .str x _=>ba (.str x)
 | .bytes b _=>ba (.byt b)
 | .float b _=>ba (.flt b)
 | .ref a=>ba (.ref a)
 | .type n=>ba (.ty n)
 | _=>gV
def RelV.abs {x:V}{u:GM}(r:RelV x u):xj u=ba x:=by
 cases x with
 | non=>cases r; rfl
 | bl _=>cases r; rfl
 | int _=>obtain⟨t,rfl⟩:=r; rfl
 | str _=>obtain⟨t,rfl⟩:=r; rfl
 | byt _=>obtain⟨t,rfl⟩:=r; rfl
 | flt _=>obtain⟨t,rfl⟩:=r; rfl
 | ref _=>cases r; rfl
 | ty _=>cases r; rfl
def RelV.inj {x y:V}{u:GM}(r:RelV x u)(q:RelV y u):x=y:=Ij (r.abs.symm.trans q.abs)
def Vals.inj:∀ {xs ys:GK V} {us:GK GM},Vals xs us->Vals ys us->xs=ys
 | _,_,_,.nil,.nil=>rfl
 | _,_,_,.cons r t,.cons r' t'=>by rw[r.inj r',Vals.inj t t']
section
variable{X:Cx}{J:GK (GZ×ID)}{Y:St}{H:Hp}{s:GQ}{a:GZ}{xs ys:GK V}
def SqL.of {K:G0}(h:H a=ba (.lst xs)):SqL K H a xs:=.inl (.inl h)
def SqT.of {K:G0}(h:H a=ba (.tup xs)):SqT K H a xs:=.inl (.inl h)
def Inv.list (I:Inv X J Y H s)(h:SqL X.K H a xs):∃its:GK GM,Vals xs its/\PlainL s.heap a its.toArray/\xs.length<=sizeLine:=by
 rcases h with h|⟨o,its,n,hk,hc,hd,hs,hz,r⟩
 ·obtain⟨z,its,n,r,e⟩:=h.ok I.hok;exact#[its,r,#[_,n,e,rfl,rfl,rfl],z]
 ·show#[its.toList,r,#[o,n,I.kIn a o hk,hc,hd,by simpa using hs],?_]
  have e:=r.length;simp only[Hg]at e;omega
def Inv.tuple (I:Inv X J Y H s)(h:SqT X.K H a xs):∃its:GK GM,Vals xs its/\M6 s.heap a its.toArray/\xs.length<=sizeLine:=by
 rcases h with h|⟨o,its,n,hk,hc,hs,hz,r⟩
 ·obtain⟨z,its,r,p⟩:=h.ok I.hok;exact#[its,r,p,z]
 ·show#[its.toList,r,#[o,I.kIn a o hk,hc,n,by simpa using hs],?_]
  have e:=r.length;simp only[Hg]at e;omega
def Inv.list_inj (I:Inv X J Y H s)(h:SqL X.K H a xs)(h':SqL X.K H a ys):xs=ys:=by
 obtain⟨its,r,⟨o,n,e,_,_,d⟩,_⟩:=I.list h;obtain⟨its',r',⟨o',n',e',_,_,d'⟩,_⟩:=I.list h';rw[e]at e'; cases e'
 rw[d]at d';injection d' with d1 _
 have:its=its':=by simpa using congrArg OI d1
 subst this;exact r.inj r'
def Inv.tuple_inj (I:Inv X J Y H s)(h:SqT X.K H a xs)(h':SqT X.K H a ys):xs=ys:=by
 obtain⟨its,r,⟨o,e,_,n,d⟩,_⟩:=I.tuple h;obtain⟨its',r',⟨o',e',_,n',d'⟩,_⟩:=I.tuple h';rw[e]at e'; cases e'
 rw[d]at d';injection d' with d1 _
 have:its=its':=by simpa using congrArg OI d1
 subst this;exact r.inj r'
end
noncomputable abbrev Cx.wish (X:Cx)(E:GM->GQ->Prop):Cx:={ X with xe:=E }
noncomputable abbrev Cx.nox (X:Cx):Cx:=X.wish λ_ _=>Iq
def Cx.Ok.wish {X:Cx}(ok:X.Ok)(E:GM->GQ->Prop):(X.wish E).Ok:=
 #[ok.mod,ok.kind,ok.glob,ok.blt,ok.above,ok.inj,ok.has,ok.cab,ok.hd,ok.frames,ok.stk,ok.exf,ok.bs,ok.bsz,ok.noex,ok.exfs,ok.funs,ok.frf]
def Cx.Ok.unwish {X:Cx}{E:GM->GQ->Prop}(ok:(X.wish E).Ok):X.Ok:=
 #[ok.mod,ok.kind,ok.glob,ok.blt,ok.above,ok.inj,ok.has,ok.cab,ok.hd,ok.frames,ok.stk,ok.exf,ok.bs,ok.bsz,ok.noex,ok.exfs,ok.funs,ok.frf]
section
variable{X:Cx}{J:GK (GZ×ID)}{Y:St}{H:Hp}{s:GQ}{E:GM->GQ->Prop}
def Inv.wish (I:Inv X J Y H s)(E:GM->GQ->Prop):Inv (X.wish E) J Y H s:=#[I.ok.wish E,I.os,I.bare,I.base,I.loc,I.cell,I.free,I.freeC,I.pin,I.hok,I.len]
def Inv.unwish (I:Inv (X.wish E) J Y H s):Inv X J Y H s:=#[I.ok.unwish,I.os,I.bare,I.base,I.loc,I.cell,I.free,I.freeC,I.pin,I.hok,I.len]
def SP.unwish {D:Ends}{f:Flow}{s':GQ}(h:SP (X.wish E) J D f s'):SP X J D f s':=by
 cases f with
 | next=>obtain⟨Y',H',I,q⟩:=h; exact#[Y',H',I.unwish,q]
 | brk=>obtain⟨Y',H',I,q⟩:=h; exact#[Y',H',I.unwish,q]
 | cont=>obtain⟨Y',H',I,q⟩:=h; exact#[Y',H',I.unwish,q]
 | ret u=>obtain⟨v,Y',H',I,r,q⟩:=h; exact#[v,Y',H',I.unwish,r,q]
def PSs.nox {st:GK JO}{t:TS}(h:PSs X.nox st t):PSs X st t:=λJ s Y H D I hw=>
 IV (h J s Y H D (I.wish _) hw) (λ_ _ q=>q.unwish) λ_ _ z=>Iq.elim z
end
section
variable{X:Cx}{st:JO}{bB:GK JO}{t u:TS}{e:Hi}{te:TE}{pos:Jt}
abbrev sS:TS:=λD Y H=>D.nx Y H
abbrev EW (t u:TS):TS:=λD Y H=>t { D with nx:=u D } Y H
def xk:PSs X [] sS:=λ_ _ Y H _ I h=>LU #[Y,H,I,h]
def sT (h1:PS X st t)(h2:PSs X bB u):PSs X (st::bB) (EW t u):=by
 intro J s Y H D I h;show wpAny_execs_cons (aT (h1 J s Y H { D with nx:=u D } I h) λf s1 q=>?_)
 cases f with
 | next=>
  obtain⟨Y',H',I',q⟩:=q;exact h2 J s1 Y' H' D I' q
 | ret v=>exact q
 | brk=>exact q
 | cont=>exact q
abbrev Az:TS:=λD Y H=>D.bk Y H
abbrev CS:TS:=λD Y H=>D.ct Y H
def xl:PS X (.Pass pos) sS:=λ_ _ Y H _ I h=>wpAny_Pass #[Y,H,I,h]
def sU:PS X (.Break pos) Az:=λ_ _ Y H _ I h=>wpAny_Break #[Y,H,I,h]
def mr:PS X (.Continue pos) CS:=λ_ _ Y H _ I h=>wpAny_Continue #[Y,H,I,h]
def Inv.quiet {J:GK (GZ×ID)}{Y:St}{H:Hp}{s:GQ}(I:Inv X J Y H s):interactive X.env=false:=by simp[interactive,I.ok.kind]
def AA {x j pos pos'}:PS X (.Expr (.Constant (.str x) j pos) pos') sS:=λ_ s Y H _ I h=>wpAny_Expr (MS (show SP X _ _ .next { s with toks:=s.toks+1 } from#[Y,H,I.tok _,h])) I.quiet
abbrev CT (te:TE):TS:=λD Y H=>te Y H λ_ H1=>D.nx Y H1
def xm (he:PE X e te)(hs:swapsWith e gV pos.line X.env=pure false:=by rfl):PS X (.Expr e pos) (CT te):=by
 intro J s Y H D I h;exact wpAny_Expr_any (aT (he J s Y H _ I h) λv s1 #[x,H1,I1,r1,q1]=>#[Y,H1,I1,q1]) I.quiet hs
abbrev EX (te:TE):TS:=λD Y H=>te Y H D.rt
def AB (he:PE X e te):PS X (.Return (ba e) pos) (EX te):=by
 intro J s Y H D I h;exact wpAny_Return_some (aT (he J s Y H _ I h) λv s1 #[x,H1,I1,r1,q1]=>#[x,Y,H1,I1,r1,q1])
abbrev CU:TS:=λD _ H=>D.rt .non H
def xn:PS X (.Return gV pos) CU:=λ_ _ Y H _ I h=>wpAny_Return_none #[.non,Y,H,I,rfl,h]
abbrev EY (c:TT)(t u:TS):TS:=λD Y H=>c Y H λb H1=>if b=true then t D Y H1 else u D Y H1
def CV {c:Hi}{a b:GK JO}{tc:TT}(hc:PT X c tc)(ha:PSs X a t)(hb:PSs X b u):PS X (.If c a b pos) (EY tc t u):=by
 intro J s Y H D I h;show wpAny_If (aT (hc J s Y H _ I h) λd s1 #[H1,I1,q1]=>?_)
 cases d with
 | true=>exact ha J s1 Y H1 D I1 q1
 | false=>exact hb J s1 Y H1 D I1 q1
end
noncomputable abbrev TG:=V->St->Hp->(St->Hp->Prop)->Prop
noncomputable abbrev AC:=GK V->St->Hp->(St->Hp->Prop)->Prop
abbrev PG (X:Cx)(target:Hi)(t:TG):Prop:=
 ∀(J:GK (GZ×ID)) (s:GQ) (Y:St) (H:Hp) (v:V) (u:GM) (Q:St->Hp->Prop),Inv X J Y H s->RelV v u->t v Y H Q->
  wpAny (model X.prog X.w) X.A (assign target X.env u) (λ_ s'=>∃Y' H',Inv X J Y' H' s'/\Q Y' H') X.xe s
abbrev CW (X:Cx)(ts:GK Hi)(t:AC):Prop:=
 ∀(J:GK (GZ×ID)) (s:GQ) (Y:St) (H:Hp) (vs:GK V) (us:GK GM) (Q:St->Hp->Prop),Inv X J Y H s->Vals vs us->t vs Y H Q->
  wpAny (model X.prog X.w) X.A (assignInOrder ((assignEach ts X.env).map (·.2)) us) (λ_ s'=>∃Y' H',Inv X J Y' H' s'/\Q Y' H') X.xe s
noncomputable abbrev AD:=V->V->V->Hp->(Hp->Prop)->Prop
abbrev AE (X:Cx)(t:AD):Prop:=
 ∀(J:GK (GZ×ID)) (s:GQ) (Y:St) (H:Hp) (o i v:V) (ov iv u:GM) (Q:Hp->Prop),Inv X J Y H s->RelV o ov->RelV i iv->RelV v u->t o i v H Q->
  wpAny (model X.prog X.w) X.A (setItem ov iv u) (λ_ s'=>∃H',Inv X J Y H' s'/\Q H') X.xe s
section
variable{X:Cx}{pos:Jt}
abbrev CY (i:GX):TG:=λv Y H Q=>Q (Y.set i (ba v)) H
def pT {i:GX}{x:Ha}(hN:X.N.Nodup)(hi:X.N[i]?=ba x)(hx:xf X.env.scope x)(hf:X.fn x=true\/X.env.scope.names.lookup x=ba .local):PG X (.Name x pos) (CY i):=by
 intro J s Y H v u Q I r h;exact M8 (fU I hN hi hx r (λs' I'=>#[_,H,I',h]) hf)
abbrev EZ:AC:=λvs Y H Q=>vs=[]/\Q Y H
abbrev CZ (t:TG)(u:AC):AC:=λvs Y H Q=>∃v r,vs=v::r/\t v Y H λY' H'=>u r Y' H' Q
def xo:CW X [] EZ:=by
 intro J s Y H vs us Q I r h;obtain⟨e,h⟩:=h;subst e;cases r;exact M9 #[Y,H,I,h]
def sV {e:Hi}{es:GK Hi}{t:TG}{u:AC}(h1:PG X e t)(h2:CW X es u)
  (hs:(assignEach (e::es) X.env).map (·.2)=assign e X.env::(assignEach es X.env).map (·.2):=by rfl):CW X (e::es) (CZ t u):=by
 intro J s Y H vs us Q I r h;obtain⟨v,vr,e1,h⟩:=h;subst e1;cases r with
 | cons r rr=>
  rw[hs];show K6 (aT (h1 J s Y H _ _ _ I r h) λ_ s1 #[Y1,H1,I1,q1]=>?_)
  exact h2 J s1 Y1 H1 _ _ Q I1 rr q1
abbrev E1 (K:G0)(n:GX)(t:AC):TG:=λv Y H Q=>∃a xs,v=.ref a/\SqT K H a xs/\xs.length=n/\t xs Y H Q
def AF {es:GK Hi}{k:GX}{t:AC}{n:GX}(hc:X.calm=true)(h:CW X es t)
  (hn:(assignEach es X.env).length=n:=by rfl) (hst:(assignEach es X.env).findIdx? (·.1)=gV:=by rfl):PG X (.Tuple es k pos) (E1 X.K n t):=by
 intro J s Y H v u Q I r hw;obtain⟨a,xs,e1,hq,hl,hw⟩:=hw;subst e1;cases r;obtain⟨its,rv,ht,hz⟩:=I.tuple hq;show assign_Tuple_tuple (I.ok.hd hc) ht (by simp[hn,<- hl,rv.length]) hst λh' hx=>?_
 have I1:Inv X J Y H { s with heap:=h' }:=I.kept (t':=s.toks) λb o e=>hx b o (Hn (Hb e)) e
 exact h J _ Y H xs _ Q I1 (by simpa using rv) hw
abbrev E2 (to ti:TE)(t:AD):TG:=λv Y H Q=>to Y H λo H1=>ti Y H1 λi H2=>t o i v H2 λH3=>Q Y H3
def AG {o i:Hi}{to ti:TE}{t:AD}(ho:PE X o to)(hi:PE X i ti)(hs:AE X t)
  (ha:∀v,assign (.Subscript o i pos) X.env v=(do
   let ov <- holding [v] (eval o X.env)
   let iv <- holding [v,ov] (eval i X.env)
   standAt pos
   holding [v,ov,iv] (setItem ov iv v)
   release [v,ov,iv] []):=by intro _; rfl):PG X (.Subscript o i pos) (E2 to ti t):=by
 intro J s Y H v u Q I r h;rw[ha];show GL (Ir (aT (ho J s Y H _ I h) λov s1 #[x,H1,I1,r1,q1]=>?_))
 show GL (Ir (aT (hi J s1 Y H1 _ I1 q1) λiv s2 #[y,H2,I2,r2,q2]=>?_))
 show GL (KR (GL (Ir (aT (hs J s2 Y H2 x y v ov iv u _ I2 r1 r2 r q2) λ_ s3 #[H3,I3,q3]=>?_))))
 exact wpAny_release #[Y,H3,I3,q3]
abbrev E3 (te:TE)(g:TG):TS:=λD Y H=>te Y H λx H1=>g x Y H1 D.nx
def AH {tg e:Hi}{te:TE}{g:TG}(he:PE X e te)(hg:PG X tg g)(hs:swapsWithSole [tg] e pos.line X.env=pure false:=by rfl)(hw:swappedStores [tg] e X.env=pure gV:=by rfl)
  (h1:(assignEach [tg] X.env).map (·.2)=[assign tg X.env]:=by rfl):PS X (.Assign [tg] e pos) (E3 te g):=by
 intro J s Y H D I h;show wpAny_Assign_stores (aT (he J s Y H _ I h) λv s1 #[x,H1,I1,r1,q1]=>?_) hs hw
 rw[h1];exact aT (hg J s1 Y H1 x v _ I1 r1 q1) λ_ s2 q=>q
abbrev E4 (i j:GX)(ta:TA):TS:=λD Y H=>ta Y H λvs H1=>∃v w,vs=[v,w]/\D.nx ((Y.set i (ba v)).set j (ba w)) H1
def AI {i j:GX}{x y:Ha}{a b:Hi}{ta:TA}{px py pt:Jt}{kt k2 pt2}(hc:X.calm=true)(hN:X.N.Nodup)(hi:X.N[i]?=ba x)(hj:X.N[j]?=ba y)(hij:i≠j)
  (hx:X.env.scope.names.lookup x=ba .local) (hy:X.env.scope.names.lookup y=ba .local) (ha:PA X [a,b] ta)
  (hw:swappedStores [.Tuple [.Name x px,.Name y py] kt pt] (.Tuple [a,b] k2 pt2) X.env=pure (ba [x,y]))
  (hs:swapsWithSole [.Tuple [.Name x px,.Name y py] kt pt] (.Tuple [a,b] k2 pt2) pos.line X.env=pure false:=by rfl) :
  PS X (.Assign [.Tuple [.Name x px,.Name y py] kt pt] (.Tuple [a,b] k2 pt2) pos) (E4 i j ta):=by
 intro J s Y H D I h;rw[exec_Assign_arm];show GL (KR ?_);rw[hs];show GL (GY ?_);rw[Hu #v[]]
 show GL (Tuple_ (aT (ha _ J s Y H _ I h) λus s1 #[vs,H1,I1,r1,q1]=>?_))
 obtain⟨v,w,e1,q1⟩:=q1;subst e1;obtain⟨u1,u2,rfl,rv,rw'⟩ : ∃u1 u2,us=[u1,u2]/\RelV v u1/\RelV w u2:=by
  cases r1 with
  | cons p q=>
   cases q with
   | cons p' q'=>
    cases q';exact#[_,_,rfl,p,p']
 show HY ?_ (by change 2<=sizeLine; decide)
 have I2:Inv X J Y H1 { s1 with heap:=s1.heap.push { cls:=.type "tuple",data:=.seq [u1,u2].toArray } }:=I1.kept (t':=s1.toks) λb o e=>GN _ e
 rw[hw];show GL (GY ?_);change wpAny (model X.prog X.w) X.A (do rule "assign.swapped-stores"; let items <- unpackItems (.ref s1.heap.objs.size) 2 gV; assignInOrder [λv=>bindName X.env y v,λv=>bindName X.env x v] items.reverse; pure Pn) _ _ _
 show GL (KI (GL (unpackItems_tuple (items:=[u1,u2].toArray) (I.ok.hd hc) (Nw s1.heap _) λh' hx'=>?_)))
 have I3:=I2.kept (h':=h') (t':=s1.toks) λb o e=>hx' b o (Hn (Hb e)) e
 change wpAny _ _ (assignInOrder [λv=>bindName X.env y v,λv=>bindName X.env x v] [u2,u1] >>= λ_=>pure Pn) _ _ _
 show GL (K6 (N5 (fU I3 hN hj (.inl hy) rw' (λs2 I4=>?_) (.inr hy))))
 show K6 (N5 (fU I4 hN hi (.inl hx) rv (λs3 I5=>M9 (GY ?_)) (.inr hx)))
 rw[List.set_comm _ _ (Ne.symm hij)]at I5;exact#[_,H1,I5,q1]
abbrev AJ (c:TT)(tb:TS):TS:=λD Y H=>∃W:GX->St->Hp->Prop,(∃m,W m Y H)/\∀m Y H,W m Y H->
 c Y H λb H1=>if b=true then ∃N:St->Hp->Prop,(∀Y' H',N Y' H'->∃m',m' < m/\W m' Y' H')/\tb { D with nx:=N,ct:=N,bk:=D.nx } Y H1 else D.nx Y H1
def sW {c:Hi}{body:GK JO}{tc:TT}{tb:TS}(hp:Mz (model X.prog X.w) X.A X.env X.xe)(hc:PT X c tc)(hb:PSs X body tb):PS X (.While c body [] pos) (AJ tc tb):=by
 intro J s Y H D I h;obtain⟨W,⟨m0,w0⟩,turn⟩:=h;show wpAny_While (codeAny_whileLoop (λn s'=>∃Y' H',Inv X J Y' H' s'/\W n Y' H') ?_ m0 #[Y,H,I,w0])
 rintro n s1 ⟨Y1,H1,I1,w1⟩;show JG hp (aT (hc J s1 Y1 H1 _ I1 (turn n Y1 H1 w1)) λb s2 #[H2,I2,q2]=>?_)
 cases b with
 | true=>
  obtain⟨N,hN,q2⟩:=q2;rw[Hk rfl];show JG hp (aT (hb J s2 Y1 H2 _ I2 q2) λf s3 q3=>?_)
  cases f with
  | next=>
   obtain⟨Y3,H3,I3,n3⟩:=q3;obtain⟨m',hm,w3⟩:=hN Y3 H3 n3;exact#[m',hm,Y3,H3,I3,w3]
  | cont=>
   obtain⟨Y3,H3,I3,n3⟩:=q3;obtain⟨m',hm,w3⟩:=hN Y3 H3 n3;exact#[m',hm,Y3,H3,I3,w3]
  | brk=>exact q3
  | ret v=>exact q3
 | false=>
  rw[Hu Hh];exact LU #[Y1,H2,I2,q2]
end
structure It where
 go:GX->Hp->Prop
 yld:GX->Hp->V->Hp->Prop
 stop:GX->Hp->Prop
abbrev fJ (X:Cx)(J:GK (GZ×ID))(H:Hp)(b:GZ):Prop:=
 H b=gV/\b≠X.env.locals/\b∉X.fs/\(b∈X.ex\/X.s₀.heap.objs.size<=b)/\(∀x c,X.env.cells.lookup x=ba c->c≠b)/\∀p∈X.pn++J,p.1≠b
def Inv.fpOk {X:Cx}{J:GK (GZ×ID)}{Y:St}{H H':Hp}{s:GQ}{b:GZ}(I:Inv X J Y H s)(hb:s.heap.objs.size<=b)(hn:H' b=gV):fJ X J H' b:=by
 show#[hn,IH (Ht I.lt hb),I.nofs hb,.inr (Hz I.sz hb),λx c e z=>?_,λp hp z=>?_]
 ·obtain⟨v,q⟩:=I.cell x c e;exact absurd (Ht q.lt (by rw[z]; exact hb)) (IA _)
 ·exact absurd (Ht (Hb (I.pin p hp).1) (by rw[z]; exact hb)) (IA _)
structure Turn (P:Hs)(w:HA)(K:G0)(tg:Hi)(td:It)(fp:GK GZ)(it:GZ)(tn:GX->HQ->Prop):Prop where
 mem:it∈fp
 obj:∀i h,tn i h->∀b∈fp,∃o,h.get? b=ba o/\∀v,o.data≠.cell v
 keep:∀i h h',tn i h->(∀b∈fp,∀o,h.get? b=ba o->h'.get? b=ba o)->tn i h'
 item:∀(X:Cx),X.prog=P->X.w=w->X.K=K->X.calm=true->∀(i:GX) (J:GK (GZ×ID)) (s:GQ) (Y:St) (H:Hp) (E:GM->GQ->Prop),Inv X J Y H s->(∀b∈fp,fJ X J H b)->tn i s.heap->td.go i H->
  wpAny (model P w) X.A (pyNext (.ref it)) (λr s1=>∃u,r=ba u/\
   wpAny (model P w) X.A (letOwnedTupleGo tg (.ref it) u) (λ_ s2=>∃x H',Inv X J Y H' s2/\RelV x u/\td.yld i H x H'/\tn (i+1) s2.heap/\∀b∈fp,H' b=gV) E s1) E s
 done:∀(X:Cx),X.prog=P->X.w=w->X.K=K->X.calm=true->∀(i:GX) (J:GK (GZ×ID)) (s:GQ) (Y:St) (H:Hp) (E:GM->GQ->Prop),Inv X J Y H s->(∀b∈fp,fJ X J H b)->tn i s.heap->td.stop i H->
  wpAny (model P w) X.A (pyNext (.ref it)) (λr s1=>r=gV/\Inv X J Y H s1) E s
 self:∀(A:Hy) (i:GX) (s:GQ) (Q:GM->GQ->Prop) (E:GM->GQ->Prop),tn i s.heap->Q (.ref it) s->wpAny (model P w) A (pyIter (.ref it)) Q E s
noncomputable abbrev TI:=St->Hp->(It->Hp->Prop)->Prop
abbrev C0 (X:Cx)(J:GK (GZ×ID))(Y:St)(tg:Hi)(R:It->Hp->Prop)(itv:GM)(s2:GQ):Prop:=
 ∃(it:GZ) (fp:GK GZ) (tn:GX->HQ->Prop) (td:It) (H':Hp),itv=.ref it/\Inv X J Y H' s2/\Turn X.prog X.w X.K tg td fp it tn/\tn 0 s2.heap/\(∀b∈fp,fJ X J H' b)/\R td H'
abbrev PI (X:Cx)(tg iter:Hi)(wi:TI):Prop:=
 ∀(J:GK (GZ×ID)) (s:GQ) (Y:St) (H:Hp) (R:It->Hp->Prop),Inv X J Y H s->wi Y H R->
  wpAny (model X.prog X.w) X.A (eval iter X.env) (λv s1=>wpAny (model X.prog X.w) X.A (pyIter v) (C0 X J Y tg R) X.xe s1) X.xe s
def mw {tv:Pw}{A:Hy}{E:GM->GQ->Prop}{s:GQ}{tg:Hi}{it:GZ}{u:GM}{o:ID}{n:Iw}{vs:HD GM}{Q:O8->GQ->Prop}(ho:s.heap.get? it=ba o)(hc:o.cls=.type n)(hd:o.data=.fields vs)
    (hn:["enumerate","zip","dict_itemiterator","dict_reverseitemiterator","odict_iterator","itertools.zip_longest","itertools.pairwise"].contains n=false) (hQ:Q () s):wpAny tv A (letOwnedTupleGo tg (.ref it) u) Q E s:=by
  unfold letOwnedTupleGo;cases tg <;> first
    | exact GY hQ
    | (cases u <;> first
        | exact GY hQ
        | (show GL (MT ho ?_)
           rw[hc,hd];change wpAny tv A (if (["enumerate","zip","dict_itemiterator","dict_reverseitemiterator","odict_iterator","itertools.zip_longest","itertools.pairwise"].contains n&&vs[0]?==ba (rawInt _))=true then _ else _) Q E s
           rw[Hu (by intro h; rw[hn,Bool.false_and]at h; cases h)]
           exact GY hQ))
abbrev E5 (K:G0)(a:GZ):It:=
 #[λi H=>∃xs x,SqL K H a xs/\xs[i]?=ba x,λi H x H'=>H'=H/\∀xs,SqL K H a xs->xs[i]?=ba x,λi H=>∃xs,SqL K H a xs/\xs.length<=i]
abbrev E6 (K:G0)(a:GZ):It:=
 #[λi H=>∃xs x,SqT K H a xs/\xs[i]?=ba x,λi H x H'=>H'=H/\∀xs,SqT K H a xs->xs[i]?=ba x,λi H=>∃xs,SqT K H a xs/\xs.length<=i]
abbrev C3 (lo:G7)(n:GX):It:=#[λi _=>i < n,λi H x H'=>H'=H/\x=.int (lo+i),λi _=>n<=i]
def rj {P:Hs}{w:HA}{K:G0}{tg:Hi}(a it:GZ):Turn P w K tg (E5 K a) [it] it (λi h=>h.IsListIter it a i) where
 mem:=by simp
 obj:=λi h st b hb=>by
  have e:b=it:=by simpa using hb
  subst e;obtain⟨o,e,c,d⟩:=st;exact#[o,e,λv z=>by rw[d]at z; cases z]
 keep:=λi h h' st k=>st.at λo e=>k it (by simp) o e
 item:=by
  intro X hP hw hK hc i J s Y H E I hf st hg;subst hP hw hK;obtain⟨xs,x,hq,hx⟩:=hg;obtain⟨its,rv,p,hz⟩:=I.list hq;obtain⟨u,hu,ru⟩:=rv.get hx;obtain⟨f0,f1,f2,f3,f4,f5⟩:=hf it (by simp)
  show wpAny_pyNext_list_item st p.isList (x:=u) (by simpa using hu) λh' st' sb=>?_
  have I1:Inv X J Y H { s with heap:=h' }:=I.turned (t':=s.toks) (λb o hb e=>(sb.2 b hb).trans e) f0 f1 f3 f4 f5
  obtain⟨o,e,c,d⟩:=id st';exact#[u,rfl,mw (s:={ s with heap:=h' }) e c d #v[] #[x,H,I1,ru,#[rfl,λys hy=>by rw[I.list_inj hy hq]; exact hx],st',λb hb=>(hf b hb).1]]
 done:=by
  intro X hP hw hK hc i J s Y H E I hf st hg;subst hP hw hK;obtain⟨xs,hq,hx⟩:=hg;obtain⟨its,rv,p,hz⟩:=I.list hq;obtain⟨f0,f1,f2,f3,f4,f5⟩:=hf it (by simp)
  have hl:=rv.length;exact wpAny_pyNext_list_end (I.ok.hd hc) st p.isList (by simp; omega) λh' eb=>#[rfl,I.turned (t':=s.toks) (λb o hb e=>eb b o hb e) f0 f1 f3 f4 f5]
 self:=λ_ _ _ _ _ st h=>wpAny_pyIter_listiter st h
def oH {P:Hs}{w:HA}{K:G0}{tg:Hi}(a it:GZ):Turn P w K tg (E6 K a) [it] it (λi h=>h.IsTupleIter it a i) where
 mem:=by simp
 obj:=λi h st b hb=>by
  have e:b=it:=by simpa using hb
  subst e;obtain⟨o,e,c,d⟩:=st;exact#[o,e,λv z=>by rw[d]at z; cases z]
 keep:=λi h h' st k=>st.at λo e=>k it (by simp) o e
 item:=by
  intro X hP hw hK hc i J s Y H E I hf st hg;subst hP hw hK;obtain⟨xs,x,hq,hx⟩:=hg;obtain⟨its,rv,p,hz⟩:=I.tuple hq;obtain⟨u,hu,ru⟩:=rv.get hx;obtain⟨f0,f1,f2,f3,f4,f5⟩:=hf it (by simp)
  show wpAny_pyNext_tuple_item st (show s.heap.IsTuple a its.toArray from p) (x:=u) (by simpa using hu) λh' st' sb=>?_
  have I1:Inv X J Y H { s with heap:=h' }:=I.turned (t':=s.toks) (λb o hb e=>(sb.2 b hb).trans e) f0 f1 f3 f4 f5
  obtain⟨o,e,c,d⟩:=id st';exact#[u,rfl,mw (s:={ s with heap:=h' }) e c d #v[] #[x,H,I1,ru,#[rfl,λys hy=>by rw[I.tuple_inj hy hq]; exact hx],st',λb hb=>(hf b hb).1]]
 done:=by
  intro X hP hw hK hc i J s Y H E I hf st hg;subst hP hw hK;obtain⟨xs,hq,hx⟩:=hg;obtain⟨its,rv,p,hz⟩:=I.tuple hq;obtain⟨f0,f1,f2,f3,f4,f5⟩:=hf it (by simp)
  have hl:=rv.length;exact wpAny_pyNext_tuple_end (I.ok.hd hc) st (show s.heap.IsTuple a its.toArray from p) (by simp; omega) λh' eb=>#[rfl,I.turned (t':=s.toks) (λb o hb e=>eb b o hb e) f0 f1 f3 f4 f5]
 self:=λ_ _ _ _ _ st h=>wpAny_pyIter_tupleiter st h
def oI {P:Hs}{w:HA}{K:G0}{tg:Hi}(it:GZ)(lo:G7)(n:GX):Turn P w K tg (C3 lo n) [it] it (λi h=>OQ h it (lo+(i:GX)*1) ((n:G7) - (i:GX)) 1) where
 mem:=by simp
 obj:=λi h st b hb=>by
  have e:b=it:=by simpa using hb
  subst e;exact#[_,st,λv z=>by
   have z':Data.fields _=Data.cell v:=z;cases z']
 keep:=λi h h' st k=>k it (by simp) _ st
 item:=by
  intro X hP hw hK hc i J s Y H E I hf st hg;subst hP hw hK;obtain⟨f0,f1,f2,f3,f4,f5⟩:=hf it (by simp)
  have W:=Walks.range (prog:=X.prog) (w:=X.w) (I.ok.hd hc) it lo 1 n;show W.item i s _ _ hg st λv h' tk hv st' kk=>?_
  obtain⟨t,rfl⟩:=hv;have I1:Inv X J Y H { s with heap:=h',toks:=tk }:=I.turned (λb o hb e=>kk b o (by simpa using hb) e) f0 f1 f3 f4 f5
  show#[_,rfl,mw (s:={ s with heap:=h',toks:=tk }) (n:="range_iterator") st' rfl rfl #v[] #[.int (lo+i),H,I1,#[t,?_],#[rfl,rfl],st',λb hb=>(hf b hb).1]]
  rw[Int.mul_one]
 done:=by
  intro X hP hw hK hc i J s Y H E I hf st hg;subst hP hw hK;obtain⟨f0,f1,f2,f3,f4,f5⟩:=hf it (by simp)
  exact wpAny_pyNext_range_end (I.ok.hd hc) st (by have:n<=i:=hg; omega) λh' eb=>#[rfl,I.turned (t':=s.toks) (λb o hb e=>eb b o hb e) f0 f1 f3 f4 f5]
 self:=λ_ _ _ _ _ st h=>wpAny_pyIter_rangeiter st h
section
variable{X:Cx}{tg:Hi}
def mx {J:GK (GZ×ID)}{Y:St}{H:Hp}{s:GQ}{R:It->Hp->Prop}{E:GM->GQ->Prop}{lo hi:G7}{t u v:Pq}{tk:GX}(I:Inv X J Y H s)(h1 : -(2 ^ 62)<=lo)(h2:lo < 2 ^ 62)(h3 : -(2 ^ 62)<=hi)(h4:hi < 2 ^ 62)
  (q:R (C3 lo (hi - lo).toNat) H):wpAny (model X.prog X.w) X.A (pyIter (.ref s.heap.objs.size)) (C0 X J Y tg R) E { s with heap:=s.heap.push { cls:=.type "range",data:=.fields [.int lo t,.int hi u,.int 1 v].toArray },toks:=tk }:=by
 show wpAny_pyIter_range (IsRange.new ..) (OF h1 h2 h3 h4) ?_;have I1:Inv X J Y H { s with heap:=s.heap.push { cls:=.type "range",data:=.fields [.int lo t,.int hi u,.int 1 v].toArray },toks:=tk }:=I.kept λb o e=>GN _ e
 show#[(s.heap.push { cls:=.type "range",data:=.fields [.int lo t,.int hi u,.int 1 v].toArray }).objs.size,[(s.heap.push { cls:=.type "range",data:=.fields [.int lo t,.int hi u,.int 1 v].toArray }).objs.size],_,_,H,rfl,
  I1.kept (t':=tk) λb o e=>GN _ e,oI _ lo (hi - lo).toNat,?_,λb hb=>?_,q]
 ·have e1:lo+((0:GX):G7)*1=lo:=by simp
  have e2:(((hi - lo).toNat:GX):G7) - ((0:GX):G7)=IS lo hi 1:=by rw[MG]; split <;> omega
  change OQ _ _ (lo+((0:GX):G7)*1) ((((hi - lo).toNat:GX):G7) - ((0:GX):G7)) 1;rw[e1,e2];exact G4 _ rfl
 ·have e:b=(s.heap.push { cls:=.type "range",data:=.fields [.int lo t,.int hi u,.int 1 v].toArray }).objs.size:=by simpa using hb
  subst e;exact I1.fpOk (G2 _) (I1.hok.fresh (G2 _))
abbrev C4 (ta:TA):TI:=λY H R=>ta Y H λvs H1=>∃j:G7,vs=[.int j]/\-(2 ^ 62)<=j/\j < 2 ^ 62/\R (C3 0 j.toNat) H1
abbrev iRng2 (ta:TA):TI:=λY H R=>ta Y H λvs H1=>∃i j:G7,vs=[.int i,.int j]/\(-(2 ^ 62)<=i/\i < 2 ^ 62/\-(2 ^ 62)<=j/\j < 2 ^ 62)/\R (C3 i (j - i).toNat) H1
def rm {a:Hi}{ta:TA}{p pos:Jt}(hg:Gl X "range")(hm:X.mg "range" = gV)(ha:PA X [a] ta)(hs:starEach [a] X.env=[(false,eval a X.env)]:=by rfl):PI X tg (.Call (.Name "range" p) [a] [] pos) (C4 ta):=by
 intro J s Y H R I h;show Px (fI I hg hm boot_range (IU (aT (ha pos J s Y H _ I h) λus s1 #[vs,H1,I1,r1,q1]=>?_) hs rfl))
 obtain⟨j,e,q1,q2,q⟩:=q1;subst e;cases r1 with
 | cons r rr=>
  cases rr;obtain⟨t,rfl⟩:=r;exact OJ (mx I1 ∅ ∅ q1 q2 (by simpa using q))
def rn {a b:Hi}{ta:TA}{p pos:Jt}(hg:Gl X "range")(hm:X.mg "range" = gV)(ha:PA X [a,b] ta)(hs:starEach [a,b] X.env=[(false,eval a X.env),(false,eval b X.env)]:=by rfl)(hs2:starEach [b] X.env=[(false,eval b X.env)]:=by rfl) :
  PI X tg (.Call (.Name "range" p) [a,b] [] pos) (iRng2 ta):=by
 intro J s Y H R I h;show Px (fI I hg hm boot_range (IU (aT (ha pos J s Y H _ I h) λus s1 #[vs,H1,I1,r1,q1]=>?_) (by rw[hs,hs2]) (by rw[hs2]; rfl)))
 obtain⟨i,j,e,⟨q1,q2,q3,q4⟩,q⟩:=q1;subst e;cases r1 with
 | cons r rr=>
  cases rr with
  | cons r' rr=>
   cases rr;obtain⟨t,rfl⟩:=r;obtain⟨t',rfl⟩:=r';exact call_range_2 (mx I1 q1 q2 q3 q4 q)
abbrev E7 (wi:TI)(g:TG)(tb:TS):TS:=λD Y H=>wi Y H λtd H1=>∃W:GX->GX->St->Hp->Prop,(∃m,W 0 m Y H1)/\∀i m Y H,W i m Y H->
 (td.stop i H/\D.nx Y H)\/(td.go i H/\∃N:St->Hp->Prop,(∀Y' H',N Y' H'->∃m',m' < m/\W (i+1) m' Y' H')/\∀x H',td.yld i H x H'->g x Y H' λY2 H2=>tb { D with nx:=N,ct:=N,bk:=D.nx } Y2 H2)
abbrev gP (fp:GK GZ)(h:HQ):GK (GZ×ID):=fp.filterMap λb=>(h.get? b).map λo=>(b,o)
def d6 {fp:GK GZ}{h:HQ}{b:GZ}{o:ID}(hb:b∈fp)(e:h.get? b=ba o):(b,o)∈gP fp h:=MU.mpr #[b,hb,by rw[e]; rfl]
def rq {fp:GK GZ}{h:HQ}{p:GZ×ID}(hp:p∈gP fp h):p.1∈fp/\h.get? p.1=ba p.2:=by
 obtain⟨b,hb,e⟩:=MU.mp hp;cases q:h.get? b with
 | none=>rw[q]at e; cases e
 | some o=>
  rw[q]at e;have e':(b,o)=p:=Ij e;subst e';exact#[hb,q]
def Inv.pinned {J:GK (GZ×ID)}{Y:St}{H:Hp}{s:GQ}{fp:GK GZ}(I:Inv X J Y H s)(hf:∀b∈fp,fJ X J H b)(ho:∀b∈fp,∃o,s.heap.get? b=ba o/\∀v,o.data≠.cell v):Inv X (J++gP fp s.heap) Y H s:=
 I.pins_of λp hp=>(HU.mp hp).elim (λz=>I.pin p (Hx _ z)) λz=>by
  obtain⟨hb,e⟩:=rq z;obtain⟨f0,f1,f2,_⟩:=hf p.1 hb;obtain⟨o,e',d⟩:=ho p.1 hb;rw[e]at e'; cases e'
  exact#[e,f0,f1,f2,d]
def Inv.unpinned {J pl:GK (GZ×ID)}{Y:St}{H:Hp}{s:GQ}(I:Inv X (J++pl) Y H s):Inv X J Y H s:=I.pins_of λp hp=>I.pin p (Hx _ (Ji _ hp))
def AK {iter:Hi}{body:GK JO}{wi:TI}{g:TG}{tb:TS}{pos:Jt}(hp:Mz (model X.prog X.w) X.A X.env X.xe)(hc:X.calm=true)(hi:PI X tg iter wi)(hg:PG X tg g)(hb:PSs X body tb)
  (hs:∀x,foldedSetIterable iter X.env x=pure x:=by intro _; rfl):PS X (.For tg iter body [] pos) (E7 wi g tb):=by
 intro J s Y H D I h;show wpAny_For (aT (hi J s Y H _ I h) λv s1 h1=>aT h1 λitv s2 h2=>?_) hs
 obtain⟨it,fp,tn,td,H2,e,I2,T,aG,f2,W,⟨m0,w0⟩,turn⟩:=h2;subst e;have stat:∀ {H':Hp},(∀b∈fp,H' b=gV)->∀b∈fp,fJ X J H' b:=λhn b hb=>#[hn b hb,(f2 b hb).2]
 show codeAny_forLoop_any (λn s'=>∃i Y' H',Inv X J Y' H' s'/\tn i s'.heap/\(∀b∈fp,H' b=gV)/\W i n Y' H') ?_ m0 #[0,Y,H2,I2,aG,λb hb=>(f2 b hb).1,w0]
 rintro n s3 ⟨i,Y3,H3,I3,st3,fr3,w3⟩;rcases turn i n Y3 H3 w3 with⟨stop,qn⟩|⟨go,N,hN,step⟩
 ·show JG hp (aT (T.done X rfl rfl rfl hc i J s3 Y3 H3 X.xe I3 (stat fr3) st3 stop) λr s4 #[hr,I4]=>?_)
  subst hr;exact LU #[Y3,H3,I4,qn]
 ·show JG hp (aT (T.item X rfl rfl rfl hc i J s3 Y3 H3 X.xe I3 (stat fr3) st3 go) λr s4 #[u,hr,h4]=>?_)
  subst hr;show JG hp (aT h4 λ_ s5 #[x,H5,I5,r5,y5,st5,fr5]=>?_)
  have I5':=I5.pinned (stat fr5) (T.obj _ _ st5);show JG hp (aT (hg _ s5 Y3 H5 x u _ I5' r5 (step x H5 y5)) λ_ s6 #[Y6,H6,I6,q6]=>?_)
  show JG hp (aT (hb _ s6 Y6 H6 _ I6 q6) λf s7 q7=>?_)
  have again:∀ {Y7:St} {H7:Hp},Inv X (J++gP fp s5.heap) Y7 H7 s7->N Y7 H7->∃m,m < n/\∃i Y' H',Inv X J Y' H' s7/\tn i s7.heap/\(∀b∈fp,H' b=gV)/\W i m Y' H':=λ{Y7 H7} I7 n7=>by
   obtain⟨m',hm,w7⟩:=hN Y7 H7 n7;show#[m',hm,i+1,Y7,H7,I7.unpinned,T.keep _ _ _ st5 λb hb o e=>(I7.pin (b,o) (Hx _ (Hx _ (d6 hb e)))).1,λb hb=>?_,w7]
   obtain⟨o,e,d⟩:=T.obj _ _ st5 b hb;exact(I7.pin (b,o) (Hx _ (Hx _ (d6 hb e)))).2.1
  cases f with
  | next=>obtain⟨Y7,H7,I7,n7⟩:=q7; exact again I7 n7
  | cont=>obtain⟨Y7,H7,I7,n7⟩:=q7; exact again I7 n7
  | brk=>obtain⟨Y7,H7,I7,q7⟩:=q7; exact#[Y7,H7,I7.unpinned,q7]
  | ret v=>obtain⟨x7,Y7,H7,I7,r7,q7⟩:=q7; exact#[x7,Y7,H7,I7.unpinned,r7,q7]
end
noncomputable abbrev R2:=V->V->Hp->VK->Prop
abbrev OpR (X:Cx)(f:GM->GM->OP GM)(r:R2):Prop:=
 ∀(J:GK (GZ×ID)) (s:GQ) (Y:St) (H:Hp) (x y:V) (v u:GM) (Q:VK),Inv X J Y H s->RelV x v->RelV y u->r x y H Q->
  wpAny (model X.prog X.w) X.A (f v u) (EP X J Y Q) X.xe s
abbrev E8 (X:Cx)(f:GM->OP GM)(r:V->Hp->VK->Prop):Prop:=
 ∀(J:GK (GZ×ID)) (s:GQ) (Y:St) (H:Hp) (x:V) (v:GM) (Q:VK),Inv X J Y H s->RelV x v->r x H Q->
  wpAny (model X.prog X.w) X.A (f v) (EP X J Y Q) X.xe s
abbrev CallR (X:Cx)(f:GM)(r:GK V->Hp->VK->Prop):Prop:=
 ∀(J:GK (GZ×ID)) (s:GQ) (Y:St) (H:Hp) (xs:GK V) (us:GK GM) (Q:VK),Inv X J Y H s->Vals xs us->r xs H Q->
  wpAny (model X.prog X.w) X.A (call f us) (EP X J Y Q) X.xe s
abbrev E9 (X:Cx)(r:V->Hp->(Hr->Hp->Prop)->Prop):Prop:=
 ∀(J:GK (GZ×ID)) (s:GQ) (Y:St) (H:Hp) (x:V) (v:GM) (Q:Hr->Hp->Prop),Inv X J Y H s->RelV x v->r x H Q->
  wpAny (model X.prog X.w) X.A (truthy v) (TP X J Y Q) X.xe s
abbrev EJ (r:R2)(ta tb:TE):TE:=λY H Q=>ta Y H λx H1=>tb Y H1 λy H2=>r x y H2 Q
abbrev Gr (r:V->Hp->VK->Prop)(ta:TE):TE:=λY H Q=>ta Y H λx H1=>r x H1 Q
abbrev rI (C:G7->G7->Prop)(g:G7->G7->V):R2:=λx y H Q=>∃i j,x=.int i/\y=.int j/\C i j/\Q (g i j) H
abbrev zL (g:G7->G7->V):R2:=λx y H Q=>∃i j,x=.int i/\y=.int j/\Q (g i j) H
abbrev rU (g:G7->V):V->Hp->VK->Prop:=λx H Q=>∃i,x=.int i/\Q (g i) H
section
variable{X:Cx}{a b c:Hi}{ta tb tc:TE}{pos:Jt}
def AL (ha:PE X a ta)(hb:PE X b tb){J:GK (GZ×ID)}{s:GQ}{Y:St}{H:Hp}{R:V->V->Hp->Prop}(I:Inv X J Y H s)
  (h:ta Y H λx H1=>tb Y H1 λy H2=>R x y H2) {Q:GM->GQ->Prop} {f:GM->GM->OP GM}
  (hf:∀v u s2 x y H2,Inv X J Y H2 s2->RelV x v->RelV y u->R x y H2->wpAny (model X.prog X.w) X.A (f v u) Q X.xe s2) :
  wpAny (model X.prog X.w) X.A (eval a X.env) (λv s₁=>wpAny (model X.prog X.w) X.A (eval b X.env) (λu s₂=>wpAny (model X.prog X.w) X.A (f v u) Q X.xe s₂) X.xe s₁) X.xe s:=by
 show aT (ha J s Y H _ I h) λv s1 #[x,H1,I1,r1,q1]=>?_
 show aT (hb J s1 Y H1 _ I1 q1) λu s2 #[y,H2,I2,r2,q2]=>?_
 exact hf v u s2 x y H2 I2 r1 r2 q2
def C5 {op:Na}{r:R2}(ho:OpR X (binaryOp op) r)(ha:PE X a ta)(hb:PE X b tb):PE X (.BinOp a op b pos) (EJ r ta tb):=by
 intro J s Y H Q I h;exact wpAny_BinOp (AL ha hb I h λv u s2 x y H2 I2 rx ry q=>ho J s2 Y H2 x y v u Q I2 rx ry q)
def C6 {op:UnaryOp}{r:V->Hp->VK->Prop}(ho:E8 X (unaryOp op) r)(ha:PE X a ta):PE X (.UnaryOp op a pos) (Gr r ta):=by
 intro J s Y H Q I h;exact UnaryOp_ (aT (ha J s Y H _ I h) λv s1 #[x,H1,I1,r1,q1]=>ho J s1 Y H1 x v Q I1 r1 q1)
def EK {f:GM->GM->OP GM}{C:G7->G7->Prop}{g:G7->G7->G7}
  (rule:∀(i j:G7) (t u:Pq) (s:GQ) (Q:GM->GQ->Prop) (E:GM->GQ->Prop),C i j->Q (.int (g i j) s.toks) { s with toks:=s.toks+1 }->wpAny (model X.prog X.w) X.A (f (.int i t) (.int j u)) Q E s) :
  OpR X f (rI C λi j=>.int (g i j)):=by
 intro J s Y H x y v u Q I rx ry h;obtain⟨i,j,rfl,rfl,hc,q⟩:=h;obtain⟨t,rfl⟩:=rx;obtain⟨t',rfl⟩:=ry;exact rule i j t t' s _ _ hc #[.int (g i j),H,I.tok _,#[_,rfl],q]
def C7 {f:GM->GM->OP GM}{g:G7->G7->G7}
  (rule:∀(i j:G7) (t u:Pq) (s:GQ) (Q:GM->GQ->Prop) (E:GM->GQ->Prop),Q (.int (g i j) s.toks) { s with toks:=s.toks+1 }->wpAny (model X.prog X.w) X.A (f (.int i t) (.int j u)) Q E s) :
  OpR X f (zL λi j=>.int (g i j)):=by
 intro J s Y H x y v u Q I rx ry h;obtain⟨i,j,rfl,rfl,q⟩:=h;obtain⟨t,rfl⟩:=rx;obtain⟨t',rfl⟩:=ry;exact rule i j t t' s _ _ #[.int (g i j),H,I.tok _,#[_,rfl],q]
def xp {f:GM->GM->OP GM}{g:G7->G7->Hr}
  (rule:∀(i j:G7) (t u:Pq) (s:GQ) (Q:GM->GQ->Prop) (E:GM->GQ->Prop),Q (.bool (g i j)) s->wpAny (model X.prog X.w) X.A (f (.int i t) (.int j u)) Q E s) :
  OpR X f (zL λi j=>.bl (g i j)):=by
 intro J s Y H x y v u Q I rx ry h;obtain⟨i,j,rfl,rfl,q⟩:=h;obtain⟨t,rfl⟩:=rx;obtain⟨t',rfl⟩:=ry;exact rule i j t t' s _ _ #[.bl (g i j),H,I,rfl,q]
abbrev Fa (i j:G7):Prop:=0 < j/\j < 1073741824
abbrev Fb (i j:G7):Prop:=0<=j/\j<=1000000/\i.natAbs < 2 ^ 64
abbrev CMul (i j:G7):Prop:=(-(2 ^ 64) < i/\i < 2 ^ 64)\/(-(2 ^ 64) < j/\j < 2 ^ 64)
def CMul.ok {i j:G7}(h:CMul i j):IntMulOk i j:=by
 rcases h with⟨h1,h2⟩|⟨h1,h2⟩
 ·exact .of_left (Op h1 h2)
 ·exact .of_right (Op h1 h2)
def AM:OpR X (binaryOp .Add) (zL λi j=>.int (i+j)):=C7 λ_ _ _ _ _ _ _ q=>add_int q
def AN:OpR X (binaryOp .Sub) (zL λi j=>.int (i - j)):=C7 λ_ _ _ _ _ _ _ q=>sub_int q
def AO:OpR X (binaryOp .Mult) (rI CMul λi j=>.int (i*j)):=EK λ_ _ _ _ _ _ _ hc q=>mul_int q hc.ok
def xq:OpR X (binaryOp .FloorDiv) (rI Fa λi j=>.int (i / j)):=EK λi j _ _ _ _ _ hc q=>by
 have h1:(0:G7) < j:=hc.1;have h2:j < 1073741824:=hc.2;exact floordiv_int ∅ (by rw[Int.fdiv_eq_ediv_of_nonneg i ∅]; exact q) (.inl (PyProof.noPylong_small ∅))
def AQ:OpR X (binaryOp .Mod) (rI (λ_ j=>0 < j) λi j=>.int (i % j)):=EK λi j _ _ _ _ _ hc q=>by
 have h1:(0:G7) < j:=hc;exact mod_int' ∅ (by rw[Int.fmod_eq_emod_of_nonneg i ∅]; exact q)
def AR:OpR X (binaryOp .Pow) (rI Fb λi j=>.int (i ^ j.toNat)):=EK λ_ _ _ _ _ _ _ hc q=>pow_int_small hc.1 hc.2.1 hc.2.2 q
def Gs {f:GM->OP GM}{g:G7->G7}
  (rule:∀(i:G7) (t:Pq) (s:GQ) (Q:GM->GQ->Prop) (E:GM->GQ->Prop),Q (.int (g i) s.toks) { s with toks:=s.toks+1 }->wpAny (model X.prog X.w) X.A (f (.int i t)) Q E s) :
  E8 X f (rU λi=>.int (g i)):=by
 intro J s Y H x v Q I rx h;obtain⟨i,rfl,q⟩:=h;obtain⟨t,rfl⟩:=rx;exact rule i t s _ _ #[.int (g i),H,I.tok _,#[_,rfl],q]
def AS:E8 X (unaryOp .USub) (rU λi=>.int (-i)):=Gs λ_ _ _ _ _ q=>neg_int q
def oJ {J:GK (GZ×ID)}{Y:St}{H:Hp}{s:GQ}{Q:VK}{k k':Hr}(I:Inv X J Y H s)(q:Q (.bl k) H)(e:k=k'):EP X J Y Q (.bool k') s:=by
 subst e;exact#[.bl k,H,I,rfl,q]
def C8:OpR X (compareOp .Lt) (zL λi j=>.bl (decide (i < j))):=xp λ_ _ _ _ _ _ _ q=>lt_int q
def C9:OpR X (compareOp .LtE) (zL λi j=>.bl (decide (i<=j))):=xp λ_ _ _ _ _ _ _ q=>le_int q
def Da:OpR X (compareOp .Gt) (zL λi j=>.bl (decide (j < i))):=xp λ_ _ _ _ _ _ _ q=>gt_int q
def Db:OpR X (compareOp .GtE) (zL λi j=>.bl (decide (j<=i))):=xp λ_ _ _ _ _ _ _ q=>ge_int q
def rs:OpR X (compareOp .In) (λx y H Q=>∃i j,x=.str i/\y=.str j/\Q (.bl (!(Ks j i 0 j.length 1).isEmpty)) H):=by
 intro J s Y H x y v u Q I rx ry h;obtain⟨i,j,rfl,rfl,q⟩:=h;obtain⟨t,rfl⟩:=rx;obtain⟨t',rfl⟩:=ry;exact in_str (oJ I q rfl)
def AT:OpR X (compareOp .Is) (λx y H Q=>y=.non/\Q (.bl (decide (x=.non))) H):=by
 intro J s Y H x y v u Q I rx ry h;obtain⟨rfl,q⟩:=h;cases ry;show is_none_gen (oJ I q ?_);cases x <;> first
  | (cases rx; rfl)
  | (obtain⟨t,rfl⟩:=rx; rfl)
def xr:OpR X (compareOp .IsNot) (λx y H Q=>y=.non/\Q (.bl (!decide (x=.non))) H):=by
 intro J s Y H x y v u Q I rx ry h;obtain⟨rfl,q⟩:=h;cases ry;show isnot_none_gen (oJ I q ?_);cases x <;> first
  | (cases rx; rfl)
  | (obtain⟨t,rfl⟩:=rx; rfl)
def xt {op:NP}{r:R2}(ho:OpR X (compareOp op) r)(ha:PE X a ta)(hb:PE X b tb)(hm:behindInMarks op b=false):PE X (.Compare a [op] [b] pos) (EJ r ta tb):=by
 intro J s Y H Q I h;exact wpAny_Compare1 (AL ha hb I h λv u s2 x y H2 I2 rx ry q=>ho J s2 Y H2 x y v u Q I2 rx ry q) hm
abbrev zM (t:TE):TT:=λY H Q=>t Y H λx H'=>∃k,x=.bl k/\Q k H'
def xu {op:NP}{r:R2}(ho:OpR X (compareOp op) r)(ha:PE X a ta)(hb:PE X b tb)(hm:behindInMarks op b=false):PT X (.Compare a [op] [b] pos) (zM (EJ r ta tb)):=by
 intro J s Y H Q I h;show wpAny_isTrue_Compare1 (aT (ha J s Y H _ I h) λv s1 #[x,H1,I1,r1,q1]=>aT (hb J s1 Y H1 _ I1 q1) λu s2 #[y,H2,I2,r2,q2]=>
  aT (ho J s2 Y H2 x y v u _ I2 r1 r2 q2) λc s3 #[z,H3,I3,r3,k,e,q3]=>?_) hm
 subst e;cases r3;exact IC #[H3,I3,q3]
abbrev oK (r r':R2)(ta tb tc:TE):TE:=λY H Q=>ta Y H λx H1=>tb Y H1 λy H2=>r x y H2 λz H3=>∃k,z=.bl k/\
 (if k=true then tc Y H3 λw' H4=>r' y w' H4 Q else Q (.bl false) H3)
def sX {op op':NP}{r r':R2}(ho:OpR X (compareOp op) r)(ho':OpR X (compareOp op') r')(ha:PE X a ta)(hb:PE X b tb)(hc:PE X c tc)
  (hm:lastMarks [op,op'] [b,c]=false:=by with_unfolding_all rfl):PE X (.Compare a [op,op'] [b,c] pos) (oK r r' ta tb tc):=by
 intro J s Y H Q I h;show Compare_chain (aT (ha J s Y H _ I h) λv s1 #[x,H1,I1,r1,q1]=>chain_link (aT (hb J s1 Y H1 _ I1 q1) λu s2 #[y,H2,I2,r2,q2]=>
  aT (ho J s2 Y H2 x y v u _ I2 r1 r2 q2) λd s3 #[z,H3,I3,r3,k,e,q3]=>?_)) hm
 subst e;cases r3;show IC ?_;cases k with
 | false=>exact ite_ff #[.bl false,H3,I3,rfl,q3]
 | true=>exact ite_tt (chain_last (aT (hc J s3 Y H3 _ I3 q3) λw' s4 #[z',H4,I4,r4,q4]=>ho' J s4 Y H4 y z' u w' Q I4 r2 r4 q4))
def sY {op op':NP}{r r':R2}(ho:OpR X (compareOp op) r)(ho':OpR X (compareOp op') r')(ha:PE X a ta)(hb:PE X b tb)(hc:PE X c tc)
  (hm:lastMarks [op,op'] [b,c]=false:=by with_unfolding_all rfl):PT X (.Compare a [op,op'] [b,c] pos) (zM (oK r r' ta tb tc)):=by
 intro J s Y H Q I h;show isTrue_chain (aT (ha J s Y H _ I h) λv s1 #[x,H1,I1,r1,q1]=>test_link (aT (hb J s1 Y H1 _ I1 q1) λu s2 #[y,H2,I2,r2,q2]=>
  aT (ho J s2 Y H2 x y v u _ I2 r1 r2 q2) λd s3 #[z,H3,I3,r3,k,e,q3]=>?_)) hm
 subst e;cases r3;show IC ?_;cases k with
 | false=>
  obtain⟨k',e',q'⟩:=q3;cases e';exact ite_ff #[H3,I3,q']
 | true=>
  show ite_tt (test_last (aT (hc J s3 Y H3 _ I3 q3) λw' s4 #[z',H4,I4,r4,q4]=>aT (ho' J s4 Y H4 y z' u w' _ I4 r2 r4 q4) λd' s5 #[z2,H5,I5,r5,k2,e2,q5]=>?_))
  subst e2;cases r5;exact IC #[H5,I5,q5]
abbrev Fc (K:G0)(x:V)(H:Hp)(k:Hr):Prop:=
 match x with
 | .non=>k=false
 | .bl b=>k=b
 | .int i=>k=(i != 0)
 | .str y=>y.length<=sizeLine/\k=((y.length:G7) != 0)
 | .byt y=>y.size<=sizeLine/\k=((y.size:G7) != 0)
 | .ref p=>(∃xs,SqL K H p xs/\k = !xs.isEmpty)\/(∃xs,SqT K H p xs/\k = !xs.isEmpty)\/∃U,H p=ba (.dK U)/\k = !U.isEmpty
 | _=>Iq
def oM {κ:Type}{U:GK (κ×V)}{vs:GK (κ×GM)}(r:KV U vs):(!vs.isEmpty) = !U.isEmpty:=by
 cases r <;> rfl
def iU {xs:GK V}{its:GK GM}(r:Vals xs its):(!its.toArray.isEmpty) = !xs.isEmpty:=by
 cases r <;> simp
def gQ:(sizeLine:GX) < 2 ^ 63:=by rw[HV]; decide
def AU:E9 X (λx H Q=>∃k,Fc X.K x H k/\Q k H):=by
 intro J s Y H x v Q I rx h;obtain⟨k,e,q⟩:=h;have hl:=gQ;have hs:sizeLine=16777216:=HV;cases x with
 | non=>
  cases rx;have e':k=false:=e;subst e';exact truthy_none #[H,I,q]
 | bl b=>
  cases rx;have e':k=b:=e;subst e';exact IC #[H,I,q]
 | int i=>
  obtain⟨t,rfl⟩:=rx;have e':k=(i != 0):=e;subst e';exact PySem.P.truthy_int #[H,I,q]
 | str y=>
  obtain⟨t,rfl⟩:=rx;obtain⟨hy,e'⟩ : y.length<=sizeLine/\k=((y.length:G7) != 0):=e;subst e';exact PySem.P.truthy_str ∅ #[H,I.tok _,q]
 | byt y=>
  obtain⟨t,rfl⟩:=rx;obtain⟨hy,e'⟩ : y.size<=sizeLine/\k=((y.size:G7) != 0):=e;subst e';exact PySem.W.truthy_bytes ∅ #[H,I.tok _,q]
 | ref p=>
  cases rx;have e':(∃xs,SqL X.K H p xs/\k = !xs.isEmpty)\/(∃xs,SqT X.K H p xs/\k = !xs.isEmpty)\/∃U,H p=ba (.dK U)/\k = !U.isEmpty:=e;rcases e' with⟨xs,hx,e'⟩|⟨xs,hx,e'⟩|⟨U,hx,e'⟩
  ·subst e';obtain⟨its,r,pl,hz⟩:=I.list hx;have hlen:=r.length;exact wpAny_truthy_list pl.isList (by simp only[G6]; omega) #[H,I.tok _,by rw[iU r]; exact q]
  ·subst e';obtain⟨its,r,pl,hz⟩:=I.tuple hx;have hlen:=r.length;exact truthy_tuple pl (by simp only[G6]; omega) #[H,I.tok _,by rw[iU r]; exact q]
  ·subst e';obtain⟨hz,hS,vs,r,m⟩ : U.length<=sizeLine/\(p==sysModules)=false/\∃vs,KV U vs/\s.heap.DictOf (kN X.prog X.w) p vs:=I.hok p _ hx;have hlen:U.length=vs.length:=Lr r;exact wpAny_truthy_dict hS m ∅ #[H,I.tok _,by rw[oM r]; exact q]
 | _=>exact(show Iq from e).elim
def oN:OpR X (binaryOp .Add) (λx y H Q=>∃i j,x=.str i/\y=.str j/\i.length+j.length<=sizeLine/\Q (.str (i++j)) H):=by
 intro J s Y H x y v u Q I rx ry h;obtain⟨i,j,rfl,rfl,hz,q⟩:=h;obtain⟨t,rfl⟩:=rx;obtain⟨t',rfl⟩:=ry;exact add_str (λt' tk=>#[.str (i++j),H,I.tok _,#[_,rfl],q]) hz
def iV {x:V}{us:GK GM}(r:Vals [x] us):∃u,us=[u]/\RelV x u:=by
 cases r with
 | cons r1 r2=>cases r2; exact#[_,rfl,r1]
def sZ:CallR X (.builtin "abs") (λxs H Q=>∃i,xs=[.int i]/\Q (.int (if i < 0 then -i else i)) H):=by
 intro J s Y H xs us Q I r h;obtain⟨i,rfl,q⟩:=h;obtain⟨u,rfl,t,rfl⟩:=iV r;exact call_abs_int λu tk=>#[.int (if i < 0 then -i else i),H,I.tok _,#[_,rfl],q]
def jL:CallR X (.type "int") (λxs H Q=>(∃i,xs=[.int i]/\Q (.int i) H)\/∃k,xs=[.bl k]/\Q (.int (if k then 1 else 0)) H):=by
 intro J s Y H xs us Q I r h;rcases h with⟨i,rfl,q⟩|⟨k,rfl,q⟩
 ·obtain⟨u,rfl,t,rfl⟩:=iV r;exact call_int_int #[.int i,H,I,#[_,rfl],q]
 ·obtain⟨u,rfl,r1⟩:=iV r;cases r1;exact call_int_bool #[.int (if k then 1 else 0),H,I.tok _,#[_,rfl],q]
abbrev Fd (K:G0)(x:V)(H:Hp)(n:GX):Prop:=
 match x with
 | .str y=>y.length<=sizeLine/\n=y.length
 | .byt y=>y.size<=sizeLine/\n=y.size
 | .ref p=>(∃xs,SqL K H p xs/\n=xs.length)\/∃xs,SqT K H p xs/\n=xs.length
 | _=>Iq
def iW:CallR X (.builtin "len") (λxs H Q=>∃x n,xs=[x]/\Fd X.K x H n/\Q (.int n) H):=by
 intro J s Y H xs us Q I r h;obtain⟨x,n,rfl,e,q⟩:=h;obtain⟨u,rfl,rx⟩:=iV r;have hl:=gQ;have hs:sizeLine=16777216:=HV;cases x with
 | str y=>
  obtain⟨t,rfl⟩:=rx;obtain⟨hy,e'⟩ : y.length<=sizeLine/\n=y.length:=e;subst e';exact len_str ∅ #[.int _,H,I.tok _,#[_,rfl],q]
 | byt y=>
  obtain⟨t,rfl⟩:=rx;obtain⟨hy,e'⟩ : y.size<=sizeLine/\n=y.size:=e;subst e';exact PySem.W.len_bytes ∅ #[.int _,H,I.tok _,#[_,rfl],q]
 | ref p=>
  cases rx;have e':(∃xs,SqL X.K H p xs/\n=xs.length)\/∃xs,SqT X.K H p xs/\n=xs.length:=e;rcases e' with⟨xs,hx,e'⟩|⟨xs,hx,e'⟩
  ·subst e';obtain⟨its,r',pl,hz⟩:=I.list hx;have hlen:=r'.length;exact Calls.call_len_list pl.isList (by simp only[G6]; omega) #[.int xs.length,H,I.tok _,#[_,by simp only[G6]; rw[hlen]],q]
  ·subst e';obtain⟨its,r',pl,hz⟩:=I.tuple hx;have hlen:=r'.length;exact len_tuple pl (by simp only[G6]; omega) #[.int xs.length,H,I.tok _,#[_,by simp only[G6]; rw[hlen]],q]
 | _=>exact(show Iq from e).elim
end
structure Room (k:GX)(A:Hy):Prop where
 hd:A.handled=gV
 dp:A.depth+3*k+5 < recursionLimit
 un:A.units+16*k+200 < cLine
def Room.deeper {k:GX}{A:Hy}(r:Room (k+1) A)(env:M7):Room k (A.deeper env):=
 #[r.hd,by have:=r.dp; show A.depth+1+3*k+5 < _; omega,by have:=r.un; show A.units+3+16*k+200 < _; omega]
def Room.depth {k:GX}{A:Hy}(r:Room k A):A.depth < recursionLimit:=by have:=r.dp; omega
abbrev Dc:TA:=λ_ H Q=>Q [] H
abbrev De (ta:TE)(tr:TA):TA:=λY H Q=>ta Y H λx H1=>tr Y H1 λxs H2=>Q (x::xs) H2
section
variable{X:Cx}{e:Hi}{es:GK Hi}{te:TE}{t:TA}{pos:Jt}
def tf:PA X [] Dc:=λ_ _ _ _ H Q I h=>Calls.spliced_nil #[[],H,I,.nil,h]
def kQ (ha:PE X e te)(hr:PA X es t)(hs:starEach (e::es) X.env=(false,eval e X.env)::starEach es X.env:=by rfl):PA X (e::es) (De te t):=by
 intro pos J s Y H Q I h;rw[hs];change wpAny _ _ (spliced ((false,eval e X.env)::backTo pos (starEach es X.env))) _ _ s;show Calls.spliced_cons (aT (ha J s Y H _ I h) λu s1 #[x,H1,I1,r1,q1]=>?_)
 exact aT (hr pos J s1 Y H1 _ I1 q1) λus s2 #[xs,H2,I2,r2,q2]=>#[x::xs,H2,I2,.cons r1 r2,q2]
abbrev Fe (t:TA):TE:=λY H Q=>t Y H λxs H1=>xs.length<=sizeLine/\∀p,H1 p=gV->Q (.ref p) (be H1 p (.tup xs))
abbrev Ff (t:TA):TE:=λY H Q=>t Y H λxs H1=>xs.length<=sizeLine/\∀p,H1 p=gV->Q (.ref p) (be H1 p (.lst xs))
def AV {x1}(h:PA X es t):PE X (.Tuple es x1 pos) (Fe t):=by
 intro J s Y H Q I hq;show wpAny_Tuple_spliced (aT (h pos J s Y H _ I hq) λus s1 #[xs,H1,I1,r,z,q]=>#[by rw[<- r.length]; exact z,?_])
 have hf:H1 s1.heap.objs.size=gV:=I1.hok.fresh (G2 _);show#[.ref s1.heap.objs.size,be H1 s1.heap.objs.size (.tup xs),I1.laid (t':=s1.toks) (λb u e=>GN _ e) (G2 _) ?_,rfl,q _ hf]
 exact#[z,us,r,#[_,G4 _ rfl,rfl,_,rfl]]
def AW (h:PA X es t):PE X (.List es pos) (Ff t):=by
 intro J s Y H Q I hq;show wpAny_List_spliced (aT (h pos J s Y H _ I hq) λus s1 #[xs,H1,I1,r,z,q]=>#[by rw[<- r.length]; exact z,?_])
 have hf:H1 s1.heap.objs.size=gV:=I1.hok.fresh (G2 _);show#[.ref s1.heap.objs.size,be H1 s1.heap.objs.size (.lst xs),I1.laid (t':=s1.toks) (λb u e=>GN _ e) (G2 _) ?_,rfl,q _ hf]
 exact#[z,us,0,r,G4 _ rfl]
end
noncomputable abbrev Sp:=GK V->Hp->VK->XK->Prop
noncomputable abbrev tj:=GK M7->Hp->GQ->XK->GM->GQ->Prop
structure Env0 (P:Hs)(w:HA)(K:G0)(mg:Ha->GR GM)(base:HQ)(A:Hy)(outer:GK M7)(s:GQ)(H:Hp):Prop where
 frames:A.frames=ba outer
 mod:Mod K mg base
 bs:∀b o,base.get? b=ba o->s.heap.get? b=ba o/\H b=gV
 bsz:base.objs.size<=s.heap.objs.size
 funs:s.heap.FunFrames base outer
 frf:∀b∈oG outer,H b=gV
 hok:HOk P w H s.heap
 bare:Ln s.gens
abbrev CE (outer:GK M7)(P:Hs)(w:HA)(H:Hp)(s:GQ)(Q:VK)(u:GM)(s':GQ):Prop:=
 ∃v H',s'.os=s.os/\Ln s'.gens/\Un (oG outer) [] H H' s.heap s'.heap/\HOk P w H' s'.heap/\RelV v u/\Q v H'
abbrev CR (CX:tj)(outer:GK M7)(P:Hs)(w:HA)(H:Hp)(s:GQ)(Q:VK)(E:XK)(r:Nx)(s':GQ):Prop:=
 match r with
 | .ok (.ret u)=>CE outer P w H s Q u s'
 | .ok _=>Iq
 | .error e=>CX outer H s E e s'
structure FnOk (P:Hs)(w:HA)(K:G0)(mg:Ha->GR GM)(base:HQ)(CX:tj)(k:GX)(f:GZ)(fd:JB)(ps:GK Ha)(sp:Sp):Prop where
 len:∀vs H Q E,sp vs H Q E->vs.length=ps.length
 run:∀(A:Hy) (outer:GK M7) (s:GQ) (H:Hp) (args:Args) (us:GK GM) (vs:GK V) (Q:VK) (E:XK),Room k A->Env0 P w K mg base A outer s H->Nb s fd args (ps.zip us)->Vals vs us->sp vs H Q E->
  codeAny (model P w) A (.call (.ref f) args) (CR CX outer P w H s Q E) s
section
variable{X:Cx}{J:GK (GZ×ID)}{Y:St}{H:Hp}{s s':GQ}
def Inv.env0 (I:Inv X J Y H s):Env0 X.prog X.w X.K X.mg X.base X.A X.stack s H:=
 #[I.ok.frames,I.ok.mod,I.bs,Hz I.ok.bsz I.sz,I.stack,I.stkFree,I.hok,I.bare]
def Inv.after {Q:VK}{u:GM}(I:Inv X J Y H s)(h:CE X.stack X.prog X.w H s Q u s'):EP X J Y Q u s':=by
 obtain⟨v,H',os,bare,un,hok,r,q⟩:=h;obtain⟨hh,g,d,t,os'⟩:=s';obtain rfl:os'=s.os:=os;exact#[v,H',I.call (h':=hh) (g':=g) (d':=d) (t':=t) (ch:=[]) un hok bare (λb z=>absurd z (by simp)),r,q]
end
abbrev tm (sp:Sp)(dvs:GK V)(E:XK)(t:TA):TE:=λY H Q=>t Y H λvs H1=>sp (vs++dvs) H1 Q E
abbrev Binds (K:G0)(fd:JB)(ps:GK Ha)(ds:GK GM):Prop:=
 ∀(s:GQ) (us:GK GM),K.In s.heap->(us++ds).length=ps.length->Nb s fd #[us,[]] (ps.zip (us++ds))
def Binds.all {K:G0}{fd:JB}{ps:GK Ha}(h:∀us:GK GM,us.length=ps.length->bindArgs fd #[us,[]]=pure (ps.zip us)):Binds K fd ps []:=λs us _ hl=>by
 rw[Jq]at hl ⊢;exact .of_eq (h us hl)
abbrev kR (CX:tj)(X:Cx)(E:XK):Prop:=∀(J:GK (GZ×ID)) (Y:St) (H:Hp) (s:GQ) (e:GM) (s':GQ),Inv X J Y H s->CX X.stack H s E e s'->X.xe e s'
section
variable{X:Cx}{CX:tj}{k:GX}{f C:GZ}{fd:JB}{ps:GK Ha}{sp:Sp}{dvs:GK V}{ds:GK GM}{E:XK}{x m:Ha}{p pos apos:Jt}{e o:Hi}{es:GK Hi}{ta:TE}{t:TA}
def tq {J:GK (GZ×ID)}{Y:St}{H:Hp}{s:GQ}{Q:VK}{us:GK GM}{vs:GK V}(F:FnOk X.prog X.w X.K X.mg X.base CX k f fd ps sp)(hr:Room k X.A)(hb:Binds X.K fd ps ds)(hd:Vals dvs ds)(hx:kR CX X E)
  (I:Inv X J Y H s) (r:Vals vs us) (h:sp (vs++dvs) H Q E):wpAny (model X.prog X.w) X.A (call (.ref f) us) (EP X J Y Q) X.xe s:=by
 have r2:Vals (vs++dvs) (us++ds):=r.append hd;have hl:(us++ds).length=ps.length:=by rw[<- r2.length]; exact F.len _ _ _ _ h
 show wpAny_call (Kx (F.run X.A X.stack s H #[us,[]] (us++ds) (vs++dvs) Q E hr I.env0 (hb s us I.kIn hl) r2 h) λr s' hq=>?_)
 cases r with
 | error e=>exact hx J Y H s e s' I hq
 | ok fl=>
  cases fl with
  | ret u=>exact I.after hq
  | next=>exact Iq.elim hq
  | brk=>exact Iq.elim hq
  | cont=>exact Iq.elim hq
def xv (F:FnOk X.prog X.w X.K X.mg X.base CX k f fd ps sp)(hr:Room k X.A)(hg:Gl X x)(hm:X.mg x=ba (.ref f))(hk:Iz X.K (.ref f)=true)(hb:Binds X.K fd ps ds)(hd:Vals dvs ds)(hx:kR CX X E)
  (ha:PA X (e::es) t) (hdb:(x==("__debug__" : Ha))=false:=by decide) (he:starEach (e::es) X.env=(false,eval e X.env)::starEach es X.env:=by rfl) (hpl:(backTo pos (starEach es X.env)).any (·.1)=false:=by rfl) :
  PE X (.Call (.Name x p) (e::es) [] pos) (tm sp dvs E t):=by
 intro J s Y H Q I h;show Ko (kP I hg hm ?_ hdb);show PySem.W.callWith_K (h₀:=X.base) I.ok.mod.kin hk (aT (ha pos J s Y H _ I h) λus s1 #[vs,H1,I1,r,q]=>#[I1.kIn,?_]) he hpl
 exact tq F hr hb hd hx I1 r q
def tt (F:FnOk X.prog X.w X.K X.mg X.base CX k f fd ps sp)(hr:Room k X.A)(hg:Gl X x)(hm:X.mg x=ba (.ref f))(hk:Iz X.K (.ref f)=true)(hb:Binds X.K fd ps ds)(hd:Vals dvs ds)(hx:kR CX X E)
  (hdb:(x==("__debug__" : Ha))=false:=by decide):PE X (.Call (.Name x p) [] [] pos) (tm sp dvs E Dc):=by
 intro J s Y H Q I h;show Ko (kP I hg hm ?_ hdb);exact PySem.W.callWith_K0 I.kIn hk (tq (us:=[]) F hr hb hd hx I .nil h)
end
structure FnScope (N P:GK Ha)(sc:J4):Prop where
 kind:sc.kind=.function
 co:sc.isCoroutine=false
 gen:sc.isGenerator=false
 nd:N.Nodup
 pre:N.take P.length=P
 par:∀x∈P,sc.names.lookup x=ba .local\/sc.names.lookup x=ba .cell
 nofree:∀y∈sc.names,y.2≠.free
def jM {kindOf:Ha->GR IT}{x:Ha}:∀ {binds:GK (Ha×GM)} {m:Ha->GR GM},(∀v,(x,v)∉binds)->bindL kindOf binds m x=m x
 | [],_,_=>rfl
 | (n,v)::r,m,h=>by
  unfold bindL;rw[jM λw hw=>h w (HS _ hw)]
  split
  ·have:x≠n:=by rintro rfl; exact h v Ik
   simp[this]
  ·rfl
def jN {kindOf:Ha->GR IT}{x:Ha}:∀ {binds:GK (Ha×GM)} {m:Ha->GR GM},(∀v,(x,v)∉binds)->bindC kindOf binds m x=m x
 | [],_,_=>rfl
 | (n,v)::r,m,h=>by
  unfold bindC;rw[jN λw hw=>h w (HS _ hw)]
  split
  ·rfl
  ·have:x≠n:=by rintro rfl; exact h v Ik
   simp[this]
def jO {kindOf:Ha->GR IT}{x:Ha}{v:GM}:∀ {P:GK Ha} {vs:GK GM} {i:GX} {m:Ha->GR GM},P.Nodup->P[i]?=ba x->vs[i]?=ba v->kindOf x=ba .local->
  bindL kindOf (P.zip vs) m x=ba v
 | [],_,_,_,_,h,_,_=>by simp at h
 | _::_,[],_,_,_,_,h,_=>by simp at h
 | p::P,w::vs,0,m,nd,h1,h2,hk=>by
  simp at h1 h2; subst h1; subst h2
  change bindL kindOf ((p,w)::P.zip vs) m p=_;unfold bindL;rw[jM λv hv=>(JH.mp nd).1 (LV hv).1,Hk hk]
  simp
 | p::P,w::vs,i+1,m,nd,h1,h2,hk=>by
  change bindL kindOf ((p,w)::P.zip vs) m x=_;unfold bindL;exact jO (i:=i) (JH.mp nd).2 (by simpa using h1) (by simpa using h2) hk
def jP {kindOf:Ha->GR IT}{x:Ha}{v:GM}:∀ {P:GK Ha} {vs:GK GM} {i:GX} {m:Ha->GR GM},P.Nodup->P[i]?=ba x->vs[i]?=ba v->kindOf x≠ba .local->
  bindC kindOf (P.zip vs) m x=ba v
 | [],_,_,_,_,h,_,_=>by simp at h
 | _::_,[],_,_,_,_,h,_=>by simp at h
 | p::P,w::vs,0,m,nd,h1,h2,hk=>by
  simp at h1 h2; subst h1; subst h2
  change bindC kindOf ((p,w)::P.zip vs) m p=_;unfold bindC;rw[jN λv hv=>(JH.mp nd).1 (LV hv).1,Hu hk]
  simp
 | p::P,w::vs,i+1,m,nd,h1,h2,hk=>by
  change bindC kindOf ((p,w)::P.zip vs) m x=_;unfold bindC;exact jP (i:=i) (JH.mp nd).2 (by simpa using h1) (by simpa using h2) hk
abbrev eG (N:GK Ha)(vs:GK V):St:=vs.map ba++HB (N.length - vs.length) gV
abbrev oO (CX:tj)(P:Hs)(w:HA)(K:G0)(mg:Ha->GR GM)(base:HQ)(N:GK Ha)(qual:Ha)(scope:J4)(f:GZ)(cd:GM)(A:Hy)(outer:GK M7)(s:GQ)(H:Hp)(E:XK):Cx where
 prog:=P
 w:=w
 K:=K
 mg:=mg
 base:=base
 A:=A.deeper (envOfC qual scope s.heap.objs.size f cd)
 N:=N
 s₀:=s
 H₀:=H
 env:=envOfC qual scope s.heap.objs.size f cd
 outer:=outer
 stack:=envOfC qual scope s.heap.objs.size f cd::outer
 ex:=[]
 calm:=true
 fn:=λ_=>true
 pn:=[]
 xe:=λe s'=>wpAny (model P w) (A.deeper (envOfC qual scope s.heap.objs.size f cd)) (leaving (envOfC qual scope s.heap.objs.size f cd) e) (λ_ s''=>CX outer H s E e s'') (λe' s''=>CX outer H s E e' s'') s'
def my {sc:J4}{n:GX}{x:Ha}(h:sc.names.lookup x=ba .cell):∃c,(cellsFrom n sc.names []).lookup x=ba c:=by
 have q:=LL sc.names n [] (.inl h);exact Ih.mp q
def rz {CX:tj}{P:Hs}{w:HA}{K:G0}{mg:Ha->GR GM}{base:HQ}{N ps:GK Ha}{qual:Ha}{scope:J4}{f:GZ}{cd:GM}{A:Hy}{outer:GK M7}{s s1:GQ}{H:Hp}{E:XK}{us:GK GM}{vs:GK V}
  (S:FnScope N ps scope) (hd:A.handled=gV) (e0:Env0 P w K mg base A outer s H) (hl:vs.length=ps.length) (r:Vals vs us)
  (x:InCallC s s.heap.objs.size (bindL (envOfC qual scope s.heap.objs.size f cd).kindOf (ps.zip us) λ_=>gV) (cellsFrom (s.heap.objs.size+1) scope.names []) (bindC (envOfC qual scope s.heap.objs.size f cd).kindOf (ps.zip us) λ_=>gV) s1) :
  Inv (oO CX P w K mg base N qual scope f cd A outer s H E) [] (eG N vs) H s1:=by
 have hpl:ps.length<=N.length:=by have:=congrArg OR S.pre; rw[Im]at this; omega
 obtain⟨h1,tk,rfl,hk⟩:=x.done;have noA:∀b:GZ,b∉(oO CX P w K mg base N qual scope f cd A outer s H E).ex:=λb z=>absurd (show b∈([]:GK GZ)from z) (by simp)
 show#[#[e0.mod,S.kind,rfl,rfl,G2 _,λy z c h1 h2=>?_,λy hy=>?_,λy c _ h=>?_,λ_=>hd,Around.frames_deeper e0.frames,.inr #[rfl,rfl],λb z=>absurd z (noA b),e0.bs,e0.bsz,λb _ _=>noA b,λb z=>absurd z (noA b),e0.funs,e0.frf],
  rfl,e0.bare,Un.kept hk,#[_,x.toInCall.ns,λi y v h1 h2 h3=>?_],λy c h=>#[_,x.cell y c h],e0.hok.fresh (G2 _),λy c h=>?_,λp hp=>absurd (show p∈([]:GK (GZ×ID))from hp) (by simp),e0.hok.kept hk,?_]
 ·exact name_of_addr x.apart (JP h1) (JP h2)
 ·have hy:scope.names.lookup y=ba .cell\/scope.names.lookup y=ba .free:=hy;rcases hy with hy|hy
  ·exact my hy
  ·exact absurd rfl (S.nofree _ (JP hy))
 ·exact Kw (x.above y c (JP h))
 ·have hi:i < vs.length:=by
   unfold eG at h2
   by_cases hi:i < vs.length
   ·exact hi
   ·rw[JC (by simpa using hi)]at h2
    rw[List.getElem?_replicate]at h2;split at h2 <;> cases h2
  have ha:vs[i]?=ba v:=by
   unfold eG at h2;rw[HL (by simpa using hi),G1]at h2
   cases e:vs[i]? with
   | none=>rw[e]at h2; cases h2
   | some a=>rw[e]at h2; cases h2; rfl
  obtain⟨u,hu,rv⟩:=r.get ha;have hp:ps[i]?=ba y:=by
   rw[<- S.pre,Ls ∅]; exact h1
  have ndP:ps.Nodup:=by rw[<- S.pre]; exact S.nd.sublist (Nc _ _)
  show#[u,rv,?_];rcases S.par y (He hp)with k|k
  ·exact .inl #[k,jO ndP hp hu k]
  ·obtain⟨c,e⟩:=my (n:=s.heap.objs.size+1) k;show .inr #[.inl k,c,e,?_];have q:=x.cell y c e;rw[jP ndP hp hu (by change scope.names.lookup y≠_; rw[k]; decide)]at q
   exact q
 ·exact e0.hok.fresh (Kw (x.above y c (JP h)))
 ·unfold eG;change _=N.length;rw[G3,GU,L7];omega
def Dg {CX:tj}{P:Hs}{w:HA}{K:G0}{mg:Ha->GR GM}{base:HQ}{k:GX}{f:GZ}{name qual:Ha}{params:Arguments}{body:GK JO}{scope:J4}{dV kV doc pm cdv ct oc:GM}{an od:GR GZ}
  {osl:HD (GR GM)} {N ps:GK Ha} {sp:Sp} (lk:K.lookup f=ba #[oc,od,.func (Jf name qual params body scope dV kV doc pm an cdv ct),osl]) (hcd:JT K cdv qual=true) (S:FnScope N ps scope)
  (len:∀vs H Q E,sp vs H Q E->vs.length=ps.length)
  (hbody:∀(A:Hy) (outer:GK M7) (s:GQ) (H:Hp) (vs:GK V) (Q:VK) (E:XK),Room k (A.deeper (envOfC qual scope s.heap.objs.size f cdv))->sp vs H Q E->
   ∃t,PSs (oO CX P w K mg base N qual scope f cdv A outer s H E) body t/\t { nx:=λ_ H'=>Q .non H',rt:=Q } (eG N vs) H) :
  FnOk P w K mg base CX (k+1) f (Jf name qual params body scope dV kV doc pm an cdv ct) ps sp:=by
 show#[len,λA outer s H args us vs Q E hr e0 hb r hsp=>?_]
 have hl:=len _ _ _ _ hsp;have KX:K.In s.heap:=e0.mod.kin.keeps λb o e=>(e0.bs b o e).1
 have lim:s.heap.NoLimit:=e0.mod.nolimit.keeps λb o e=>(e0.bs b o e).1
 have hkind:∀y∈ps.zip us,scope.names.lookup y.1=ba .local\/(scope.names.lookup y.1=ba .cell/\((cellsFrom (s.heap.objs.size+1) scope.names []).lookup y.1).isSome=true):=λ#[n,v] hy=>by
  rcases S.par n (LV hy).1 with q|q
  ·exact .inl q
  ·exact .inr #[q,LL _ _ _ (.inl q)]
 show codeAny_call_function hr.depth (KX _ _ lk) rfl S.co S.gen rfl (PySem.W.codeRec_of KX hcd) (hb _ _ _ _ ?_);show wpAny_newFunctionEnv_cells S.kind hkind λenv he s1 x=>?_
 subst he;show#[lim.keeps x.toInCall.keep,codeAny_func ?_];obtain⟨t,ht,hq⟩:=hbody A outer s H vs Q E (hr.deeper _) hsp;have I:Inv (oO CX P w K mg base N qual scope f cdv A outer s H E) [] (eG N vs) H s1:=rz S hr.hd e0 hl r x;show IV (ht [] s1 (eG N vs) H _ I hq) (λfl s' hs=>?_) λe s' hs=>hs
 have fin:∀ {Y':St} {H':Hp} {v:V} {u:GM},Inv (oO CX P w K mg base N qual scope f cdv A outer s H E) [] Y' H' s'->RelV v u->Q v H'->CE outer P w H s Q u s':=
  λ{Y' H' v u} td rv q=>#[v,H',td.os,td.bare,td.base,td.hok,rv,q]
 cases fl with
 | ret u=>
  obtain⟨v,Y',H',td,rv,q⟩:=hs;exact fin td rv q
 | next=>
  obtain⟨Y',H',td,q⟩:=hs;exact fin (v:=V.non) (u:=Ic) td rfl q
 | brk=>
  obtain⟨_,_,_,q⟩:=hs;exact Iq.elim q
 | cont=>
  obtain⟨_,_,_,q⟩:=hs;exact Iq.elim q
section
variable{X:Cx}{x:Ha}{p pos:Jt}{e:Hi}{es:GK Hi}{t:TA}{id T:Iw}{r:GK V->Hp->VK->Prop}
abbrev Ga (r:GK V->Hp->VK->Prop)(t:TA):TE:=λY H Q=>t Y H λvs H1=>r vs H1 Q
def mz (hc:CallR X (.builtin id) r)(hg:Gl X x)(hm:X.mg x=gV)(hv:bootBuiltins x=ba (.builtin id))(ha:PA X (e::es) t)(hn:x≠"__name__":=by decide)(hdb:(x==("__debug__" : Ha))=false:=by decide)
  (he:starEach (e::es) X.env=(false,eval e X.env)::starEach es X.env:=by rfl) (hpl:(backTo pos (starEach es X.env)).any (·.1)=false:=by rfl):PE X (.Call (.Name x p) (e::es) [] pos) (Ga r t):=by
 intro J s Y H Q I h;show Ko (fI I hg hm hv ?_ hn hdb);exact Ny (aT (ha pos J s Y H _ I h) λus s1 #[vs,H1,I1,r1,q1]=>hc J s1 Y H1 vs us Q I1 r1 q1) he hpl
def rA (hc:CallR X (.type T) r)(hg:Gl X x)(hm:X.mg x=gV)(hv:bootBuiltins x=ba (.type T))(ha:PA X (e::es) t)(hn:x≠"__name__":=by decide)(hdb:(x==("__debug__" : Ha))=false:=by decide)
  (he:starEach (e::es) X.env=(false,eval e X.env)::starEach es X.env:=by rfl) (hpl:(backTo pos (starEach es X.env)).any (·.1)=false:=by rfl):PE X (.Call (.Name x p) (e::es) [] pos) (Ga r t):=by
 intro J s Y H Q I h;show Ko (fI I hg hm hv ?_ hn hdb);exact IU (aT (ha pos J s Y H _ I h) λus s1 #[vs,H1,I1,r1,q1]=>hc J s1 Y H1 vs us Q I1 r1 q1) he hpl
end
end L2
namespace HT
open PySem PyProof.Rows
section
open PySem.SeqAt
open PySem.AutoSeq1 (wpAny_loadPart')
open PySem.MeetsSeq PySem.MeetsSeq2 PySem.MeetsSeq3
end
section
variable{prog:Hs}{w:HA}{A:Hy}{E:GM->GQ->Prop}{s:GQ}
def xw {t b:GZ}{vs ws:GK GM}{Q:GM->GQ->Prop}(ht:M6 s.heap t vs.toArray)(hb:M6 s.heap b ws.toArray)(hv:vs≠[])
  (h1:ws=[]->Q (.ref t) s) (h2:ws≠[]->Q (.ref s.heap.objs.size) { s with heap:=s.heap.push { cls:=.type "tuple",data:=.seq (vs++ws).toArray } })
  (hsz:vs.length+ws.length<=sizeLine):wpAny (model prog w) A (binaryOp .Add (.ref t) (.ref b)) Q E s:=by
 obtain⟨⟨cls,dd,data,sl⟩,ho,hc,n,hd⟩:=id ht;obtain⟨⟨cls2,dd2,data2,sl2⟩,ho2,hc2,n2,hd2⟩:=id hb;simp only at hc hd hc2 hd2;subst hc hd hc2 hd2;have e:vs.toArray++ws.toArray=(vs++ws).toArray:=by simp
 by_cases hw:ws=[]
 ·exact Nd #[_,ho,rfl] #[_,ho2,rfl] LB MH Ky Kt (Kl _ _)
   (tuple_addW1 t b vs.toArray ws.toArray n n2 dd dd2 sl sl2 (by simpa using hv) (by simp[hw])) #[ho,ho2,h1 hw]
 ·show Nd #[_,ho,rfl] #[_,ho2,rfl] LB MH Ky Kt (Kl _ _)
   (tuple_addW2 t b vs.toArray ws.toArray n n2 dd dd2 sl sl2 (by simpa using hv) (by simpa using hw) (by rw[G6,G6]; exact hsz)) #[ho,ho2,?_]
  rw[e];exact h2 hw
abbrev bK (n d:GX):GR G7->GX
 | none=>d
 | some v=>if v < 0 then(v+(n:G7)).toNat else min v.toNat n
def iX (n d:GX):bK n d gV=d:=rfl
def pU (n d k:GX):bK n d (ba (k:G7))=min k n:=by
 show(if (k:G7) < 0 then((k:G7)+(n:G7)).toNat else min (k:G7).toNat n)=min k n
 rw[Hu ∅,Hf]
def AX (n d:GX)(hd:d<=n)(o:GR G7):bK n d o<=n:=by
 cases o with
 | none=>exact hd
 | some v=>
  show(if v < 0 then(v+(n:G7)).toNat else min v.toNat n)<=n
  by_cases hv:v < 0
  ·rw[Hk hv]; omega
  ·rw[Hu hv]; exact Nat.min_le_right _ _
def pV (v:G7)(n d:GX):(if v < 0 then max (v+(n:G7)) 0 else min v (n:G7))=((bK n d (ba v):GX):G7):=by
 show(if v < 0 then max (v+(n:G7)) 0 else min v (n:G7))=(((if v < 0 then(v+(n:G7)).toNat else min v.toNat n):GX):G7)
 by_cases hv:v < 0
 ·simp only[Hk hv]; omega
 ·simp only[Hu hv]; omega
def oP (lo hi:GR G7)(n:GX):Ke lo hi 1 (n:G7)=(((bK n 0 lo:GX):G7),((bK n n hi:GX):G7)):=by
 have h1:¬ ((1:G7) < 0):=∅
 unfold Ke;simp only[h1,JJ];show Py ?_ ?_
 ·cases lo with
  | none=>rfl
  | some v=>exact pV v n 0
 ·cases hi with
  | none=>rfl
  | some v=>exact pV v n n
def oQ (i j:GX):JE (i:G7) (j:G7) 1=j - i:=by
 unfold JE;have h1:(1:G7) > 0:=∅
 simp only[h1,JQ,Int.ediv_one];split <;> omega
def iY {v:GM}{o:GR G7}{Q:GR G7->GQ->Prop}(p:K7 v o)(h:Q o s):wpAny (model prog w) A (NT v) Q E s:=by
 cases p with
 | none=>exact N6 h
 | int i t=>exact slicePart_int h
def dW {sl:GZ}{vl vu:GM}{lo hi:GR G7}{n:GX}{Q:G7×G7×GX->GQ->Prop}(hs:s.heap.IsSliceOf sl vl vu .none)(pl:K7 vl lo)(pu:K7 vu hi)
  (h:Q (((bK n 0 lo:GX):G7),1,bK n n hi - bK n 0 lo) s):wpAny (model prog w) A (K8 (.ref sl) (pure (n:G7))) Q E s:=by
 obtain⟨os,hos,hcs,hds⟩:=id hs;unfold K8 Ol;show GL (GL (IE hos hds (x:=vl) rfl (GL (IE hos hds (x:=vu) rfl (GL (IE hos hds (x:=.none) rfl (GY ?_)))))));show GL (N6 ?_);change wpAny _ _ (if ((1:G7)==0)=true then _ else _) _ _ s
 rw[Hu #v[]]
 show GL (iY pl (GL (iY pu (GL (GY ?_)))));change wpAny _ _ (match Ke lo hi 1 (n:G7)with|(lo,hi)=>pure (lo,(1:G7),JE lo hi 1)) _ _ s
 rw[oP lo hi n];change wpAny _ _ (pure (((bK n 0 lo:GX):G7),(1:G7),JE ((bK n 0 lo:GX):G7) ((bK n n hi:GX):G7) 1)) _ _ s;rw[oQ];exact GY h
def tu (xs:HD GM)(i k:GX):((HJ k).filterMap λ(m:GX)=>xs[((i:G7)+(m:G7)*1).toNat]?).toArray=((xs.toList.drop i).take k).toArray:=by
 have e:(λ(m:GX)=>xs[((i:G7)+(m:G7)*1).toNat]?)=λm=>xs[i+m]?:=by
  funext m
  have:((i:G7)+(m:G7)*1).toNat=i+m:=∅
  rw[this]
 rw[e];have:=pick_run xs i k;rw[List.filterMap_map]at this;have e2:((λx=>xs[x]?)∘λx=>i+x)=λm=>xs[i+m]?:=rfl
 rw[e2]at this;rw[this]
def fW {t sl:GZ}{items:HD GM}{vl vu:GM}{lo hi:GR G7}{Q:GM->GQ->Prop}(ht:M6 s.heap t items)(hs:s.heap.IsSliceOf sl vl vu .none)(pl:K7 vl lo)(pu:K7 vu hi)
  (hw:¬ (bK items.size 0 lo=0/\bK items.size items.size hi=items.size))
  (h:Q (.ref s.heap.objs.size) { s with heap:=s.heap.push { cls:=.type "tuple",data:=.seq ((items.toList.drop (bK items.size 0 lo)).take (bK items.size items.size hi - bK items.size 0 lo)).toArray } })
  (hsz:items.size<=sizeLine):wpAny (model prog w) A (getItem (.ref t) (.ref sl)) Q E s:=by
 have htake:sizeOk (.seq ((items.toList.drop (bK items.size 0 lo)).take (bK items.size items.size hi - bK items.size 0 lo)).toArray):=by
  show((items.toList.drop (bK items.size 0 lo)).take (bK items.size items.size hi - bK items.size 0 lo)).toArray.size<=sizeLine;rw[G6,Im,Kb,Hg];omega
 have hj:bK items.size items.size hi<=items.size:=AX _ _ (G2 _) hi;obtain⟨os,hos,hcs,hds⟩:=id hs;have hTs:s.TypeIs (.ref sl) "slice":=#[os,hos,hcs];unfold getItem
 try with_reducible show Ir ?_
 first|refine GL (GY ?_)|skip
 show GL (Nf ht.typeIs #v[] ?_)
 show GL (HW (name:=IW "__getitem__") ht.typeIs Jb
  (Io Jb ht.typeIs MB ?_ (MV _ _)))
 change wpAny _ _ (J7 (.ref t) >>= _) _ _ s;show GL (Oq ht ?_);show GL (K2 hTs ?_);rw[Hk #v[]]
 show GL (dW hs pl pu ?_);have hno:¬ ((((bK items.size 0 lo:GX):G7)==0&&(1:G7)==1&&(bK items.size items.size hi - bK items.size 0 lo)==items.size)=true):=by
  intro q;rw[GV,GV]at q;have q1:((bK items.size 0 lo:GX):G7)=0:=eq_of_beq q.1.1;have q2:bK items.size items.size hi - bK items.size 0 lo=items.size:=eq_of_beq q.2;exact hw #[∅,∅]
 change wpAny _ _ (if (((bK items.size 0 lo:GX):G7)==0&&(1:G7)==1&&(bK items.size items.size hi - bK items.size 0 lo)==items.size)=true then _ else _) _ _ s
 rw[Hu hno,tu]
 first
  | exact GL (m:=IM _) (HY (GY #[_,rfl,GY h]) htake)
  | exact GL (m:=IM _) (HY (GL (GY (GY #[_,rfl,GY h]))) htake)
  | exact GL (GL (m:=IM _) (HY (GY (GY #[_,rfl,GY h])) htake))
  | exact GL (GL (m:=IM _) (HY (GY #[_,rfl,GY h]) htake))
end
end HT
namespace L2
open PySem PySem.Spec PyProof.Rows
noncomputable abbrev TO:=St->Hp->(GR G7->Hp->Prop)->Prop
abbrev PO (X:Cx)(e:GR Hi)(t:TO):Prop:=
 ∀(J:GK (GZ×ID)) (s:GQ) (Y:St) (H:Hp) (Q:GR G7->Hp->Prop),Inv X J Y H s->t Y H Q->
  wpAny (model X.prog X.w) X.A (evalPart e X.env) (λu s'=>∃o H',Inv X J Y H' s'/\K7 u o/\Q o H') X.xe s
abbrev xx:TO:=λ_ H Q=>Q gV H
abbrev Dh (t:TE):TO:=λY H Q=>t Y H λx H1=>∃i,x=.int i/\Q (ba i) H1
section
variable{X:Cx}{e:Hi}{te:TE}{lo hi:GR Hi}{tl th:TO}{pos p2:Jt}
def xy:PO X gV xx:=by
 intro J s Y H Q I h;rw[Os];exact GY #[gV,H,I,.none,h]
def xz (h:PE X e te):PO X (ba e) (Dh te):=by
 intro J s Y H Q I hw;rw[evalPart_some];show aT (h J s Y H _ I hw) λu s1 #[x,H1,I1,r1,q1]=>?_
 obtain⟨i,rfl,q⟩:=q1;obtain⟨t,rfl⟩:=r1;exact#[ba i,H1,I1,.int i t,q]
abbrev Di (X:Cx)(r:V->GR G7->GR G7->Hp->VK->Prop):Prop:=
 ∀(J:GK (GZ×ID)) (s:GQ) (Y:St) (H:Hp) (x:V) (v vl vu:GM) (lo hi:GR G7) (sl:GZ) (Q:VK),Inv X J Y H s->RelV x v->s.heap.IsSliceOf sl vl vu .none->K7 vl lo->K7 vu hi->r x lo hi H Q->
  ∃T id,typeLookup (.type T) "__getitem__" = pure (ba (.builtin id))/\s.TypeIs v T/\wpAny (model X.prog X.w) X.A (getItem v (.ref sl)) (EP X J Y Q) X.xe s
abbrev Gu (r:V->GR G7->GR G7->Hp->VK->Prop)(te:TE)(tl th:TO):TE:=λY H Q=>te Y H λx H1=>tl Y H1 λl H2=>th Y H2 λu H3=>r x l u H3 Q
def tz {r:V->GR G7->GR G7->Hp->VK->Prop}(hr:Di X r)(he:PE X e te)(hl:PO X lo tl)(hu:PO X hi th):PE X (.Subscript e (.Slice lo hi gV p2) pos) (Gu r te tl th):=by
 intro J s Y H Q I h;show Subscript_ (aT (he J s Y H _ I h) λv s1 #[x,H1,I1,r1,q1]=>?_)
 show wpAny_Slice (aT (hl J s1 Y H1 _ I1 q1) λvl s2 #[l,H2,I2,pl,q2]=>aT (hu J s2 Y H2 _ I2 q2) λvu s3 #[u,H3,I3,pu,q3]=>?_)
 rw[Os];show GY ?_;have I4:Inv X J Y H3 { s3 with heap:=s3.heap.push { cls:=.type "slice",data:=.fields [vl,vu,.none].toArray } }:=I3.kept (t':=s3.toks) λb ob q=>GN _ q
 obtain⟨T,id,hT,ht,hg⟩:=hr J { s3 with heap:=s3.heap.push { cls:=.type "slice",data:=.fields [vl,vu,.none].toArray } } Y H3 x v vl vu l u s3.heap.objs.size Q I4 r1 (O9 ..) pl pu q3
 change wpAny (model X.prog X.w) X.A (subscriptTail e (.Slice lo hi gV p2) v (.ref s3.heap.objs.size)) (EP X J Y Q) X.xe { s3 with heap:=s3.heap.push { cls:=.type "slice",data:=.fields [vl,vu,.none].toArray } }
 exact tail_any (ops:=[.ref s3.heap.objs.size,v]) ht hT hg (by with_unfolding_all rfl)
abbrev iZ (xs:GK V)(lo hi:GR G7):GK V:=(xs.drop (HT.bK xs.length 0 lo)).take (HT.bK xs.length xs.length hi - HT.bK xs.length 0 lo)
def iu (xs:GK V)(lo hi:GR G7):(iZ xs lo hi).length<=xs.length:=by
 unfold iZ;rw[Im,Kb];omega
abbrev Fg (K:G0):V->GR G7->GR G7->Hp->VK->Prop:=λx lo hi H Q=>∃a xs,x=.ref a/\SqT K H a xs/\
 ¬ (HT.bK xs.length 0 lo=0/\HT.bK xs.length xs.length hi=xs.length)/\∀p,H p=gV->Q (.ref p) (be H p (.tup (iZ xs lo hi)))
def AY:Di X (Fg X.K):=by
 intro J s Y H x v vl vu lo hi sl Q I rx hs pl pu h;obtain⟨a,xs,rfl,hx,hw,q⟩:=h;cases rx;obtain⟨its,r,ht,hz⟩:=I.tuple hx;have hlen:its.toArray.size=xs.length:=by rw[G6]; exact r.length.symm
 show#["tuple",_,PyProof.Rows.slot_tuple_getitem.lookup,ht.typeIs,?_];show HT.fW ht hs pl pu (by rw[hlen]; exact hw) ?_ (by rw[hlen]; exact hz)
 rw[hlen];show#[.ref s.heap.objs.size,_,I.laid (t':=s.toks) (o:=.tup (iZ xs lo hi)) (λb ob q=>GN _ q) (G2 _) ?_,rfl,q _ (I.hok.fresh (G2 _))]
 exact#[Hz (iu xs lo hi) hz,_,(r.drop (HT.bK xs.length 0 lo)).take (HT.bK xs.length xs.length hi - HT.bK xs.length 0 lo),Nw _ _]
def Vals.nil_iff {xs:GK V}{us:GK GM}(r:Vals xs us):us=[]↔xs=[]:=by
 cases r with
 | nil=>simp
 | cons _ _=>simp
end
abbrev pW (n:GX)(i:G7):GR GX:=if 0<=i then(if i < n then ba i.toNat else gV)else if -(n:G7)<=i then ba (i+n).toNat else gV
abbrev mB {α:Type}(xs:GK α)(i:G7):GR α:=(pW xs.length i).bind λj=>xs[j]?
def pX {n:GX}{i:G7}{j:GX}(h:pW n i=ba j):seqIndex? i n=ba j/\j < n/\-(n:G7)<=i/\i < n:=by
 unfold pW at h
 by_cases h0:0<=i
 ·rw[Hk h0]at h
  by_cases h1:i < n
  ·rw[Hk h1]at h;have e:i.toNat=j:=Ij h;exact#[by rw[NQ h0 h1,e],∅,∅,h1]
  ·rw[Hu h1]at h; cases h
 ·rw[Hu h0]at h
  by_cases h1 : -(n:G7)<=i
  ·rw[Hk h1]at h;have e:(i+n).toNat=j:=Ij h;exact#[by rw[Ng ∅ h1,e],∅,h1,∅]
  ·rw[Hu h1]at h; cases h
def kS {α:Type}{xs:GK α}{i:G7}{v:α}(h:mB xs i=ba v):∃j,seqIndex? i xs.length=ba j/\xs[j]?=ba v/\j < xs.length/\-(xs.length:G7)<=i/\i < xs.length:=by
 unfold mB at h;cases e:pW xs.length i with
 | none=>rw[e]at h; cases h
 | some j=>
  rw[e]at h;obtain⟨h1,h2,h3,h4⟩:=pX e;exact#[j,h1,h,h2,h3,h4]
def atI_nat {α:Type}{xs:GK α}{j:GX}{v:α}(h:xs[j]?=ba v):mB xs (j:G7)=ba v:=by
 have hj:j < xs.length:=(G8.mp h).1;have e:pW xs.length (j:G7)=ba j:=by
  unfold pW;rw[Hk ∅,Hk ∅]; simp
 unfold mB; rw[e]; exact h
abbrev kU (b:Hi):Prop:=∀o i,subscripted b false o i=operate [o,i] (getItem o i)
abbrev IxR (X:Cx)(r:R2):Prop:=
 ∀(value slice:Hi) (J:GK (GZ×ID)) (s:GQ) (Y:St) (H:Hp) (x y:V) (v u:GM) (Q:VK),Inv X J Y H s->RelV x v->RelV y u->r x y H Q->
  subscripted slice false v u=operate [v,u] (getItem v u)->wpAny (model X.prog X.w) X.A (subscriptTail value slice v u) (EP X J Y Q) X.xe s
abbrev MtR (X:Cx)(id:Iw)(r:V->GK V->Hp->VK->Prop):Prop:=
 ∀(J:GK (GZ×ID)) (s:GQ) (Y:St) (H:Hp) (x:V) (xs:GK V) (v:GM) (us:GK GM) (Q:VK),Inv X J Y H s->RelV x v->Vals xs us->r x xs H Q->
  wpAny (model X.prog X.w) X.A (call (.builtin id) (v::us)) (EP X J Y Q) X.xe s
section
variable{X:Cx}{a b:Hi}{ta tb:TE}{pos:Jt}
def Dj {r:R2}(hr:IxR X r)(ha:PE X a ta)(hb:PE X b tb)(hs:kU b):PE X (.Subscript a b pos) (EJ r ta tb):=by
 intro J s Y H Q I h;exact Subscript_ (AL ha hb I h λv u s2 x y H2 I2 rx ry q=>hr a b J s2 Y H2 x y v u Q I2 rx ry q (hs _ _))
abbrev Fh (K:G0):R2:=λx y H Q=>∃p xs i v,x=.ref p/\y=.int i/\SqL K H p xs/\mB xs i=ba v/\Q v H
abbrev Fi (K:G0):R2:=λx y H Q=>∃p xs i v,x=.ref p/\y=.int i/\SqT K H p xs/\mB xs i=ba v/\Q v H
abbrev Fj:R2:=λx y H Q=>∃z i c,x=.str z/\y=.int i/\z.length<=sizeLine/\mB z.cps.toList i=ba c/\Q (.str #[[c].toArray]) H
def xA:IxR X (Fh X.K):=by
 intro value slice J s Y H x y v u Q I rx ry h hs;obtain⟨p,xs,i,z,rfl,rfl,hq,he,q⟩:=h;cases rx;obtain⟨t,rfl⟩:=ry;obtain⟨its,r,pl,hz⟩:=I.list hq;obtain⟨j,h1,h2,h3,h4,h5⟩:=kS he;obtain⟨w,ew,rw'⟩:=r.get h2;have hl:=r.length;have hn:=gQ;have fin:EP X J Y Q w s:=#[z,H,I,rw',q]
 by_cases h0:0<=i
 ·have hj:i.toNat=j:=by
   rw[NQ h0 h5]at h1;exact Ij h1
  exact item_listR pl.isList h0 ∅ (by rw[hj]; simpa using ew) fin hs
 ·have hj:(i+(its.toArray.size:G7)).toNat=j:=by
   rw[Ng ∅ h4]at h1
   rw[G6,<- hl];exact Ij h1
  exact Kz (x:=w) pl.isList.typeIs slot_list_getitem.lookup
   (wpAny_getItem_list_neg (Q:=λr s'=>r=w/\EP X J Y Q r s') pl.isList ∅ (by rw[G6] <;> omega) ∅ (by rw[hj]; simpa using ew) #[rfl,fin]) hs
def AZ:IxR X (Fi X.K):=by
 intro value slice J s Y H x y v u Q I rx ry h hs;obtain⟨p,xs,i,z,rfl,rfl,hq,he,q⟩:=h;cases rx;obtain⟨t,rfl⟩:=ry;obtain⟨its,r,pl,hz⟩:=I.tuple hq;obtain⟨j,h1,h2,h3,h4,h5⟩:=kS he;obtain⟨w,ew,rw'⟩:=r.get h2;have hl:=r.length;have hn:=gQ;have fin:EP X J Y Q w s:=#[z,H,I,rw',q];exact Kz (x:=w) pl.typeIs slot_tuple_getitem.lookup
  (getItem_tuple (j:=j) (Q:=λr s'=>r=w/\EP X J Y Q r s') pl ∅ ∅ (by rw[G6,<- hl]; exact h1) (by simpa using ew) #[rfl,fin]) hs
def A6:IxR X Fj:=by
 intro value slice J s Y H x y v u Q I rx ry h hs;obtain⟨z,i,c,rfl,rfl,hz,he,q⟩:=h;obtain⟨t,rfl⟩:=rx;obtain⟨t',rfl⟩:=ry;obtain⟨j,h1,h2,h3,h4,h5⟩:=kS he;have hl:z.cps.toList.length=z.length:=by simp[Pa]
 rw[hl]at h1 h4 h5;have hn:=gQ;exact tail_any (typeIs_str s z t) slot_str_getitem.lookup (getItem_str (c:=c) (by
  have e1:decide (i < -(2 ^ 63:G7))=false:=Hv ∅
  have e2:decide (i>=2 ^ 63)=false:=Hv ∅
  rw[e1,e2,Ot]) (by rw[h1]; simpa using h2) #[.str #[[c].toArray],H,I.tok _,#[_,rfl],q]) hs
def oR (its:GK GM)(n j:GX)(u:GM):IF (·.setIfInBounds j u) { cls:=.type "list",data:=.seq its.toArray n }={ cls:=.type "list",data:=.seq (its.set j u).toArray n }:=by
 simp[IF]
def Inv.lst {J:GK (GZ×ID)}{Y:St}{H:Hp}{s:GQ}{p:GZ}{xs:GK V}(I:Inv X J Y H s)(h:H p=ba (.lst xs)) :
  ∃(its:GK GM) (n:GX),Vals xs its/\s.heap.get? p=ba { cls:=.type "list",data:=.seq its.toArray n }/\xs.length<=sizeLine:=by
 obtain⟨z,its,n,r,e⟩:=I.hok p _ h;exact#[its,n,r,e,z]
def Inv.lstUpd {J:GK (GZ×ID)}{Y:St}{H:Hp}{s:GQ}{p:GZ}{xs ys:GK V}{its its':GK GM}{n n':GX}{f:ID->ID}(I:Inv X J Y H s)(h:H p=ba (.lst xs))
  (ho:s.heap.get? p=ba { cls:=.type "list",data:=.seq its.toArray n }) (hf:f { cls:=.type "list",data:=.seq its.toArray n }={ cls:=.type "list",data:=.seq its'.toArray n' }) (r:Vals ys its') (hz:ys.length<=sizeLine) (t:GX) :
  Inv X J Y (be H p (.lst ys)) { s with heap:=s.heap.update p f,toks:=t }:=by
 have e:(s.heap.update p f).get? p=ba { cls:=.type "list",data:=.seq its'.toArray n' }:=by
  rw[Jc f ho (by rw[hf] <;> rfl),hf]
 show I.write (x:=p) (e:=p) (by rw[h]; trivial) (.inl rfl) (λb u hb q=>(Ig _ _ (Ne.symm hb)).trans q) #[_,e] ?_
 exact#[hz,its',n',r,e]
abbrev Dk:V->V->V->Hp->(Hp->Prop)->Prop:=λo i v H Q=>∃p xs k j,o=.ref p/\i=.int k/\H p=ba (.lst xs)/\pW xs.length k=ba j/\Q (be H p (.lst (xs.set j v)))
def tB:AE X Dk:=by
 intro J s Y H o i v ov iv u Q I ro ri rv h;obtain⟨p,xs,k,j,rfl,rfl,hp,hj,q⟩:=h;cases ro;obtain⟨t,rfl⟩:=ri;obtain⟨its,n,r,ho,hz⟩:=I.lst hp;obtain⟨h1,h2,h3,h4⟩:=pX hj;have hl:=r.length;have hn:=gQ;have I':Inv X J Y (be H p (.lst (xs.set j v))) { s with heap:=s.heap.update p (IF (·.setIfInBounds j u)) }:=
  I.lstUpd hp ho (oR its n j u) (r.set rv j) (by rw[List.length_set]; exact hz) s.toks
 by_cases h0:0<=k
 ·have hk:k.toNat=j:=by
   rw[NQ h0 h4]at h1;exact Ij h1
  exact PySem.W.ki_setAt ho h0 ∅ (by rw[G6,<- hl]; exact h4) (by rw[hk]; exact#[_,I',q])
 ·have hk:(k+(its.toArray.size:G7)).toNat=j:=by
   rw[Ng ∅ h3]at h1
   rw[G6,<- hl];exact Ij h1
  exact PySem.W.ki_setBack ho ∅ (by rw[G6,<- hl]; exact h3) ∅ (by rw[hk]; exact#[_,I',q])
def kW (lo hi:GR G7)(n:GX):(sliceBounds lo hi gV n).1=((HT.bK n 0 lo:GX):G7)/\(sliceBounds lo hi gV n).2.1=((HT.bK n n hi:GX):G7)/\(sliceBounds lo hi gV n).2.2=1:=by
 show#[?_,?_,rfl]
 ·cases lo with
  | none=>simp[sliceBounds,HT.bK]
  | some i=>
   simp only[sliceBounds,HT.bK,Nz,show(1:G7) > 0 by decide,JQ]
   by_cases h:i < 0
   ·simp only[h,JQ] <;> omega
   ·simp only[h,JJ] <;> omega
 ·cases hi with
  | none=>simp[sliceBounds,HT.bK]
  | some i=>
   simp only[sliceBounds,HT.bK,Nz,show(1:G7) > 0 by decide,JQ]
   by_cases h:i < 0
   ·simp only[h,JQ] <;> omega
   ·simp only[h,JJ] <;> omega
def jF (its:GK GM)(lo hi:GR G7):slicePick its.toArray lo hi gV=((its.drop (HT.bK its.length 0 lo)).take (HT.bK its.length its.length hi - HT.bK its.length 0 lo)).toArray:=by
 obtain⟨h1,h2,h3⟩:=kW lo hi its.toArray.size;unfold slicePick;rw[h1,h2,h3];simp only[sliceRange_one,pick_run,G6] <;> rfl
abbrev Fk (K:G0):V->GR G7->GR G7->Hp->VK->Prop:=λx lo hi H Q=>∃a xs,x=.ref a/\SqL K H a xs/\∀p,H p=gV->Q (.ref p) (be H p (.lst (iZ xs lo hi)))
def xB:Di X (Fk X.K):=by
 intro J s Y H x v vl vu lo hi sl Q I rx hs pl pu h;obtain⟨a,xs,rfl,hx,q⟩:=h;cases rx;obtain⟨its,r,ht,hz⟩:=I.list hx;have hlen:=r.length;show#["list",_,slot_list_getitem.lookup,ht.isList.typeIs,?_];show wpAny_getItem_list_slice ht.isList hs pl pu .none (by simp) ?_ (by rw[G6] <;> omega)
 rw[jF,<- hlen];show#[.ref s.heap.objs.size,_,I.laid (t':=s.toks) (o:=.lst (iZ xs lo hi)) (λb ob q=>GN _ q) (G2 _) ?_,rfl,q _ (I.hok.fresh (G2 _))]
 exact#[Hz (iu xs lo hi) hz,_,0,(r.drop (HT.bK xs.length 0 lo)).take (HT.bK xs.length xs.length hi - HT.bK xs.length 0 lo),G4 _ rfl]
abbrev fB:V->Hr
 | .non=>true
 | .bl _=>true
 | .int _=>true
 | .str _=>true
 | _=>false
abbrev xC:V->V->Hr
 | .non,.non=>true
 | .bl a,.bl b=>a==b
 | .bl a,.int b=>(if a then 1 else 0)==b
 | .int a,.bl b=>a==(if b then 1 else 0)
 | .int a,.int b=>a==b
 | .str a,.str b=>a==b
 | _,_=>false
def A7 {A:Hy}{s:GQ}{y x:V}{u v:GM}(ry:RelV y u)(rx:RelV x v)(fy:fB y=true)(fx:fB x=true):KJ A s u v (xC y x):=by
 cases y with
 | non=>
  cases ry;cases x with
  | non=>cases rx; exact Pr _
  | bl b=>cases rx; exact OS b
  | int b=>obtain⟨t,rfl⟩:=rx; exact O0 b t
  | str b=>obtain⟨t,rfl⟩:=rx; exact O1 b t
  | _=>exact absurd (show false=true from fx) Hh
 | bl a=>
  cases ry;cases x with
  | non=>cases rx; exact OT a
  | bl b=>cases rx; exact OU a b
  | int b=>obtain⟨t,rfl⟩:=rx; exact O2 a b t
  | str b=>obtain⟨t,rfl⟩:=rx; exact O3 a b t
  | _=>exact absurd (show false=true from fx) Hh
 | int a=>
  obtain⟨t',rfl⟩:=ry;cases x with
  | non=>cases rx; exact O4 a t'
  | bl b=>cases rx; exact O5 a t' b
  | int b=>obtain⟨t,rfl⟩:=rx; exact Pb a t' b t
  | str b=>obtain⟨t,rfl⟩:=rx; exact MO a t' b t
  | _=>exact absurd (show false=true from fx) Hh
 | str a=>
  obtain⟨t',rfl⟩:=ry;cases x with
  | non=>cases rx; exact O6 a t'
  | bl b=>cases rx; exact O7 a t' b
  | int b=>obtain⟨t,rfl⟩:=rx; exact MP a t' b t
  | str b=>obtain⟨t,rfl⟩:=rx; exact Pc a t' b t
  | _=>exact absurd (show false=true from fx) Hh
 | _=>exact absurd (show false=true from fy) Hh
abbrev oT (x:V)(u:GM):Hr:=match u with
 | .none=>xC .non x
 | .bool b=>xC (.bl b) x
 | .int i _=>xC (.int i) x
 | .str z _=>xC (.str z) x
 | _=>false
def tD {x y:V}{u:GM}(r:RelV y u)(f:fB y=true):oT x u=xC y x:=by
 cases y with
 | non=>cases r; rfl
 | bl b=>cases r; rfl
 | int i=>obtain⟨t,rfl⟩:=r; rfl
 | str z=>obtain⟨t,rfl⟩:=r; rfl
 | _=>exact absurd (show false=true from f) Hh
def fX {x:V}:∀ {xs:GK V} {us:GK GM},Vals xs us->xs.all fB=true->us.any (oT x)=xs.any λy=>xC y x
 | _,_,.nil,_=>rfl
 | y::xs,u::us,.cons r t,f=>by
  rw[HR,GV]at f;rw[Jx,Jx,tD r f.1,fX t f.2]
def eH {A:Hy}{s:GQ}{x:V}{v:GM}(rx:RelV x v)(fx:fB x=true):∀ {xs:GK V} {us:GK GM},Vals xs us->xs.all fB=true->∀u∈us,KJ A s u v (oT x u)
 | _,_,.nil,_=>λu hu=>by cases hu
 | y::xs,u::us,.cons r t,f=>λu' hu=>by
  rw[HR,GV]at f;rcases Hj.mp hu with rfl|hu
  ·rw[tD r f.1]; exact A7 r rx f.1 fx
  ·exact eH rx fx t f.2 u' hu
abbrev EM (x:V)(xs:GK V):Hr:=xs.any λy=>xC y x
abbrev Fn (K:G0)(neg:Hr):R2:=λx y H Q=>∃p xs,y=.ref p/\(SqL K H p xs\/SqT K H p xs)/\fB x=true/\xs.all fB=true/\Q (.bl (if neg then !EM x xs else EM x xs)) H
def rB:OpR X (compareOp .In) (Fn X.K false):=by
 intro J s Y H x y v u Q I rx ry h;obtain⟨p,xs,rfl,hq,fx,fs,q⟩:=h;cases ry;rcases hq with hq|hq
 ·obtain⟨its,r,pl,hz⟩:=I.list hq;show NU (oT x) pl.isList (λw hw=>eH rx fx r fs w (by simpa using hw)) #[.bl _,H,I,rfl,?_]
  rw[show its.toArray.any (oT x)=its.any (oT x) by simp,fX r fs]
  exact q
 ·obtain⟨its,r,pl,hz⟩:=I.tuple hq;show NA (oT x) pl (λw hw=>eH rx fx r fs w (by simpa using hw)) #[.bl _,H,I,rfl,?_]
  rw[show its.toArray.any (oT x)=its.any (oT x) by simp,fX r fs]
  exact q
def kX:OpR X (compareOp .NotIn) (Fn X.K true):=by
 intro J s Y H x y v u Q I rx ry h;obtain⟨p,xs,rfl,hq,fx,fs,q⟩:=h;cases ry;rcases hq with hq|hq
 ·obtain⟨its,r,pl,hz⟩:=I.list hq;show MW (oT x) pl.isList (λw hw=>eH rx fx r fs w (by simpa using hw)) #[.bl _,H,I,rfl,?_]
  rw[show its.toArray.any (oT x)=its.any (oT x) by simp,fX r fs]
  exact q
 ·obtain⟨its,r,pl,hz⟩:=I.tuple hq;show SeqAt.notIn_tupleAt (oT x) pl (λw hw=>eH rx fx r fs w (by simpa using hw)) #[.bl _,H,I,rfl,?_]
  rw[show its.toArray.any (oT x)=its.any (oT x) by simp,fX r fs]
  exact q
def kY:CallR X (.type "list") (λxs H Q=>∃p ys,xs=[.ref p]/\(SqL X.K H p ys\/SqT X.K H p ys)/\∀l,H l=gV->Q (.ref l) (be H l (.lst ys))):=by
 intro J s Y H xs us Q I r h;obtain⟨p,ys,rfl,hq,q⟩:=h;obtain⟨u,rfl,rx⟩:=iV r;cases rx;have fin:∀(its:GK GM),Vals ys its->ys.length<=sizeLine->∀(h':HQ) (c':GX),(∀b o',s.heap.get? b=ba o'->h'.get? b=ba o')->
   h'.get? s.heap.objs.size=ba { cls:=.type "list",dict:=gV,data:=.seq its.toArray c',slots:=#[] }->EP X J Y Q (.ref s.heap.objs.size) { s with heap:=h' }:=λits r' hz h' c' kp e=>
  #[.ref s.heap.objs.size,_,I.laid (t':=s.toks) kp (G2 _) (show ObjOk X.prog X.w _ h' _ (.lst ys)from#[hz,its,c',r',e]),rfl,q _ (I.hok.fresh (G2 _))]
 rcases hq with hq|hq
 ·obtain⟨its,r',pl,hz⟩:=I.list hq;have hlen:=r'.length;obtain⟨o,ho,hc,n,hd⟩:=pl.isList;exact Ou p (.inl rfl) ho hc hd (λh' c' kp e=>fin its r' hz h' c' kp e) (by simp only[G6] <;> omega)
 ·obtain⟨its,r',pl,hz⟩:=I.tuple hq;have hlen:=r'.length;obtain⟨o,ho,hc,n,hd⟩:=pl;exact Ou p (.inr rfl) ho hc hd (λh' c' kp e=>fin its r' hz h' c' kp e) (by simp only[G6] <;> omega)
def fD:CallR X (.type "tuple") (λxs H Q=>∃p ys,xs=[.ref p]/\((SqL X.K H p ys/\∀l,H l=gV->Q (.ref l) (be H l (.tup ys)))\/(SqT X.K H p ys/\Q (.ref p) H))):=by
 intro J s Y H xs us Q I r h;obtain⟨p,ys,rfl,h⟩:=h;obtain⟨u,rfl,rx⟩:=iV r;cases rx;rcases h with⟨hq,q⟩|⟨hq,q⟩
 ·obtain⟨its,r',pl,hz⟩:=I.list hq;have hlen:=r'.length;show call_tuple_list pl.isList (λh' kp=>?_) (by simp only[G6] <;> omega)
  have I1:Inv X J Y H { s with heap:=h' }:=I.kept (t':=s.toks) kp
  have I2:Inv X J Y (be H h'.objs.size (.tup ys)) { s with heap:=h'.push { cls:=.type "tuple",data:=.seq its.toArray } }:=
   I1.laid (t':=s.toks) (λb o e=>GN _ e) (G2 _) (show ObjOk X.prog X.w _ _ _ (.tup ys)from#[hz,its,r',Nw _ _])
  exact#[.ref h'.objs.size,_,I2,rfl,q _ (I1.hok.fresh (G2 _))]
 ·obtain⟨its,r',pl,hz⟩:=I.tuple hq;exact call_tuple_same pl #[.ref p,H,I,rfl,q]
abbrev Fo (K:G0)(T:Iw)(x:V)(H:Hp):Prop:=match x with
 | .str _=>T = "str"
 | .int _=>T = "int"
 | .ref p=>(T = "list"/\∃xs,SqL K H p xs)\/(T = "tuple"/\∃o,K.lookup p=ba o/\o.cls=.type "tuple"/\o.dict=gV)\/
   (T = "dict"/\((∃U,H p=ba (.dK U))\/∃U,H p=ba (.dT U)))\/(T = "set"/\∃S n,H p=ba (.set S n))
 | _=>Iq
def tF {J:GK (GZ×ID)}{Y:St}{H:Hp}{s:GQ}{T:Iw}{x:V}{v:GM}(I:Inv X J Y H s)(r:RelV x v)(ty:Fo X.K T x H) :
  s.TypeIs v T/\∀a,v=.ref a->∃ob,s.heap.get? a=ba ob/\ob.dict=gV:=by
 cases x with
 | str z=>
  obtain⟨t,rfl⟩:=r;cases(show T = "str" from ty)
  exact#[typeIs_str s z t,λ_ e=>nomatch e]
 | int i=>
  obtain⟨t,rfl⟩:=r;cases(show T = "int" from ty)
  exact#[N7 s i t,λ_ e=>nomatch e]
 | ref p=>
  cases r;rcases ty with⟨rfl,xs,hq⟩|⟨rfl,o,hk,hc,hd⟩|⟨rfl,hk⟩|⟨rfl,S,n,hk⟩
  ·obtain⟨its,_,pl,_⟩:=I.list hq;show#[pl.isList.typeIs,λa e=>?_]
   cases e;obtain⟨o,n,e,c,hd,_⟩:=pl;exact#[o,e,hd]
  ·show#[#[o,I.kIn p o hk,hc],λa e=>?_]
   cases e;exact#[o,I.kIn _ o hk,hd]
  ·have z:∃o,s.heap.get? p=ba o/\o.ExactDict:=by
    rcases hk with⟨U,hk⟩|⟨U,hk⟩
    ·obtain⟨_,_,_,_,o,_,_,e,ex,_⟩:=I.hok p _ hk;exact#[o,e,ex]
    ·obtain⟨_,_,_,_,o,_,_,e,ex,_⟩:=I.hok p _ hk;exact#[o,e,ex]
   obtain⟨o,e,ex⟩:=z;show#[#[o,e,ex.1],λa e2=>?_]
   cases e2;exact#[o,e,ex.2.1]
  ·obtain⟨o,_,_,_,e,ex,_⟩:=I.hok p _ hk;show#[#[o,e,ex.1],λa e2=>?_]
   cases e2;exact#[o,e,ex.2.1]
 | _=>exact Iq.elim ty
variable{o e:Hi}{es:GK Hi}{to:TE}{t:TA}{name:Ha}{apos cpos:Jt}{T id:Iw}{r:V->GK V->Hp->VK->Prop}
end
abbrev Fp (X:Cx)(id:Iw)(r:V->GK V->Hp->VK->Prop):Prop:=
 ∀(J:GK (GZ×ID)) (s:GQ) (Y:St) (H:Hp) (x:V) (xs:GK V) (v:GM) (us:GK GM) (Q:VK),Inv X J Y H s->RelV x v->Vals xs us->r x xs H Q->
  wpAny (model X.prog X.w) X.A (call (.builtin id) (v::us)) (EP X J Y Q) X.xe s
def Vals.one:∀ {x:V} {us:GK GM},Vals [x] us->∃u,us=[u]/\RelV x u
 | _,_,.cons r .nil=>#[_,rfl,r]
def Vals.eraseIdx:∀ {xs:GK V} {us:GK GM} (i:GX),Vals xs us->Vals (xs.eraseIdx i) (us.eraseIdx i)
 | _,_,_,.nil=>.nil
 | _,_,0,.cons _ t=>t
 | _,_,i+1,.cons r t=>.cons r (Vals.eraseIdx i t)
def Vals.rep {xs:GK V}{us:GK GM}(h:Vals xs us):∀k:GX,Vals (HB k xs).flatten (HB k us).flatten
 | 0=>.nil
 | k+1=>by
  rw[II,II,JK,JK];exact Vals.append h (Vals.rep h k)
def jQ {α:Type}:∀(l:GK α) (i:GX),(l.eraseIdx i).length<=l.length
 | [],_=>G2 _
 | _::_,0=>Jy _
 | _::r,i+1=>KL (jQ r i)
def jR (its:GK GM):∀(k:GX) (acc:GK GM),
  N8 (λx1 x2=>x1++x2) acc.toArray (HB k its.toArray)=(acc++(HB k its).flatten).toArray
 | 0,acc=>by simp
 | k+1,acc=>by
  have e:acc.toArray++its.toArray=(acc++its).toArray:=by simp
  have e2:(acc++its)++(HB k its).flatten=acc++(HB (k+1) its).flatten:=by
   rw[II,JK,Jl]
  rw[<- e2,<- jR its k (acc++its),<- e,II,LW]
section
variable{X:Cx}{J:GK (GZ×ID)}{Y:St}{H:Hp}{s:GQ}{l b:GZ}{xs ys zs:GK V}
def Inv.lset {its its':GK GM}{n:GX}{f:HD GM->HD GM}{t':GX}(I:Inv X J Y H s)(hH:H l=ba (.lst xs))
  (e:s.heap.get? l=ba { cls:=.type "list",data:=.seq its.toArray n }) (hf:f its.toArray=its'.toArray) (hv:Vals ys its') (hz:ys.length<=sizeLine) :
  Inv X J Y (be H l (.lst ys)) { s with heap:=s.heap.update l (IF f),toks:=t' }:=by
 have q:=NB e f;rw[hf]at q;show I.write (x:=l) (e:=l) (by rw[hH]; exact trivial) (.inl rfl) (λb' u hb hu=>(Ig s.heap (IF f) (Ne.symm hb)).trans hu) #[_,q] ?_
 exact#[hz,its',_,hv,q]
def Inv.lnew {its:GK GM}{t':GX}(I:Inv X J Y H s)(hv:Vals ys its)(hz:ys.length<=sizeLine) :
  Inv X J Y (be H s.heap.objs.size (.lst ys)) { s with heap:=s.heap.push { cls:=.type "list",data:=.seq its.toArray },toks:=t' }:=
 I.laid (λ_ _ q=>GN _ q) (G2 _) #[hz,its,0,hv,G4 _ rfl]
def Inv.fresh (I:Inv X J Y H s):H s.heap.objs.size=gV:=I.hok.fresh (G2 _)
def Inv.lstM (I:Inv X J Y H s)(hH:H l=ba (.lst xs)):xs.length<=sizeLine/\∃(its:GK GM) (n:GX),Vals xs its/\xs.length=its.length/\s.heap.get? l=ba { cls:=.type "list",data:=.seq its.toArray n }:=by
 obtain⟨z,its,n,r,e⟩:=I.hok l _ hH;exact#[z,its,n,r,r.length,e]
def mC {n:GX}(h:n<=sizeLine):JM n=false:=by
 unfold JM;exact Hv ∅
end
section
variable{X:Cx}
abbrev xD:V->GK V->Hp->VK->Prop:=λx vs H Q=>∃l xs y,x=.ref l/\vs=[y]/\H l=ba (.lst xs)/\xs.length < sizeLine/\Q .non (be H l (.lst (xs++[y])))
def rC:Fp X "list.append" xD:=by
 intro J s Y H x vs v us Q I rx rv h;obtain⟨l,xs,y,rfl,rfl,hH,hz,q⟩:=h;cases rx;obtain⟨u,rfl,ru⟩:=rv.one;obtain⟨z,its,n,r,hl,e⟩:=I.lstM hH;show K9 F.slot_list_append #[_,e,rfl] F.entry_list_append (F.args_list_append_2 _ _) (Nh l its.toArray n u (by rw[G6]; omega)) #[e,?_]
 show#[.non,_,I.lset (its':=its++[u]) hH e (by simp) (r.append #v[ru]) ?_,rfl,q]
 rw[G3,KD];omega
abbrev xE:V->GK V->Hp->VK->Prop:=λx vs H Q=>∃l b xs zs,x=.ref l/\vs=[.ref b]/\H l=ba (.lst xs)/\H b=ba (.lst zs)/\xs.length+zs.length<=sizeLine/\Q .non (be H l (.lst (xs++zs)))
def rD:Fp X "list.extend" xE:=by
 intro J s Y H x vs v us Q I rx rv h;obtain⟨l,b,xs,zs,rfl,rfl,hH,hB,hz,q⟩:=h;cases rx;obtain⟨u,rfl,ru⟩:=rv.one;cases ru;obtain⟨z,its,n,r,hl,e⟩:=I.lstM hH;obtain⟨z2,its2,n2,r2,hl2,e2⟩:=I.lstM hB;have hsz:its.toArray.size+its2.toArray.size<=sizeLine:=by rw[G6,G6]; omega
 have hlong:¬ (!its.toArray.isEmpty&&JM (its.toArray.size+its2.toArray.size))=true:=by
  rw[mC hsz,Bool.and_false];exact Hh
 show K9 F.slot_list_extend #[_,e,rfl] F.entry_list_extend (F.args_list_extend_2 _ _)
  (Ni l its.toArray n b its2.toArray n2 hlong (by rw[G6]; omega) ∅) #[e,e2,?_]
 show#[.non,_,I.lset (its':=its++its2) hH e (by simp) (r.append r2) ?_,rfl,q]
 rw[G3];omega
abbrev Ba:V->GK V->Hp->VK->Prop:=λx vs H Q=>∃l xs i k y,x=.ref l/\vs=[.int i]/\H l=ba (.lst xs)/\-(2 ^ 63)<=i/\i < 2 ^ 63/\seqIndex? i xs.length=ba k/\xs[k]?=ba y/\Q y (be H l (.lst (xs.eraseIdx k)))
def tH:Fp X "list.pop" Ba:=by
 intro J s Y H x vs v us Q I rx rv h;obtain⟨l,xs,i,k,y,rfl,rfl,hH,h1,h2,hk,hy,q⟩:=h;cases rx;obtain⟨u,rfl,ru⟩:=rv.one;obtain⟨t,rfl⟩:=ru;obtain⟨z,its,n,r,hl,e⟩:=I.lstM hH;obtain⟨w,hw,rw'⟩:=r.get hy;show K9 F.slot_list_pop #[_,e,rfl] F.entry_list_pop (F.args_list_pop_2 _ _)
  (OV l its.toArray n i t k w (N9 h1 h2) (by rw[G6,<- hl]; exact hk) (by rw[<- Il]; exact hw) (by rw[G6]; omega)) #[e,?_]
 show#[y,_,I.lset (its':=its.eraseIdx k) hH e ?_ (r.eraseIdx k) ?_,rw',q]
 ·change its.toArray.eraseIdxIfInBounds k=(its.eraseIdx k).toArray;rw[List.eraseIdxIfInBounds_toArray]
 ·have:=jQ xs k;omega
abbrev Fq:R2:=λx y H Q=>∃l b xs zs,x=.ref l/\y=.ref b/\H l=ba (.lst xs)/\H b=ba (.lst zs)/\xs.length+zs.length<=sizeLine/\∀p,H p=gV->Q (.ref p) (be H p (.lst (xs++zs)))
def Bb:OpR X (binaryOp .Add) Fq:=by
 intro J s Y H x y v u Q I rx ry h;obtain⟨l,b,xs,zs,rfl,rfl,hH,hB,hz,q⟩:=h;cases rx;cases ry;obtain⟨z,its,n,r,hl,e⟩:=I.lstM hH;obtain⟨z2,its2,n2,r2,hl2,e2⟩:=I.lstM hB;show PySem.P.add_list e e2 ?_ (by rw[G6,G6]; omega)
 have ea:its.toArray++its2.toArray=(its++its2).toArray:=by simp
 rw[ea];exact#[.ref _,_,I.lnew (t':=s.toks) (r.append r2) (by rw[G3]; omega),rfl,q _ I.fresh]
abbrev Fs:R2:=λx y H Q=>∃l k xs,x=.ref l/\y=.int k/\H l=ba (.lst xs)/\-(2 ^ 63)<=k/\k < 2 ^ 63/\xs.length*k.toNat<=sizeLine/\
 ∀p,H p=gV->Q (.ref p) (be H p (.lst (HB k.toNat xs).flatten))
def xF {α:Type}(xs:GK α)(k:GX):(HB k xs).flatten.length=k*xs.length:=by
 induction k with
 | zero=>simp
 | succ k ih=>rw[II,JK,G3,ih,OL,Nat.add_comm]
def Bc:OpR X (binaryOp .Mult) Fs:=by
 intro J s Y H x y v u Q I rx ry h;obtain⟨l,k,xs,rfl,rfl,hH,h1,h2,hz,q⟩:=h;cases rx;obtain⟨t,rfl⟩:=ry;obtain⟨z,its,n,r,hl,e⟩:=I.lstM hH;have hlen:its.toArray.size*k.toNat<=sizeLine:=by rw[G6,<- hl]; exact hz
 have hcap:¬ its.toArray.size*k.toNat > (2 ^ 63 - 1) / 8:=by
  have:(sizeLine:GX)<=(2 ^ 63 - 1) / 8:=by decide
  omega
 have hfit:¬ (!Oa k)=true:=by
  rw[N9 h1 h2];exact Hh
 have hlong:¬ JM (its.toArray.size*k.toNat)=true:=by
  rw[mC hlen];exact Hh
 have hnew:N8 (λx1 x2=>x1++x2) #[] (HB (if its.toArray.isEmpty=true then 0 else k.toNat) its.toArray)=(HB k.toNat its).flatten.toArray:=by
  have f0:∀m:GX,N8 (λx1 x2=>x1++x2) #[] (HB m its.toArray)=(HB m its).flatten.toArray:=λm=>by
   have:=jR its m [];rw[NV]at this;exact this
  rw[f0];cases its with
  | nil=>simp
  | cons a r'=>rw[Hu (by simp)]
 show wpAny_binaryOp_repeat_ref (T:="list") (U:="int") #v[] #[_,e,rfl] (λs'=>N7 s' k t) noFill_list_mul F.fills_int_mul F.slot_int_rmul repeat_list F.slot_int_index.lookup
  (K9 F.slot_int_rmul (N7 s k t) F.entry_int_rmul (F.args_int_rmul_2 _ _) (int___rmul___int_list k t l its.toArray n)
   #[e,rfl,#[_,e,rfl],K9 F.slot_list_mul #[_,e,rfl] F.entry_list_mul (F.args_list_mul_2 _ _) (M5 l its.toArray n k t hfit hcap hlong) #[e,?_]])
 rw[hnew];exact#[.ref _,_,I.lnew (t':=s.toks) (r.rep k.toNat) (by rw[xF,Nat.mul_comm]; exact hz),rfl,q _ I.fresh]
end
section
variable{X:Cx}{J:GK (GZ×ID)}{Y:St}{H:Hp}{s:GQ}{a:GZ}{y v:V}{u r:GM}{o:GR V}{A:Hy}{E:GM->GQ->Prop}
def Inv.big (I:Inv X J Y H s):sysModules < s.heap.objs.size:=by
 have h:mainGlobals < s.heap.objs.size:=(I.mod.glob.keeps I.bk).lt;exact Nat.lt_trans #v[] h
def kZ {h':HQ}{t':GX}{ob:HO}(I:Inv X J Y H s)(mu:CL (H a))(hs:Je a s.heap h')(he:∃q,h'.get? a=ba q)(new:ObjOk X.prog X.w (be H a ob) h' a ob) :
  Inv X J Y (be H a ob) { s with heap:=h',toks:=t' }:=
 I.write (x:=a) (e:=a) mu (.inl rfl) (λb q hb z=>(hs.2 b hb).trans z) he new
end
noncomputable abbrev VV:GK (V×V)->GK (GM×GM)->Prop:=LJ λp q=>RelV p.1 q.1/\RelV p.2 q.2
end L2
namespace Att
open PySem PySem.W PySem.Calls PyProof.Rows
def iI {P:Mj}{h:HQ}:∀(ns:GK G7) (vs:GK GM),WellAll P h vs (ns.map WData.int)->N3 vs ns:=by
 intro ns
 induction ns with
 | nil=>
  intro vs w;rw[List.map_nil]at w;cases w;exact .nil
 | cons n ns ih=>
  intro vs w;rw[HX]at w;cases w with
  | cons a b=>
   cases a;exact .cons _ _ (ih _ b)
def rE {l:OpenLaw}{n:GX}(hn:l.most=ba n){P:Mj}{h:HQ}{args:GK WData}{vals:GK GM}
  (hpre:l.row.toRowW.claim.pre args=true) (hwl:WellAll P h vals args) :
  ∃a vs ns,vals=[HM a]/\args=[WData.list (ns.map WData.int)]/\h.get? a=ba { cls:=.type "list",data:=.seq vs.toArray }/\N3 vs ns/\ns.length<=n:=by
 have hsh:WShape.hasAll [] args [.list .int]=true:=(pre_splitW hpre).1;have hc:l.pre.holds [] { args:=args }=true:=(pre_splitW hpre).2;obtain⟨d,r,rfl,h1,h2⟩:=hasAllW_cons hsh;obtain rfl:=hasAllW_nil h2;obtain⟨xs,rfl,h3⟩:=hasW_list h1;obtain⟨ns,rfl⟩:=items_int h3;have hlen:ns.length<=n:=by
  unfold OpenLaw.pre at hc;have h4:(WTm.not (.lt (.lit (.int (n:G7))) (.len (.arg 0)))).holds [] { args:=[.list (ns.map .int)] }=true:=by
   have h4:=(holds_andW hc).1;rw[hn]at h4;exact h4
  have h5:=condW_of h4 (w_not (w_lt w_lit (w_len_list (w_arg rfl))));rw[GU]at h5;show Nat.le_of_not_lt λq=>?_
  have q':(n:G7) < ((ns.length:GX):G7):=∅
  first
   | (rw[HN q']at h5; exact absurd h5 #v[])
   | (simp at h5; omega)
 cases hwl with
 | cons w1 w2=>
  cases w2;cases w1 with
  | list ho hall=>exact#[_,_,ns,rfl,rfl,ho,iI ns _ hall,hlen]
def rF (l:OpenLaw)(args:GK WData):l.row.toRowW.claim.post args (.bool true) args=true:=
 postW_of (r:=l.row.toRowW) (X:=(true==true))
  (show WShape.has [] (.bool true) .bool=true by first|rfl|decide|simp[WShape.has,WShape.arms,WShape.armsAll])
  (show(WTm.eq .res (.lit (.bool true))).value [] { args:=args,res:=ba (.bool true),after:=args }=ba (.bool (true==true))from w_eq_bool (w_res rfl) w_lit) rfl
def attach_call {l:OpenLaw}{n:GX}{q:Hs}{loose:GK Ha}{XP:(Ha->GR GM)->HQ->Prop}{YP:HA->HQ->Prop}{d:DefRec}
  (hn:l.most=ba n) (hdf:d.params.defaults=[])
  (call:∀(w:HA) (s₀ s₁:GQ) (mg mb:Ha->GR GM) (fa:GZ) (o:ID) (pm cd doc:GM) (a:GZ) (vs:GK GM) (ns:GK G7),
   Ground q loose [] XP w s₀ mg mb s₁.heap->YP w s₁.heap->
   s₁.heap.get? fa=ba o->o.data=.func (docDef d.name d.params d.body d.scope pm cd doc)->s₁.heap.CodeRec cd d.name->mg d.name=ba (.ref fa)->
   s₁.heap.get? a=ba { cls:=.type "list",data:=.seq vs.toArray }->N3 vs ns->ns.length<=n->s₁.gens=#[]->
   codeAny (model l.prog w) callerA (.call (.ref fa) #[[.ref a],[]]) (λr s'=>r=.ok (.ret (.bool true))/\OldK s₁.heap s'.heap/\s'.os=s₁.os/\Ln s'.gens) s₁) :
  WalkO q loose XP YP l.row.toRowW d [] (λf vs=>Ob f vs):=by
 intro w s₀ s₁ mg mb G Yq fa o pm cd doc dV kV ho hd hcd hD hmg hg args vals as hpre hlay hrd hwl hlo;obtain rfl:dV=.none:=Dflts.none hD hdf;obtain rfl:kV=.none:=Dflts.noKw hD;obtain⟨a,vs,ns,rfl,rfl,hobj,hints,hlen⟩:=rE hn hpre hwl;show enter_call (Kx (call w s₀ s₁ mg mb fa o pm cd doc a vs ns G Yq ho (fd_plain hd) hcd hmg hobj hints hlen hg) λr s' hq=>?_)
 obtain⟨rfl,h2,h3,h4⟩:=hq;exact#[.inl #[.bool true,.bool true,[],rfl,λ_=>rfl,.bool true,rF l _,λ_=>#[Ph,λ_ hm=>(nomatch hm)]],h2,h3,h4]
end Att
namespace L2
open PySem PySem.Spec PyProof.Rows
def jS:∀ {vs:GK GM} {ns:GK G7},N3 vs ns->Vals (ns.map V.int) vs
 | _,_,.nil=>.nil
 | _,_,.cons n t h=>.cons #[t,rfl] (jS h)
abbrev tJ (H:Hp):Prop:=∀b,H b=gV\/∃o xs,H b=ba (.frz o (.lst xs))
def tK {P:Hs}{w:HA}{K:G0}{mg mb:Ha->GR GM}{CX:tj}{k:GX}{fa a:GZ}{fd:JB}{x:Ha}{sp:Sp}{s₁:GQ}{vs:GK GM}{ns:GK G7}
  (KX:K.In s₁.heap) (hns:s₁.heap.Ns mainGlobals mg) (hb:s₁.heap.Ns builtinsNs mb) (hbb:∀x:Ha,x≠"__name__"->mb x=bootBuiltins x) (hlim:s₁.heap.NoLimit) (hg:s₁.gens=#[])
  (ha:s₁.heap.get? a=ba { cls:=.type "list",data:=.seq vs.toArray }) (hi:N3 vs ns) (hl:ns.length<=sizeLine) (hr:Room k callerA)
  (F:∀base:HQ,K.In base->base.Ns mainGlobals mg->FnOk P w K mg base CX k fa fd [x] sp) (hbind:∀(s:GQ) (u:GM),Nb s fd #[[u],[]] [(x,u)])
  (hsp:∀H:Hp,tJ H->SqL K H a (ns.map V.int)->sp [.ref a] H (λv _=>v=.bl true) λ_ _ _=>Iq)
  (hCX:∀H e s',CX [] H s₁ (λ_ _ _=>Iq) e s'->Iq) :
  codeAny (model P w) callerA (.call (.ref fa) #[[.ref a],[]]) (λr s'=>r=.ok (.ret (.bool true))/\OldK s₁.heap s'.heap/\s'.os=s₁.os/\Ln s'.gens) s₁:=by
 have rv:=jS hi;have lenV:=hi.length;have core:∀H:Hp,tJ H->SqL K H a (ns.map V.int)->HOk P w H s₁.heap->(∀b,H b≠gV->b=a)->(H a≠gV->K.lookup a=gV)->
   codeAny (model P w) callerA (.call (.ref fa) #[[.ref a],[]]) (λr s'=>r=.ok (.ret (.bool true))/\OldK s₁.heap s'.heap/\s'.os=s₁.os/\Ln s'.gens) s₁:=by
  intro H hO hS hok hA hK;have base_of:∀ {b:GZ} {o:ID},s₁.heap.get? b=ba o->H b=gV->(kO s₁.heap H).get? b=ba o:=λe n=>sM e n
  have noA:∀ {b:GZ} {o:ID} {es:HD Jm} {ep:GX},s₁.heap.get? b=ba o->o.data=.dict es ep->H b=gV:=λ{b o es ep} e d=>by
   cases q:H b with
   | none=>rfl
   | some u=>
    have e':b=a:=hA b (by rw[q]; simp)
    subst e';rw[ha]at e; cases e
    have d':Data.seq vs.toArray _=Data.dict es ep:=d;cases d'
  have nsK:∀ {b:GZ} {m:Ha->GR GM},s₁.heap.Ns b m->(kO s₁.heap H).Ns b m:=λ{b m} #[o,es,ep,e,d,r]=>#[o,es,ep,base_of e (noA e d),d,r]
  have hKb:K.In (kO s₁.heap H):=λb o e=>base_of (KX b o e) (by
   cases q:H b with
   | none=>rfl
   | some u=>
    have e':b=a:=hA b (by rw[q]; simp)
    subst e';rw[hK (by rw[q]; simp)]at e; cases e)
  have hM:Mod K mg (kO s₁.heap H):=#[hKb,nsK hns,#[mb,nsK hb,hbb],let ⟨mc,h1,h2⟩:=hlim; #[mc,nsK h1,h2]]
  have e0:Env0 P w K mg (kO s₁.heap H) callerA [] s₁ H:=#[rfl,hM,λb o e=>w8 e,Nat.le_of_eq (rg _ _),trivial,λb hb=>absurd (show b∈([]:GK GZ)from hb) (by simp),hok,.of_eq hg]
  show Kx ((F _ hKb (nsK hns)).run callerA [] s₁ H #[[.ref a],[]] [.ref a] [.ref a] _ _ hr e0 (hbind s₁ (.ref a)) #v[rfl] (hsp H hO hS)) λr s' h=>?_
  cases r with
  | error e=>exact(hCX H e s' h).elim
  | ok fl=>
   cases fl with
   | next=>exact Iq.elim h
   | brk=>exact Iq.elim h
   | cont=>exact Iq.elim h
   | ret u=>
    obtain⟨v,H',os,bare,un,hok',r',q⟩:=h;have q':v=.bl true:=q;subst q';obtain rfl:u=Jp true:=r';show#[rfl,OldK.of_keep λb o e=>?_,os,bare]
    cases q:H b with
    | none=>exact un.keep b o e q (by intro z; exact absurd (show b∈([]:GK GZ)from z) (by simp)) (by simp)
    | some u=>
     rcases hO b with z|⟨ob,xs,z⟩
     ·rw[q]at z; cases z
     ·have z2:=un.frzs b ob _ z;obtain⟨e1,_⟩:=hok b _ z;obtain⟨e2,_⟩:=hok' b _ z2;rw[e]at e1; cases e1
      exact e2
 cases hk:K.lookup a with
 | some o=>
  have e:=KX a o hk;rw[ha]at e;cases e;show core (λ_=>gV) (λ_=>.inl rfl) (.inr #[_,vs.toArray,_,hk,rfl,rfl,rfl,by rw[G6,lenV]; exact hl,by simpa using rv]) (λb u z=>by have z':(gV:GR HO)=ba u:=z; cases z') (λb z=>absurd rfl z) λz=>absurd rfl z
 | none=>
  show core (λb=>if b=a then ba (.frz { cls:=.type "list",data:=.seq vs.toArray } (.lst (ns.map V.int)))else gV) (λb=>?_) (.inl (.inr #[{ cls:=.type "list",data:=.seq vs.toArray },Hk rfl])) (λb u z=>?_) (λb z=>?_) λ_=>hk
  ·by_cases hb:b=a
   ·exact .inr #[_,_,Hk hb]
   ·exact .inl (Hu hb)
  ·by_cases hb:b=a
   ·have z':=(Hk hb).symm.trans z;cases z';subst hb;exact#[ha,by rw[GU]; exact hl,vs,_,rv,ha]
   ·have z':=(Hu hb).symm.trans z;cases z'
  ·by_cases hb:b=a
   ·exact hb
   ·exact absurd (Hu hb) z
def xG {l:LX}{n k:GX}{q:Hs}{loose:GK Ha}{XP:(Ha->GR GM)->HQ->Prop}{YP:HA->HQ->Prop}{d:DefRec}{K:Mj->G0}{CX:HA->tj}{sp:HA->Sp}{x:Ha}
  (hn:l.most=ba n) (hn2:n<=sizeLine) (hdf:d.params.defaults=[]) (hr:Room k callerA)
  (hY:∀(w:HA) (h:HQ),YP w h->(K w.params).In h)
  (F:∀(w:HA) (mg:Ha->GR GM) (fa:GZ) (h:HQ),(K w.params).In h->h.Ns mainGlobals mg->mg d.name=ba (.ref fa)->
   ∃fd:JB,(∀(s:GQ) (u:GM),Nb s fd #[[u],[]] [(x,u)])/\
    ∀base:HQ,(K w.params).In base->base.Ns mainGlobals mg->FnOk l.prog w (K w.params) mg base (CX w) k fa fd [x] (sp w))
  (hsp:∀(w:HA) (H:Hp) (a:GZ) (ns:GK G7),ns.length<=n->tJ H->SqL (K w.params) H a (ns.map V.int)->sp w [.ref a] H (λv _=>v=.bl true) λ_ _ _=>Iq)
  (hCX:∀(w:HA) (H:Hp) (s:GQ) (e:GM) (s':GQ),CX w [] H s (λ_ _ _=>Iq) e s'->Iq) :
  Ov q loose XP YP l.row.toRowW d [] (λf vs=>Ob f vs):=by
 show Att.attach_call hn hdf λw s₀ s₁ mg mb fa o pm cd doc a vs ns G Yq ho hd hcd hmg hobj hints hlen hg=>?_
 have KX:=hY w _ Yq;obtain⟨fd,hb,hF⟩:=F w mg fa _ KX G.T.g hmg;exact tK KX G.T.g G.T.b G.T.builtins G.T.nolimit hg hobj hints (Hz hlen hn2) hr hF hb (λH hO hS=>hsp w H a ns hlen hO hS) λH e s'=>hCX w H s₁ e s'
abbrev cO (s:JO):Arguments:=match s with
 | .FunctionDef _ a _ _ _ _ _ _ _ _=>a
 | _=>{ posonlyargs:=[],args:=[],vararg:=gV,kwonlyargs:=[],kw_defaults:=[],kwarg:=gV,defaults:=[] }
abbrev bM (s:JO):GK JO:=match s with
 | .FunctionDef _ _ b _ _ _ _ _ _ _=>b
 | _=>[]
abbrev aN (s:JO):J4:=match s with
 | .FunctionDef _ _ _ _ _ _ sc _ _ _=>sc
 | _=>{ kind:=.function,names:=[],isGenerator:=false,isCoroutine:=false }
noncomputable abbrev sL:tj:=λ_ _ _ _ _ _=>Iq
noncomputable abbrev E0:XK:=λ_ _ _=>Iq
def zN {X:Cx}:kR sL X E0:=λ_ _ _ _ _ _ _ h=>h.elim
structure Fun (K:G0)(x qual:Ha)(st:JO)(f:GZ)(fd:JB):Prop where
 ex:∃(oc:GM) (od:GR GZ) (kV doc pm:GM) (an:GR GZ) (cdv ct:GM) (osl:HD (GR GM)),
  fd=Jf x qual (cO st) (bM st) (aN st) .none kV doc pm an cdv ct/\K.lookup f=ba #[oc,od,.func fd,osl]/\JT K cdv qual=true
 kp:Iz K (.ref f)=true
section
variable{P:Hs}{w:HA}{K:G0}{mg:Ha->GR GM}{base:HQ}
def Fun.ok {x qual:Ha}{st:JO}{f:GZ}{fd:JB}{N ps:GK Ha}{k:GX}{sp:Sp}(F:Fun K x qual st f fd)(S:FnScope N ps (aN st))(len:∀vs H Q E,sp vs H Q E->vs.length=ps.length)
  (hbody:∀(cdv:GM) (A:Hy) (outer:GK M7) (s:GQ) (H:Hp) (vs:GK V) (Q:VK) (E:XK),Room k (A.deeper (envOfC qual (aN st) s.heap.objs.size f cdv))->sp vs H Q E->
   ∃t,PSs (oO sL P w K mg base N qual (aN st) f cdv A outer s H E).nox (bM st) t/\t { nx:=λ_ H'=>Q .non H',rt:=Q } (eG N vs) H):FnOk P w K mg base sL (k+1) f fd ps sp:=by
 obtain⟨oc,od,kV,doc,pm,an,cdv,ct,osl,rfl,lk,hcd⟩:=F.ex;show Dg lk hcd S len λA outer s H vs Q E hr hsp=>?_
 obtain⟨t,h,q⟩:=hbody cdv A outer s H vs Q E hr hsp;exact#[t,h.nox,q]
def Fun.binds {x qual:Ha}{st:JO}{f:GZ}{fd:JB}{ps:GK Ha}(F:Fun K x qual st f fd)
  (h:∀(kV doc pm:GM) (an:GR GZ) (cdv ct:GM) (us:GK GM),us.length=ps.length->bindArgs (Jf x qual (cO st) (bM st) (aN st) .none kV doc pm an cdv ct) #[us,[]]=pure (ps.zip us)):Binds K fd ps []:=by
 obtain⟨oc,od,kV,doc,pm,an,cdv,ct,osl,rfl,lk,hcd⟩:=F.ex;exact .all (h kV doc pm an cdv ct)
def tL {x qual:Ha}{st:JO}{f:GZ}{oc:GM}{od an:GR GZ}{osl:HD (GR GM)}{kV doc pm cdv ct:GM}(l:K.lookup f=ba #[oc,od,.func (Jf x qual (cO st) (bM st) (aN st) .none kV doc pm an cdv ct),osl])
  (c:JT K cdv qual=true) (k:Iz K (.ref f)=true):Fun K x qual st f (Jf x qual (cO st) (bM st) (aN st) .none kV doc pm an cdv ct):=#[#[oc,od,kV,doc,pm,an,cdv,ct,osl,rfl,l,c],k]
end
section
variable{X:Cx}
def pv (i:GX){x:Ha}{pos:Jt}(hN:X.N[i]?=ba x:=by rfl)(hv:EI X.env.scope x)(hd:(x==("__debug__" : Ha))=false:=by decide)
  (hcd:(x==("__classdict__" : Ha))=false:=by decide):PE X (.Name x pos) (As i):=sN hN hv hd hcd
end
end L2
namespace Mi
open PySem PySem.Spec PyProof.Rows L2
abbrev Dl (w:HA):Hr:=w.params.followText "set-order"
abbrev Gv (w:HA)(e:G7×GM):Prop:=∃x tk,e=(hashStr w x,.str x tk)
structure Tabs (w:HA)(xs:GK Ha)(es:HD (G7×GM))(t:KA):Prop where
 el:∀e∈es.toList,Gv w e
 pm:(es.toList.map λe=>strOf e.2).Perm xs
 nd:xs.Nodup
 few:xs.length < scanBound
 fit:t.fits es.size=true
 led:t.led = !Dl w
 pl:t.plain=true->es.size=0
abbrev dN (w:HA)(xs:GK Ha)(o:ID):Prop:=o.ExactSet/\∃es ep t,o.data=.set es ep t/\Tabs w xs es t
section
variable{prog:Hs}{w:HA}{A:Hy}{E:GM->GQ->Prop}{s:GQ}{xs:GK Ha}{es:HD (G7×GM)}{t:KA}
def xH {x y:Ha}{tk:Pq}:(J2 prog w).is x (.str y tk)=true↔y=x:=by
 show(y==x)=true↔y=x;exact beq_iff_eq
def Tabs.elems (h:Tabs w xs es t):ElemsOf (J2 prog w) es.toList:=λe he=>by
 obtain⟨x,tk,rfl⟩:=h.el e he;exact#[#[x,xH.mpr rfl,rfl],rfl]
def Tabs.size (h:Tabs w xs es t):es.size=xs.length:=by rw[<- h.pm.length_eq,GU,Hg]
def Tabs.has (h:Tabs w xs es t)(x:Ha):(∃e∈es.toList,(J2 prog w).is x e.2=true)↔x∈xs:=by
 rw[<- h.pm.mem_iff,Hl];constructor
 ·rintro⟨e,he,q⟩;obtain⟨y,tk,rfl⟩:=h.el e he;exact#[_,he,xH.mp q]
 ·rintro⟨e,he,q⟩;obtain⟨y,tk,rfl⟩:=h.el e he;exact#[_,he,xH.mpr q]
def oU (t:KA)(es:HD (G7×GM))(h:G7)(x:GM):(layNew t es h x).2.1.led=t.led:=by
 unfold layNew;split
 ·unfold Pd;dsimp only;split <;> rfl
 ·rfl
def rG (t:KA)(es:HD (G7×GM))(n:GX):(relayAll t es n).2.1.led=t.led/\((relayAll t es n).2.1.plain=true->t.plain=true):=by
 unfold relayAll;split
 ·rename_i t' order h;dsimp only;split
  ·unfold Ps PF at h;rw[Option.bind_eq_bind,Option.bind_eq_some_iff]at h;obtain⟨ow,_,h⟩:=h;cases h;exact#[rfl,λz=>z]
  ·exact#[rfl,λz=>by cases z]
 ·exact#[rfl,λz=>by cases z]
def pY {a:GZ}{o:ID}{es1:HD (G7×GM)}{ep:GX}{t1:KA}{Q:O8->GQ->Prop}(ho:s.heap.get? a=ba o)(hex:o.ExactSet)(hd:o.data=.set es ep t)(T:Tabs w xs es1 t1)
  (h:∀h',Je a s.heap h'->h'.get? a=ba { o with data:=.set es1 (ep+1) t1 }->Q () { s with heap:=h' }):wpAny (model prog w) A (storeSet a es1 t1) Q E s:=by
 show wpAny_storeSet_of ho hd (h _ (JR ..) ?_) (by rw[T.size]; exact fits_of_scanBound T.few)
 have:=Jc (Obj.putSet es1 t1) ho (by rw[putSet_of es1 t1 hd]; rfl)
 rw[putSet_of es1 t1 hd]at this;exact this
def xI {a:GZ}{o:ID}{x:Ha}{tk:Pq}{Q:Hr->GQ->Prop}(ho:s.heap.get? a=ba o)(hS:dN w xs o)(hr:xs.length+1 < scanBound)
  (h:∀b h' o',Je a s.heap h'->h'.get? a=ba o'->dN w (if x∈xs then xs else xs++[x]) o'->Q b { s with heap:=h' }):wpAny (model prog w) A (setAddHashed a (.str x tk) (hashStr w x)) Q E s:=by
 obtain⟨hex,es,ep,t,hd,T⟩:=hS;have hk:(J2 prog w).is x (.str x tk)=true:=xH.mpr rfl;have hx:=T.has (prog:=prog) x;unfold setAddHashed setAddHashedIn;show Ir (GL (wpAny_setState_of ho hd T.fit ?_));dsimp only;rw[byScan_of (knd:=J2 prog w) rfl (by rw[T.size]; exact T.few) T.elems]
 simp only[↓reduceIte];unfold setAddByScan;show GL (GL (KI (GL (wpAny_setScan_of (knd:=J2 prog w) hk ho hd T.fit T.elems ?_))));cases q:es.toList.findIdx? (λe=>(J2 prog w).is x e.2)with
 | some j=>
  obtain⟨hj,hp,_⟩:=Kv.mp q;have hm:x∈xs:=hx.mp #[_,HP hj,hp];dsimp only;have:=h false s.heap o (Nj ..) ho (by rw[Hk hm]; exact#[hex,es,ep,t,hd,T])
  exact GY (GY this)
 | none=>
  have hm:x∉xs:=λz=>by
   obtain⟨e,he,hp⟩:=hx.mpr z;rw[List.findIdx?_eq_none_iff.mp q e he]at hp;cases hp
  rw[Hu hm]at h;dsimp only;have lp:=layNew_perm t es (hashStr w x) (.str x tk);have lf:=layNew_fits t es (hashStr w x) (.str x tk);have ll:=oU t es (hashStr w x) (.str x tk);have hgen:∀(b:Hr) {s₁:GQ} {Q':O8->GQ->Prop},Q' () s₁->wpAny (model prog w) A (match b with|true=>rule "set.scan.the-table-gave-way"|false=>pure ()) Q' E s₁:=λb s₁ Q' hq=>by cases b <;> first|exact GY hq|exact KI hq
  generalize hL:layNew t es (hashStr w x) (.str x tk)=L at lp lf ll ⊢;obtain⟨es1,t1,dm,gv⟩:=L;dsimp only at lp lf ll ⊢;rw[Array.toList_push]at lp;have T1:∀p,Tabs w (xs++[x]) es1 { t1 with plain:=p }\/p=true:=λp=>by
   cases p with
   | true=>exact .inr rfl
   | false=>
    show .inl #[λe he=>?_,(lp.map λe=>strOf e.2).trans ?_,?_,by simpa using hr,OG lf,ll.trans T.led,λz=>by cases z]
    ·rcases HU.mp (lp.mem_iff.mp he)with he|he
     ·exact T.el e he
     ·rw[Hc.mp he]; exact#[x,tk,rfl]
    ·rw[HK];exact T.pm.append_right _
    ·exact Jn.mpr #[T.nd,by simp,λy hy z hz e=>hm (by rw[Hc.mp hz]at e; exact e ▸ hy)]
  have fin:∀(g:Hr->OP O8),(∀(b:Hr) (s₁:GQ) (Q':O8->GQ->Prop),Q' () s₁->wpAny (model prog w) A (g b) Q' E s₁)->∀t2:KA,Tabs w (xs++[x]) es1 t2->wpAny (model prog w) A (do
    storeSet a es1 t2
    if (!dm&&t2.tooFull)=true then do
      g (relayAll t2 es1 (JU es1.size)).2.2
      storeSet a (relayAll t2 es1 (JU es1.size)).1 (relayAll t2 es1 (JU es1.size)).2.1
      pure (ba true)
     else pure (ba true)) (λr s'=>wpAny (model prog w) A (match r with|some b=>pure b|none=>setAddHashedIn a (.str x tk) (hashStr w x) 99999) Q E s') E s:=λg hg t2 T2=>by
   show GL (pY ho hex hd T2 λh1 sb1 o1=>?_)
   show wpAny_ite_split (λ_=>?_) (λ_=>GY (GY (h _ _ _ sb1 o1 #[hex,_,_,_,rfl,T2])))
   have rp:=relayAll_perm t2 es1 (JU es1.size);have rf:=relayAll_fits t2 es1 (JU es1.size);have rt:=rG t2 es1 (JU es1.size);generalize hR:relayAll t2 es1 (JU es1.size)=R at rp rf rt ⊢;obtain⟨es2,t3,g2⟩:=R;dsimp only at rp rf rt ⊢;have T3:Tabs w (xs++[x]) es2 t3:=#[λe he=>T2.el e (rp.mem_iff.mp he),(rp.map _).trans T2.pm,T2.nd,T2.few,rf,rt.1.trans T2.led,λz=>by
    have:=T2.pl (rt.2 z);rw[<- Hg,rp.length_eq,Hg]; exact this]
   show GL (hg _ _ _ ?_);show GL (pY o1 hex rfl T3 λh2 sb2 o2=>?_)
   exact GY (GY (h _ _ _ (sb1.trans sb2) o2 #[hex,_,_,_,rfl,T3]))
  show GL (hgen _ ?_);split
  ·show GL ?_;rw[hashByValue_scannable 8 rfl];show GY ?_;exact fin _ (λb _ _ hq=>hgen b hq) _ ((T1 false).resolve_right Hh)
  ·rename_i hp;show GL (GY ?_);have e:({ t1 with plain:=false }:KA)=t1:=by
    obtain⟨_,_,_,_,_,_,p⟩:=t1;cases p with
    | false=>rfl
    | true=>exact absurd rfl hp
   simp only[↓reduceIte];exact fin _ (λb _ _ hq=>hgen b hq) _ (e ▸ (T1 false).resolve_right Hh)
end
inductive W where
 | non|bl (b:Hr)|int (i:G7)|str (x:Ha)|tup (xs:GK W)|ref (i:GX)
inductive T where
 | int (i:G7)|str (x:Ha)|tup (xs:GK T)
mutual
def T.beq:T->T->Hr
 | .int i,.int j=>i==j
 | .str x,.str y=>x==y
 | .tup xs,.tup ys=>T.beqs xs ys
 | _,_=>false
def T.beqs:GK T->GK T->Hr
 | [],[]=>true
 | x::xs,y::ys=>T.beq x y&&T.beqs xs ys
 | _,_=>false
end
mutual
theorem T.beq_iff:∀x y:T,T.beq x y=true↔x=y
 | .int i,.int j=>by simp[T.beq]
 | .str x,.str y=>by simp[T.beq]
 | .tup xs,.tup ys=>by simp[T.beq,T.beqs_iff xs ys]
 | .int _,.str _|.int _,.tup _|.str _,.int _|.str _,.tup _|.tup _,.int _|.tup _,.str _=>by simp[T.beq]
theorem T.beqs_iff:∀xs ys:GK T,T.beqs xs ys=true↔xs=ys
 | [],[]=>by simp[T.beqs]
 | x::xs,y::ys=>by simp[T.beqs,T.beq_iff x y,T.beqs_iff xs ys]
 | [],_::_|_::_,[]=>by simp[T.beqs]
end
noncomputable instance:J6 T:=λx y=>decidable_of_iff (T.beq x y=true) (T.beq_iff x y)
mutual
def T.w:T->W
 | .int i=>.int i
 | .str x=>.str x
 | .tup xs=>.tup (T.ws xs)
def T.ws:GK T->GK W
 | []=>[]
 | x::xs=>T.w x::T.ws xs
end
mutual
def W.t:W->GR T
 | .int i=>ba (.int i)
 | .str x=>ba (.str x)
 | .tup xs=>(W.ts xs).map .tup
 | _=>gV
def W.ts:GK W->GR (GK T)
 | []=>ba []
 | x::xs=>match W.t x,W.ts xs with
  | some y,ba ys=>ba (y::ys)
  | _,_=>gV
end
mutual
theorem W.t_w:∀ {w:W} {k:T},W.t w=ba k->k.w=w
 | .int i,_,h=>by cases h; rfl
 | .str x,_,h=>by cases h; rfl
 | .tup xs,_,h=>by
  simp only[W.t,GP]at h;obtain⟨ks,h1,h2⟩:=h;subst h2;simp only[T.w,W.ts_w h1]
 | .non,_,h|.bl _,_,h|.ref _,_,h=>by cases h
theorem W.ts_w:∀ {ws:GK W} {ks:GK T},W.ts ws=ba ks->T.ws ks=ws
 | [],_,h=>by cases h; rfl
 | w::ws,_,h=>by
  simp only[W.ts]at h;split at h
  ·rename_i y ys h1 h2;cases h;simp only[T.ws,W.t_w h1,W.ts_w h2]
  ·cases h
end
mutual
theorem T.w_t:∀k:T,W.t k.w=ba k
 | .int _=>rfl
 | .str _=>rfl
 | .tup xs=>by simp only[T.w,W.t,T.ws_ts xs,HC]
theorem T.ws_ts:∀ks:GK T,W.ts (T.ws ks)=ba ks
 | []=>rfl
 | x::xs=>by simp only[T.ws,W.ts,T.w_t x,T.ws_ts xs]
end
mutual
def T.depth:T->GX
 | .tup xs=>T.depths xs+1
 | _=>0
def T.depths:GK T->GX
 | []=>0
 | x::xs=>max (T.depth x) (T.depths xs)
end
mutual
def T.draws:T->GX
 | .tup xs=>T.drawss xs+1
 | _=>1
def T.drawss:GK T->GX
 | []=>0
 | x::xs=>T.draws x+T.drawss xs
end
mutual
def mD (wd:HA):T->G7
 | .int i=>hashInt i
 | .str x=>hashStr wd x
 | .tup xs=>reduceHash (Li (i3 wd xs))
def i3 (wd:HA):GK T->GK G7
 | []=>[]
 | x::xs=>mD wd x::i3 wd xs
end
abbrev T.isTup:T->Hr
 | .tup _=>true
 | _=>false
abbrev aJ:GX:=6
inductive O where
 | lst (xs:GK W)
 | fro (xs:GK W)
 | sts (xs:GK Ha)
 | rng (lo hi:G7)
 | dic (U:GK (T×W))
 | frd (U:GK (T×W))
noncomputable abbrev aa:=GK O
noncomputable abbrev Fm:=GK (GR W)
section
variable (K:G0) (A:GK GZ) (H:Hp)
mutual
inductive Rel:W->V->Prop
 | non:Rel .non .non
 | bl {b:Hr}:Rel (.bl b) (.bl b)
 | int {i:G7}:Rel (.int i) (.int i)
 | str {x:Ha}:Rel (.str x) (.str x)
 | tup {ws:GK W} {a:GZ} {vs:GK V}:SqT K H a vs->RelL ws vs->Rel (.tup ws) (.ref a)
 | ref {i:GX} {a:GZ}:A[i]?=ba a->Rel (.ref i) (.ref a)
inductive RelL:GK W->GK V->Prop
 | nil:RelL [] []
 | cons {w:W} {v:V} {ws:GK W} {vs:GK V}:Rel w v->RelL ws vs->RelL (w::ws) (v::vs)
end
end
section
variable{K:G0}{A A' A'':GK GZ}{H H' H'':Hp}
structure Ext (K:G0)(A:GK GZ)(H:Hp)(A':GK GZ)(H':Hp):Prop where
 ad:∀(i:GX) (a:GZ),A[i]?=ba a->A'[i]?=ba a
 tp:∀(a:GZ) (vs:GK V),SqT K H a vs->SqT K H' a vs
 fz:∀(a:GZ) (o:ID) (u:HO),H a=ba (.frz o u)->H' a=ba (.frz o u)
def Ext.refl:Ext K A H A H:=#[λ_ _ h=>h,λ_ _ h=>h,λ_ _ _ h=>h]
def Ext.trans (e:Ext K A H A' H')(f:Ext K A' H' A'' H''):Ext K A H A'' H'':=#[λi a h=>f.ad i a (e.ad i a h),λa vs h=>f.tp a vs (e.tp a vs h),λa o u h=>f.fz a o u (e.fz a o u h)]
mutual
theorem Rel.mono (e:Ext K A H A' H'):∀ {w:W} {v:V},Rel K A H w v->Rel K A' H' w v
 | _,_,.non=>.non
 | _,_,.bl=>.bl
 | _,_,.int=>.int
 | _,_,.str=>.str
 | _,_,.tup h r=>.tup (e.tp _ _ h) (RelL.mono e r)
 | _,_,.ref h=>.ref (e.ad _ _ h)
theorem RelL.mono (e:Ext K A H A' H'):∀ {ws:GK W} {vs:GK V},RelL K A H ws vs->RelL K A' H' ws vs
 | _,_,.nil=>.nil
 | _,_,.cons r t=>.cons (Rel.mono e r) (RelL.mono e t)
end
def RelL.length:∀ {ws:GK W} {vs:GK V},RelL K A H ws vs->ws.length=vs.length
 | _,_,.nil=>rfl
 | _,_,.cons _ t=>by simp[RelL.length t]
def RelL.get:∀ {ws:GK W} {vs:GK V} {i:GX} {w:W},RelL K A H ws vs->ws[i]?=ba w->∃v,vs[i]?=ba v/\Rel K A H w v
 | _,_,_,_,.nil,e=>by simp at e
 | _,_,0,_,.cons r _,e=>by simp at e; subst e; exact#[_,rfl,r]
 | _,_,i+1,w,.cons _ t,e=>by
  obtain⟨u,h1,h2⟩:=RelL.get (i:=i) (w:=w) t (by simpa using e)
  exact#[u,by simpa using h1,h2]
def RelL.append:∀ {xs ys:GK W} {us ws:GK V},RelL K A H xs us->RelL K A H ys ws->RelL K A H (xs++ys) (us++ws)
 | _,_,_,_,.nil,s=>s
 | _,_,_,_,.cons r t,s=>.cons r (RelL.append t s)
def RelL.take:∀ {xs:GK W} {us:GK V} (n:GX),RelL K A H xs us->RelL K A H (xs.take n) (us.take n)
 | _,_,0,_=>.nil
 | _,_,_+1,.nil=>.nil
 | _,_,n+1,.cons r t=>.cons r (RelL.take n t)
def RelL.drop:∀ {xs:GK W} {us:GK V} (n:GX),RelL K A H xs us->RelL K A H (xs.drop n) (us.drop n)
 | _,_,0,r=>r
 | _,_,_+1,.nil=>.nil
 | _,_,n+1,.cons _ t=>RelL.drop n t
def RelL.set {x:W}{u:V}(r:Rel K A H x u):∀ {xs:GK W} {us:GK V} (i:GX),RelL K A H xs us->RelL K A H (xs.set i x) (us.set i u)
 | _,_,_,.nil=>.nil
 | _,_,0,.cons _ t=>.cons r t
 | _,_,i+1,.cons q t=>.cons q (RelL.set r i t)
def RelL.rep {xs:GK W}{us:GK V}(h:RelL K A H xs us):∀k:GX,RelL K A H (HB k xs).flatten (HB k us).flatten
 | 0=>.nil
 | k+1=>by
  rw[II,II,JK,JK];exact RelL.append h (RelL.rep h k)
def RelL.eraseIdx:∀ {xs:GK W} {us:GK V} (i:GX),RelL K A H xs us->RelL K A H (xs.eraseIdx i) (us.eraseIdx i)
 | _,_,_,.nil=>.nil
 | _,_,0,.cons _ t=>t
 | _,_,i+1,.cons r t=>.cons r (RelL.eraseIdx i t)
abbrev FroL (K:G0)(H:Hp)(a:GZ)(vs:GK V):Prop:=
 (∃o,H a=ba (.frz o (.lst vs)))\/
  ∃(o:ID) (its:HD GM) (n:GX),K.lookup a=ba o/\o.cls=.type "list"/\o.dict=gV/\o.data=.seq its n/\its.size<=sizeLine/\Vals vs its.toList
def FroL.sq {a:GZ}{vs:GK V}(h:FroL K H a vs):SqL K H a vs:=by
 rcases h with⟨o,h⟩|h
 ·exact .inl (.inr #[o,h])
 ·exact .inr h
abbrev tM (wd:HA)(x:T×GZ×GM):Jm:=#[mD wd x.1,.ref x.2.1,x.2.2]
abbrev DicAt (wd:HA)(a:GZ)(xs:GK (T×GZ×GM))(h:HQ):Prop:=
 xs.length<=sizeLine/\(a==sysModules)=false/\(xs.map (·.1)).Nodup/\∃o es ep,h.get? a=ba o/\o.ExactDict/\o.data=.dict es ep/\es.toList=xs.map (tM wd)
abbrev da (wd:HA)(a:GZ)(xs:GK (T×GZ×GM)):HO:=.ext (DicAt wd a xs)
abbrev KRel (K:G0)(A:GK GZ)(H:Hp):GK (T×W)->GK (T×GZ×GM)->Prop:=
 LJ λ(p:T×W) (q:T×GZ×GM)=>p.1=q.1/\p.1.isTup=true/\p.1.depth<=aJ/\Rel K A H p.1.w (.ref q.2.1)/\∃v,Rel K A H p.2 v/\RelV v q.2.2
def KRel.mono (e:Ext K A H A' H'){U:GK (T×W)}{xs:GK (T×GZ×GM)}(h:KRel K A H U xs):KRel K A' H' U xs:=
 Paired.mapP h λ_ _ #[h1,h2,h3,h4,v,h5,h6]=>#[h1,h2,h3,h4.mono e,v,h5.mono e,h6]
variable{wd:HA}
abbrev ObjRel (wd:HA)(K:G0)(A:GK GZ)(H:Hp)(a:GZ):O->Prop
 | .lst ws=>∃vs,H a=ba (.lst vs)/\RelL K A H ws vs
 | .fro ws=>∃vs,FroL K H a vs/\RelL K A H ws vs
 | .sts xs=>∃o φ,H a=ba (.frz o (.ext φ))/\dN wd xs o
 | .rng lo hi=>H a=ba (.rng lo hi)
 | .dic U=>∃xs,H a=ba (da wd a xs)/\KRel K A H U xs
 | .frd U=>∃o xs,H a=ba (.frz o (da wd a xs))/\KRel K A H U xs
abbrev O.mut:O->Hr
 | .fro _=>false
 | .sts _=>false
 | .rng _ _=>false
 | .frd _=>false
 | _=>true
structure StoreOk (wd:HA)(K:G0)(A:GK GZ)(H:Hp)(S:aa):Prop where
 len:A.length=S.length
 nd:∀(i j:GX) (a:GZ) (o u:O),S[i]?=ba o->o.mut=true->S[j]?=ba u->u.mut=true->A[i]?=ba a->A[j]?=ba a->i=j
 obj:∀(i:GX) (o:O) (a:GZ),S[i]?=ba o->A[i]?=ba a->ObjRel wd K A H a o
abbrev EnvRel (K:G0)(A:GK GZ)(H:Hp)(Z:Fm)(Y:L2.St):Prop:=
 Z.length=Y.length/\∀(i:GX) (w:W),Z[i]?=ba (ba w)->∃v,Y[i]?=ba (ba v)/\Rel K A H w v
def EnvRel.mono {Z:Fm}{Y:L2.St}(e:Ext K A H A' H')(h:EnvRel K A H Z Y):EnvRel K A' H' Z Y:=
 #[h.1,λi w q=>let ⟨v,a,b⟩:=h.2 i w q; #[v,a,b.mono e]]
def EnvRel.set {Z:Fm}{Y:L2.St}{w:W}{v:V}(h:EnvRel K A H Z Y)(r:Rel K A H w v)(i:GX):EnvRel K A H (Z.set i (ba w)) (Y.set i (ba v)):=by
 show#[by simp[h.1],λj w' q=>?_]
 rw[IX]at q ⊢
 by_cases e:i=j
 ·subst e;rw[Hk rfl]at q ⊢
  by_cases hl:i < Z.length
  ·rw[Hk hl]at q;rw[Hk (h.1 ▸ hl)];cases q;exact#[v,rfl,r]
  ·rw[Hu hl]at q; cases q
 ·rw[Hu e]at q ⊢;exact h.2 j w' q
abbrev Wr (H:Hp)(p:GZ):Prop:=H p=gV\/(∃xs,H p=ba (.lst xs))\/(∃φ,H p=ba (.ext φ))\/∃ks,H p=ba (.dK ks)
def Wr.lst {p:GZ}{xs:GK V}(h:H p=ba (.lst xs)):Wr H p:=.inr (.inl #[xs,h])
def Wr.ext {p:GZ}{φ:HQ->Prop}(h:H p=ba (.ext φ)):Wr H p:=.inr (.inr (.inl #[φ,h]))
def Wr.ne_tup {p a:GZ}{xs:GK V}(hp:Wr H p)(h:H a=ba (.tup xs)):a≠p:=by
 intro e; subst e
 rcases hp with q|⟨xs,q⟩|⟨φ,q⟩|⟨ks,q⟩ <;> (rw[h]at q; cases q)
def Wr.ne_frz {p a:GZ}{o:ID}{u:HO}(hp:Wr H p)(h:H a=ba (.frz o u)):a≠p:=by
 intro e; subst e
 rcases hp with q|⟨xs,q⟩|⟨φ,q⟩|⟨ks,q⟩ <;> (rw[h]at q; cases q)
def Wr.ne_rng {p a:GZ}{lo hi:G7}(hp:Wr H p)(h:H a=ba (.rng lo hi)):a≠p:=by
 intro e; subst e
 rcases hp with q|⟨xs,q⟩|⟨φ,q⟩|⟨ks,q⟩ <;> (rw[h]at q; cases q)
def pZ {p:GZ}{o:HO}(hp:Wr H p){a:GZ}{vs:GK V}(h:SqT K H a vs):SqT K (be H p o) a vs:=by
 rcases h with(h|⟨o',h⟩)|h
 ·exact .inl (.inl (by rw[az (hp.ne_tup h)]; exact h))
 ·exact .inl (.inr #[o',by rw[az (hp.ne_frz h)]; exact h])
 ·exact .inr h
def tN {p:GZ}{o:HO}(hp:Wr H p){a:GZ}{vs:GK V}(h:FroL K H a vs):FroL K (be H p o) a vs:=by
 rcases h with⟨o',h⟩|h
 ·exact .inl #[o',by rw[az (hp.ne_frz h)]; exact h]
 ·exact .inr h
def bN {p:GZ}{o:HO}(hp:Wr H p):Ext K A H A (be H p o):=#[λ_ _ h=>h,λ_ _ h=>pZ hp h,λ_ _ _ h=>by rw[az (hp.ne_frz h)]; exact h]
def db {p:GZ}{o:HO}(hp:H p=gV):Ext K A H (A++[p]) (be H p o):=
 #[λi a h=>by rw[HL (G8.mp h).1]; exact h,λ_ _ h=>pZ (.inl hp) h,λ_ _ _ h=>by rw[az (Wr.ne_frz (.inl hp) h)]; exact h]
def ObjRel.keep {p a:GZ}{o:HO}{b:O}(hp:Wr H p)(hne:b.mut=true->a≠p)(e:Ext K A H A' (be H p o))(h:ObjRel wd K A H a b):ObjRel wd K A' (be H p o) a b:=by
 cases b with
 | lst ws=>
  obtain⟨vs,q,r⟩:=h;exact#[vs,by rw[az (hne rfl)]; exact q,r.mono e]
 | fro ws=>
  obtain⟨vs,q,r⟩:=h;exact#[vs,tN hp q,r.mono e]
 | sts xs=>
  obtain⟨ob,φ,q,r⟩:=h;exact#[ob,φ,by rw[az (hp.ne_frz q)]; exact q,r]
 | rng lo hi=>
  have h:H a=ba (.rng lo hi):=h;change be H p o a=ba (.rng lo hi);rw[az (hp.ne_rng h)];exact h
 | dic U=>
  obtain⟨xs,q,r⟩:=h;exact#[xs,by rw[az (hne rfl)]; exact q,r.mono e]
 | frd U=>
  obtain⟨ob,xs,q,r⟩:=h;exact#[ob,xs,by rw[az (hp.ne_frz q)]; exact q,r.mono e]
def ObjRel.there {a:GZ}{b:O}(h:ObjRel wd K A H a b)(hm:b.mut=true):H a≠gV:=by
 cases b with
 | lst ws=>obtain⟨vs,q,r⟩:=h; rw[q]; intro z; cases z
 | fro ws=>cases hm
 | sts ws=>cases hm
 | rng lo hi=>cases hm
 | dic U=>obtain⟨vs,q,r⟩:=h; rw[q]; intro z; cases z
 | frd ws=>cases hm
def ObjRel.wr {a:GZ}{b:O}(h:ObjRel wd K A H a b)(hm:b.mut=true):Wr H a:=by
 cases b with
 | lst ws=>obtain⟨vs,q,r⟩:=h; exact .lst q
 | fro ws=>cases hm
 | sts ws=>cases hm
 | rng lo hi=>cases hm
 | dic U=>obtain⟨vs,q,r⟩:=h; exact .ext q
 | frd ws=>cases hm
def StoreOk.lay {S:aa}{p:GZ}{o:HO}(h:StoreOk wd K A H S)(hp:H p=gV):StoreOk wd K A (be H p o) S:=
 #[h.len,h.nd,λi b a e ea=>(h.obj i b a e ea).keep (.inl hp) (λhm z=>(h.obj i b a e ea).there hm (z ▸ hp)) (bN (.inl hp))]
def StoreOk.pushO {S:aa}{p:GZ}{n:O}{u:HO}(h:StoreOk wd K A H S)(hp:H p=gV)(r:ObjRel wd K (A++[p]) (be H p u) p n):StoreOk wd K (A++[p]) (be H p u) (S++[n]):=by
 have ex:Ext K A H (A++[p]) (be H p u):=db hp;have old:∀ {i:GX} {o:O} {a:GZ},(S++[n])[i]?=ba o->(A++[p])[i]?=ba a->i < S.length->S[i]?=ba o/\A[i]?=ba a:=λ{i o a} e ea hl=>by
  rw[HL hl]at e;rw[HL (h.len ▸ hl)]at ea;exact#[e,ea]
 have new:∀ {i:GX} {o:O} {a:GZ},(S++[n])[i]?=ba o->(A++[p])[i]?=ba a->¬ i < S.length->i=S.length/\o=n/\a=p:=λ{i o a} e ea hl=>by
  have hi:i=S.length:=by
   have:=(G8.mp e).1;simp at this;omega
  subst hi;simp at e;rw[<- h.len]at ea;simp at ea;exact#[rfl,e.symm,ea.symm]
 show#[by simp[h.len],λi j a o u e1 m1 e2 m2 a1 a2=>?_,λi o a e ea=>?_]
 ·by_cases hi:i < S.length <;> by_cases hj:j < S.length
  ·obtain⟨x1,y1⟩:=old e1 a1 hi;obtain⟨x2,y2⟩:=old e2 a2 hj;exact h.nd i j a o u x1 m1 x2 m2 y1 y2
  ·obtain⟨x1,y1⟩:=old e1 a1 hi;obtain⟨_,_,z⟩:=new e2 a2 hj;subst z;exact absurd hp ((h.obj i o a x1 y1).there m1)
  ·obtain⟨x2,y2⟩:=old e2 a2 hj;obtain⟨_,_,z⟩:=new e1 a1 hi;subst z;exact absurd hp ((h.obj j u a x2 y2).there m2)
  ·rw[(new e1 a1 hi).1,(new e2 a2 hj).1]
 ·by_cases hi:i < S.length
  ·obtain⟨x1,y1⟩:=old e ea hi;exact(h.obj i o a x1 y1).keep (.inl hp) (λhm z=>(h.obj i o a x1 y1).there hm (z ▸ hp)) ex
  ·obtain⟨_,rfl,rfl⟩:=new e ea hi;exact r
def StoreOk.push {S:aa}{p:GZ}{ws:GK W}{vs:GK V}(h:StoreOk wd K A H S)(hp:H p=gV)(r:RelL K A H ws vs):StoreOk wd K (A++[p]) (be H p (.lst vs)) (S++[.lst ws]):=
 h.pushO hp #[vs,aI,r.mono (db hp)]
def StoreOk.writeO {S:aa}{i:GX}{p:GZ}{o0 n:O}{u:HO}(h:StoreOk wd K A H S)(e:S[i]?=ba o0)(m0:o0.mut=true)(ea:A[i]?=ba p)(r:ObjRel wd K A (be H p u) p n) :
  StoreOk wd K A (be H p u) (S.set i n)/\Ext K A H A (be H p u):=by
 have hw:Wr H p:=(h.obj i _ p e ea).wr m0;have ex:Ext K A H A (be H p u):=bN hw;have hl:i < S.length:=(G8.mp e).1;show#[#[by simp[h.len],λj k a o u e1 m1 e2 m2 a1 a2=>?_,λj o a e1 a1=>?_],ex]
 ·have get:∀ {j:GX} {o:O},(S.set i n)[j]?=ba o->o.mut=true->∃o',S[j]?=ba o'/\o'.mut=true:=λ{j o} q m=>by
   rw[IX]at q
   by_cases z:i=j
   ·subst z; exact#[_,e,m0]
   ·rw[Hu z]at q; exact#[o,q,m]
  obtain⟨o',x1,m1'⟩:=get e1 m1;obtain⟨u',x2,m2'⟩:=get e2 m2;exact h.nd j k a o' u' x1 m1' x2 m2' a1 a2
 ·rw[IX]at e1
  by_cases z:i=j
  ·subst z;rw[Hk rfl,Hk hl]at e1;cases e1;rw[ea]at a1; cases a1
   exact r
  ·rw[Hu z]at e1;exact(h.obj j o a e1 a1).keep hw (λhm q=>z (h.nd i j p _ o e m0 e1 hm ea (q ▸ a1))) ex
def StoreOk.write {S:aa}{i:GX}{p:GZ}{ws:GK W}{us:GK V}{ws0:GK W}(h:StoreOk wd K A H S)(e:S[i]?=ba (.lst ws0))(ea:A[i]?=ba p)(r:RelL K A H ws us) :
  StoreOk wd K A (be H p (.lst us)) (S.set i (.lst ws))/\Ext K A H A (be H p (.lst us)):=
 h.writeO e rfl ea #[us,aI,r.mono (bN ((h.obj i _ p e ea).wr rfl))]
end
abbrev eF (S:aa)(i:GX):GR (GK W):=match S[i]? with
 | some (.lst xs)=>ba xs
 | some (.fro xs)=>ba xs
 | _=>gV
abbrev mh (S:aa)(i:GX):GR (GK W):=match S[i]? with
 | some (.lst xs)=>ba xs
 | _=>gV
abbrev jG (S:aa)(xs:GK W):GR (W×aa):=if xs.length<=sizeLine then ba (.ref S.length,S++[.lst xs])else gV
abbrev oV (S:aa)(xs:GK W):GR (W×aa):=if xs.length<=sizeLine then ba (.tup xs,S)else gV
abbrev xJ (j:G7):Hr:=decide (0 < j)&&decide (j < 1073741824)
abbrev rH (i j:G7):Hr:=(decide (-(2 ^ 64) < i)&&decide (i < 2 ^ 64))||(decide (-(2 ^ 64) < j)&&decide (j < 2 ^ 64))
abbrev Dm (i j:G7):Hr:=decide (0<=j)&&decide (j<=1000000)&&decide (i.natAbs < 2 ^ 64)
inductive BOp where|add|sub|mul|fdiv|mod|pow
 deriving J6
abbrev wW (c:G7->G7->Hr)(f:G7->G7->G7)(x y:W)(S:aa):GR (W×aa):=match x,y with
 | .int i,.int j=>if c i j then ba (.int (f i j),S)else gV
 | _,_=>gV
abbrev rJ (x y:W)(S:aa):GR (W×aa):=match x with
 | .int i=>match y with
  | .int j=>ba (.int (i+j),S)
  | _=>gV
 | .str x=>match y with
  | .str y=>if x.length+y.length<=sizeLine then ba (.str (x++y),S)else gV
  | _=>gV
 | .tup xs=>match y with
  | .tup ys=>oV S (xs++ys)
  | _=>gV
 | .ref i=>match y with
  | .ref j=>match mh S i,mh S j with
   | some xs,ba ys=>jG S (xs++ys)
   | _,_=>gV
  | _=>gV
 | _=>gV
abbrev tP (x y:W)(S:aa):GR (W×aa):=match x with
 | .str x=>match y with
  | .int k=>if k < 2 ^ 24/\-(2 ^ 24)<=k/\x.length*k.toNat<=sizeLine then ba (.str (PK x k),S)else gV
  | _=>gV
 | .ref i=>match y with
  | .int k=>match mh S i with
   | some xs=>if k < 2 ^ 24/\-(2 ^ 24)<=k/\xs.length*k.toNat<=sizeLine then jG S (HB k.toNat xs).flatten else gV
   | none=>gV
  | _=>gV
 | x=>wW rH (· * ·) x y S
abbrev eI:BOp->W->W->aa->GR (W×aa)
 | .add,x,y,S=>rJ x y S
 | .sub,x,y,S=>wW (λ_ _=>true) (· - ·) x y S
 | .mul,x,y,S=>tP x y S
 | .fdiv,x,y,S=>wW (λ_ j=>xJ j) (· / ·) x y S
 | .mod,x,y,S=>wW (λ_ j=>decide (0 < j)) (· % ·) x y S
 | .pow,x,y,S=>wW Dm (λi j=>i ^ j.toNat) x y S
abbrev BOp.py:BOp->Na
 | .add=>.Add|.sub=>.Sub|.mul=>.Mult|.fdiv=>.FloorDiv|.mod=>.Mod|.pow=>.Pow
section
variable (X:Cx)
inductive PostE (J:GK (GZ×ID))(Y:L2.St)(A:GK GZ)(H:Hp)(S':aa)(w:W)(u:GM)(s':GQ):Prop
 | mk (v:V) (H':Hp) (A':GK GZ) (i:Inv X J Y H' s') (r:RelV v u) (e:Ext X.K A H A' H') (so:StoreOk X.w X.K A' H' S') (rl:Rel X.K A' H' w v):PostE J Y A H S' w u s'
noncomputable abbrev FE:=Fm->aa->GR (W×aa)
abbrev LOp (f:GM->GM->OP GM)(g:W->W->aa->GR (W×aa)):Prop:=
 ∀(J:GK (GZ×ID)) (s:GQ) (Y:L2.St) (H:Hp) (A:GK GZ) (S:aa) (x y:W) (a b:V) (u v:GM) (w:W) (S':aa),Inv X J Y H s->StoreOk X.w X.K A H S->
  Rel X.K A H x a->RelV a u->Rel X.K A H y b->RelV b v->g x y S=ba (w,S')->wpAny (model X.prog X.w) X.A (f u v) (PostE X J Y A H S' w) X.xe s
end
section
variable{X:Cx}
def i4 {S:aa}{i:GX}{xs:GK W}(h:mh S i=ba xs):S[i]?=ba (.lst xs):=by
 unfold mh at h;split at h
 ·cases h; assumption
 ·cases h
def dO {A:GK GZ}{H:Hp}{S:aa}{i:GX}{xs:GK W}{a:GZ}(so:StoreOk X.w X.K A H S)(h:mh S i=ba xs)(ea:A[i]?=ba a):∃vs,H a=ba (.lst vs)/\RelL X.K A H xs vs:=
 so.obj i _ a (i4 h) ea
def aX {A:GK GZ}{H:Hp}{S:aa}{i:GX}{xs:GK W}{a:GZ}(so:StoreOk X.w X.K A H S)(h:eF S i=ba xs)(ea:A[i]?=ba a):∃vs,SqL X.K H a vs/\RelL X.K A H xs vs:=by
 unfold eF at h;split at h
 ·cases h;obtain⟨vs,q,r⟩:=so.obj i _ a (by assumption) ea
  exact#[vs,.of q,r]
 ·cases h;obtain⟨vs,q,r⟩:=so.obj i _ a (by assumption) ea
  exact#[vs,q.sq,r]
 ·cases h
def iK {S S':aa}{xs:GK W}{w:W}(h:jG S xs=ba (w,S')):xs.length<=sizeLine/\w=.ref S.length/\S'=S++[.lst xs]:=by
 unfold jG at h;split at h
 ·cases h; exact#[by assumption,rfl,rfl]
 ·cases h
def p4 {S S':aa}{xs:GK W}{w:W}(h:oV S xs=ba (w,S')):xs.length<=sizeLine/\w=.tup xs/\S'=S:=by
 unfold oV at h;split at h
 ·cases h; exact#[by assumption,rfl,rfl]
 ·cases h
def xK {A:GK GZ}{H:Hp}{S:aa}{ws:GK W}{vs:GK V}{Q:VK}{p:GZ}(so:StoreOk X.w X.K A H S)(r:RelL X.K A H ws vs)(hp:H p=gV)
  (q:∀v H' A',Ext X.K A H A' H'->StoreOk X.w X.K A' H' (S++[.lst ws])->Rel X.K A' H' (.ref S.length) v->Q v H'):Q (.ref p) (be H p (.lst vs)):=
 q _ _ (A++[p]) (db hp) (so.push hp r) (.ref (by rw[<- so.len]; simp))
def xL {A:GK GZ}{H:Hp}{S:aa}{ws:GK W}{vs:GK V}{Q:VK}{p:GZ}(so:StoreOk X.w X.K A H S)(r:RelL X.K A H ws vs)(hp:H p=gV)
  (q:∀v H' A',Ext X.K A H A' H'->StoreOk X.w X.K A' H' S->Rel X.K A' H' (.tup ws) v->Q v H'):Q (.ref p) (be H p (.tup vs)):=
 q _ _ A (bN (.inl hp)) (so.lay hp) (.tup (.of aI) (r.mono (bN (.inl hp))))
abbrev Do (K:G0):R2:=λx y H Q=>∃a b xs ys,x=.ref a/\y=.ref b/\SqT K H a xs/\SqT K H b ys/\xs.length+ys.length<=sizeLine/\
 (xs=[]->Q (.ref b) H)/\(ys=[]->Q (.ref a) H)/\(∀p,H p=gV->Q (.ref p) (be H p (.tup (xs++ys))))
def xM:OpR X (binaryOp .Add) (Do X.K):=by
 intro J s Y H x y v u Q I rx ry h;obtain⟨a,b,xs,ys,rfl,rfl,ha,hb,hz,q0,q1,q2⟩:=h;cases rx;cases ry;obtain⟨its,r1,p1,_⟩:=I.tuple ha;obtain⟨its2,r2,p2,_⟩:=I.tuple hb
 by_cases hx:xs=[]
 ·obtain⟨⟨cls,dd,data,sl⟩,ho,hc,n,hd⟩:=id p1;obtain⟨⟨cls2,dd2,data2,sl2⟩,ho2,hc2,n2,hd2⟩:=id p2;simp only at hc hd hc2 hd2;subst hc hd hc2 hd2;exact Nd #[_,ho,rfl] #[_,ho2,rfl] LB MH Ky Kt (Kl _ _)
   (tuple_addW0 a b its.toArray its2.toArray n n2 dd dd2 sl sl2 (by simp[r1.nil_iff.mpr hx])) #[ho,ho2,#[.ref b,H,I,rfl,q0 hx]]
 ·show HT.xw p1 p2 (λz=>hx (r1.nil_iff.mp z)) (λz=>#[.ref a,H,I,rfl,q1 (r2.nil_iff.mp z)]) (λz=>?_) (by rw[<- r1.length,<- r2.length]; exact hz)
  show#[.ref s.heap.objs.size,_,I.laid (t':=s.toks) (o:=.tup (xs++ys)) (λb ob q=>GN _ q) (G2 _) ?_,rfl,q2 _ (I.hok.fresh (G2 _))]
  exact#[by rw[G3]; exact hz,_,r1.append r2,Nw _ _]
def RelL.nil_iff {K:G0}{A:GK GZ}{H:Hp}{ws:GK W}{vs:GK V}(r:RelL K A H ws vs):vs=[]↔ws=[]:=by
 cases r <;> simp
def oW:OpR X (binaryOp .Mult) (λx y H Q=>∃z k,x=.str z/\y=.int k/\MulOk z k/\Q (.str (PK z k)) H):=by
 intro J s Y H x y v u Q I rx ry h;obtain⟨z,k,rfl,rfl,ok,q⟩:=h;obtain⟨t,rfl⟩:=rx;obtain⟨t',rfl⟩:=ry;exact SB.mul ok λt2 k2=>#[.str _,H,I.tok _,#[_,rfl],q]
def tQ {x:Ha}{k:G7}(h1:k < 16777216)(h2 : -16777216<=k)(h3:x.length*k.toNat<=sizeLine):MulOk x k:=by
 have hs:sizeLine=16777216:=HV;rw[hs]at h3;show#[?_,λa b=>?_,λ_ _=>?_]
 ·rw[Bool.or_eq_false_iff];exact#[Hv ∅,Hv ∅]
 ·have hk:0 < k:=∅
  have e:(x.length:G7)*k=((x.length*k.toNat:GX):G7):=by
   rw[Int.natCast_mul,MC ∅]
  intro hgt;have h4:(2 ^ 63 - 1:G7) < (x.length:G7)*k:=(Int.ediv_lt_iff_lt_mul hk).mp hgt;rw[e]at h4;generalize x.length*k.toNat=z at h3 h4;omega
 ·unfold Om;rw[hs];exact Hv ∅
inductive EndV (wd:HA)(K:G0)(A:GK GZ)(H:Hp)(S':aa)(w:W)(v:V)(H':Hp):Prop
 | mk (A':GK GZ) (e:Ext K A H A' H') (so:StoreOk wd K A' H' S') (r:Rel K A' H' w v):EndV wd K A H S' w v H'
def EndV.here {A:GK GZ}{H:Hp}{S:aa}{w:W}{v:V}(so:StoreOk X.w X.K A H S)(r:Rel X.K A H w v):EndV X.w X.K A H S w v H:=#[A,.refl,so,r]
def EndV.lst {A:GK GZ}{H:Hp}{S:aa}{ws:GK W}{vs:GK V}{p:GZ}(so:StoreOk X.w X.K A H S)(r:RelL X.K A H ws vs)(hp:H p=gV):EndV X.w X.K A H (S++[.lst ws]) (.ref S.length) (.ref p) (be H p (.lst vs)):=
 xK (Q:=EndV X.w X.K A H (S++[.lst ws]) (.ref S.length)) so r hp λv H' A' a b c=>#[A',a,b,c]
def EndV.tup {A:GK GZ}{H:Hp}{S:aa}{ws:GK W}{vs:GK V}{p:GZ}(so:StoreOk X.w X.K A H S)(r:RelL X.K A H ws vs)(hp:H p=gV):EndV X.w X.K A H S (.tup ws) (.ref p) (be H p (.tup vs)):=
 xL (Q:=EndV X.w X.K A H S (.tup ws)) so r hp λv H' A' a b c=>#[A',a,b,c]
def EP.post {J:GK (GZ×ID)}{Y:L2.St}{A:GK GZ}{H:Hp}{S':aa}{w:W}{u:GM}{s':GQ}(h:EP X J Y (EndV X.w X.K A H S' w) u s'):PostE X J Y A H S' w u s':=by
 obtain⟨v,H',I',r,A',x,y,z⟩:=h;exact#[v,H',A',I',r,x,y,z]
def OpR.go {f:GM->GM->OP GM}{r:R2}(h:OpR X f r){J:GK (GZ×ID)}{Y:L2.St}{A:GK GZ}{H:Hp}{S':aa}{w:W}{s:GQ}{a b:V}{u v:GM}(I:Inv X J Y H s)(ru:RelV a u)(rv:RelV b v)
  (q:r a b H (EndV X.w X.K A H S' w)):wpAny (model X.prog X.w) X.A (f u v) (PostE X J Y A H S' w) X.xe s:=aT (h J s Y H a b u v _ I ru rv q) λ_ _=>EP.post
def xN:LOp X (binaryOp .Add) (eI .add):=by
 intro J s Y H A S x y a b u v w S' I so rx ru ry rv e;cases rx with
 | int=>cases ry with
  | int=>cases e; exact OpR.go AM I ru rv #[_,_,rfl,rfl,.here so .int]
  | _=>cases e
 | str=>cases ry with
  | str=>
   dsimp only[eI,rJ]at e;split at e
   ·cases e; exact OpR.go oN I ru rv #[_,_,rfl,rfl,by assumption,.here so .str]
   ·cases e
  | _=>cases e
 | tup h1 r1=>cases ry with
  | tup h2 r2=>
   obtain⟨hl,rfl,rfl⟩:=p4 (show oV S _=_ from e)
   rw[G3,r1.length,r2.length]at hl;show OpR.go xM I ru rv #[_,_,_,_,rfl,rfl,h1,h2,hl,λz=>?_,λz=>?_,λp hp=>.tup so (r1.append r2) hp]
   ·have z':=r1.nil_iff.mp z;subst z';exact .here so (.tup h2 r2)
   ·have z':=r2.nil_iff.mp z;subst z';rw[Jq];exact .here so (.tup h1 r1)
  | _=>cases e
 | ref h1=>cases ry with
  | ref h2=>
   dsimp only[eI,rJ]at e;split at e
   ·obtain⟨hl,rfl,rfl⟩:=iK e;obtain⟨vs,q1,r1⟩:=dO so (by assumption) h1
    obtain⟨us,q2,r2⟩:=dO so (by assumption) h2
    rw[G3,r1.length,r2.length]at hl;exact OpR.go Bb I ru rv #[_,_,_,_,rfl,rfl,q1,q2,hl,λp hp=>.lst so (r1.append r2) hp]
   ·cases e
  | _=>cases e
 | _=>cases e
def mE {f:GM->GM->OP GM}{c:G7->G7->Hr}{g:G7->G7->G7}{r:R2}(h:OpR X f r)(hr:∀i j H Q,c i j=true->Q (.int (g i j)) H->r (.int i) (.int j) H Q):LOp X f (wW c g):=by
 intro J s Y H A S x y a b u v w S' I so rx ru ry rv e;cases rx with
 | int=>cases ry with
  | int=>
   unfold wW at e;dsimp only at e;split at e
   ·cases e; exact OpR.go h I ru rv (hr _ _ _ _ (by assumption) (.here so .int))
   ·cases e
  | _=>cases e
 | _=>cases e
def xO:LOp X (binaryOp .Sub) (eI .sub):=mE AN λ_ _ _ _ _ q=>#[_,_,rfl,rfl,q]
def xP {i j:G7}(h:rH i j=true):CMul i j:=by
 unfold rH at h;rw[Jr,GV,GV,Hw,Hw,Hw,Hw]at h;exact h
def xQ:LOp X (binaryOp .Mult) (eI .mul):=by
 have hI:LOp X (binaryOp .Mult) (wW rH (· * ·)):=mE AO λ_ _ _ _ h q=>#[_,_,rfl,rfl,xP h,q]
 intro J s Y H A S x y a b u v w S' I so rx ru ry rv e;cases x with
 | str z=>
  cases rx with
  | str=>cases ry with
   | int=>
    dsimp only[eI,tP]at e;split at e
    ·rename_i hc;cases e; exact OpR.go oW I ru rv #[_,_,rfl,rfl,tQ ∅ ∅ hc.2.2,.here so .str]
    ·cases e
   | _=>cases e
 | ref z=>
  cases rx with
  | ref h1=>cases ry with
   | int=>
    dsimp only[eI,tP]at e;split at e
    ·split at e
     ·rename_i hc;obtain⟨hl,rfl,rfl⟩:=iK e;obtain⟨vs,q1,r1⟩:=dO so (by assumption) h1
      rw[r1.length]at hc;exact OpR.go Bc I ru rv #[_,_,_,rfl,rfl,q1,∅,∅,hc.2.2,λp hp=>.lst so (r1.rep _) hp]
     ·cases e
    ·cases e
   | _=>cases e
 | _=>exact hI _ _ _ _ _ _ _ _ _ _ _ _ _ _ I so rx ru ry rv e
def tR:LOp X (binaryOp .FloorDiv) (eI .fdiv):=mE xq λ_ _ _ _ h q=>#[_,_,rfl,rfl,by
 unfold xJ at h;rw[GV,Hw,Hw]at h;exact h,q]
def xR:LOp X (binaryOp .Mod) (eI .mod):=mE AQ λ_ _ _ _ h q=>#[_,_,rfl,rfl,HF h,q]
def xS:LOp X (binaryOp .Pow) (eI .pow):=mE AR λ_ _ _ _ h q=>#[_,_,rfl,rfl,by
 unfold Dm at h;rw[GV,GV,Hw,Hw,Hw]at h;exact#[h.1.1,h.1.2,h.2],q]
def p7 (o:BOp):LOp X (binaryOp o.py) (eI o):=by
 cases o
 ·exact xN
 ·exact xO
 ·exact xQ
 ·exact tR
 ·exact xR
 ·exact xS
end
abbrev fK (f:W->W->GR Hr):GK W->GK W->GR Hr
 | [],[]=>ba true
 | [],_::_=>ba false
 | _::_,[]=>ba false
 | x::xs,y::ys=>match f x y,fK f xs ys with
  | some a,ba b=>ba (a&&b)
  | _,_=>gV
abbrev b2 (b:Hr):G7:=if b then 1 else 0
abbrev iw (S:aa):GX->W->W->GR Hr
 | _,.non,y=>match y with
  | .non=>ba true
  | _=>gV
 | _,.bl a,y=>match y with
  | .bl b=>ba (a==b)
  | _=>gV
 | _,.int a,y=>match y with
  | .int b=>ba (a==b)
  | _=>gV
 | _,.str a,y=>match y with
  | .str b=>ba (a==b)
  | _=>gV
 | 0,_,_=>gV
 | d+1,.tup xs,y=>match y with
  | .tup ys=>fK (iw S d) xs ys
  | _=>gV
 | d+1,.ref i,y=>match y with
  | .ref j=>match mh S i,mh S j with
   | some xs,ba ys=>if xs.length=ys.length then fK (iw S d) xs ys else ba false
   | _,_=>gV
  | _=>gV
section
variable{X:Cx}{J:GK (GZ×ID)}{Y:L2.St}{H:Hp}{s:GQ}{A:GK GZ}{S:aa}
abbrev RU (K:G0)(A:GK GZ)(H:Hp)(w:W)(u:GM):Prop:=∃v,Rel K A H w v/\RelV v u
def p8 {ws:GK W}{vs:GK V}{us:GK GM}(r:RelL X.K A H ws vs)(q:Vals vs us):∀(j:GX) (h1:j < ws.length) (h2:j < us.length),RU X.K A H ws[j] us[j]:=by
 induction ws generalizing vs us with
 | nil=>intro j h1; simp at h1
 | cons w ws ih=>
  cases r with
  | cons r1 rr=>
   cases q with
   | cons q1 qq=>
    intro j h1 h2;cases j with
    | zero=>exact#[_,r1,q1]
    | succ j=>exact ih rr qq j (by simpa using h1) (by simpa using h2)
def tU {ws:GK W}{u:GM}(I:Inv X J Y H s)(h:RU X.K A H (.tup ws) u):∃a its,u=.ref a/\M6 s.heap a its/\its.size=ws.length/\ws.length<=sizeLine/\∀(j:GX) (h1:j < ws.length) (h2:j < its.size),RU X.K A H ws[j] its[j]:=by
 obtain⟨v,r,q⟩:=h;cases r with
 | tup sq rl=>
  obtain⟨its,rv,ht,hz⟩:=I.tuple sq;show#[_,its.toArray,q,ht,by rw[G6,<- rv.length,rl.length],by rw[rl.length]; exact hz,λj h1 h2=>?_]
  have:=p8 rl rv j h1 (by simpa using h2)
  simpa using this
def tV {i:GX}{ws:GK W}{u:GM}(I:Inv X J Y H s)(so:StoreOk X.w X.K A H S)(e:mh S i=ba ws)(h:RU X.K A H (.ref i) u):∃a its,u=.ref a/\A[i]?=ba a/\s.heap.IsList a its/\its.size=ws.length/\ws.length<=sizeLine/\∀(j:GX) (h1:j < ws.length) (h2:j < its.size),RU X.K A H ws[j] its[j]:=by
 obtain⟨v,r,q⟩:=h;cases r with
 | ref ea=>
  obtain⟨vs,hq,rl⟩:=dO so e ea;obtain⟨its,rv,ht,hz⟩:=I.list (.of hq);show#[_,its.toArray,q,ea,ht.isList,by rw[G6,<- rv.length,rl.length],by rw[rl.length]; exact hz,λj h1 h2=>?_]
  have:=p8 rl rv j h1 (by simpa using h2)
  simpa using this
def i5 {f:W->W->GR Hr}:∀ {xs ys:GK W} {k:Hr},fK f xs ys=ba k->∃e:GX->Hr,(∀(j:GX) (h1:j < xs.length) (h2:j < ys.length),f xs[j] ys[j]=ba (e j))/\
  k=((HJ (min xs.length ys.length)).all e&&xs.length==ys.length)
 | [],[],k,h=>#[λ_=>true,λj h1=>by simp at h1,by cases h; rfl]
 | [],_::_,k,h=>#[λ_=>true,λj h1=>by simp at h1,by cases h; simp]
 | _::_,[],k,h=>#[λ_=>true,λj h1 h2=>by simp at h2,by cases h; simp]
 | x::xs,y::ys,k,h=>by
  dsimp only[fK]at h;split at h
  ·rename_i a b ha hb;cases h;obtain⟨e,h1,h2⟩:=i5 hb;show#[λj=>match j with|0=>a|j+1=>e j,λj hj1 hj2=>?_,?_]
   ·cases j with
    | zero=>exact ha
    | succ j=>exact h1 j (by simpa using hj1) (by simpa using hj2)
   ·subst h2;simp only[HH,Nat.add_min_add_right,LM,HR,Nk,Bool.and_assoc];congr 2;simp
  ·cases h
def xT (I:Inv X J Y H s)(so:StoreOk X.w X.K A H S):∀(d:GX) {x y:W} {v:V} {k:Hr},Rel X.K A H x v->Rel X.K A H y v->iw S d x y=ba k->k=true:=by
 intro d
 induction d with
 | zero=>
  intro x y v k rx ry e;cases rx with
  | non=>cases ry; cases e; rfl
  | bl=>cases ry; cases e; exact HI _
  | int=>cases ry; cases e; exact HI _
  | str=>cases ry; cases e; exact HI _
  | tup _ _=>cases e
  | ref _=>cases e
 | succ d ih=>
  have lists:∀ {xs ys:GK W} {vs:GK V} {k:Hr},RelL X.K A H xs vs->RelL X.K A H ys vs->fK (iw S d) xs ys=ba k->k=true:=by
   intro xs
   induction xs with
   | nil=>
    intro ys vs k r1 r2 e;cases r1; cases r2; cases e; rfl
   | cons x xs ihx=>
    intro ys vs k r1 r2 e;cases r1 with
    | cons p1 q1=>
     cases r2 with
     | cons p2 q2=>
      dsimp only[fK]at e;split at e
      ·rename_i a b ha hb;cases e;rw[ih p1 p2 ha,ihx q1 q2 hb];rfl
      ·cases e
  intro x y v k rx ry e;cases rx with
  | non=>cases ry; cases e; rfl
  | bl=>cases ry; cases e; exact HI _
  | int=>cases ry; cases e; exact HI _
  | str=>cases ry; cases e; exact HI _
  | tup h1 r1=>
   cases ry with
   | tup h2 r2=>
    rw[I.tuple_inj h1 h2]at r1;exact lists r1 r2 e
   | ref ea=>cases e
  | ref ea=>
   cases ry with
   | tup h2 r2=>cases e
   | ref eb=>
    dsimp only[iw]at e;split at e
    ·rename_i xs ys hx hy;have:=so.nd _ _ _ _ _ (i4 hx) rfl (i4 hy) rfl ea eb;subst this;rw[hx]at hy; cases hy
     rw[Hk rfl]at e;obtain⟨vs,q,r⟩:=dO so hx ea;exact lists r r e
    ·cases e
def aU (A:Hy):A.in1.units=A.units+1:=rfl
noncomputable abbrev CD (B:Hy)(s:GQ)(u v:GM)(k:Hr):Prop:=SeqAt.RcAt B s u v k/\SeqAt.RcNeAt B s u v (!k)/\KJ B s u v k
open SeqAt in
def zO (I:Inv X J Y H s)(so:StoreOk X.w X.K A H S):∀(d:GX) (B:Hy) {x y:W} {u v:GM} {k:Hr},B.units+d < cLine->RU X.K A H x u->RU X.K A H y v->iw S d x y=ba k->CD B s u v k:=by
 have non:∀ {B:Hy} {y:W} {u v:GM} {k:Hr} {d:GX},RU X.K A H .non u->RU X.K A H y v->iw S d .non y=ba k->CD B s u v k:=by
  intro B y u v k d ⟨_,rx,ra⟩ ⟨_,ry,rb⟩ e;cases rx;cases(show u=Ic from ra)
  cases y with
  | non=>
   have e:ba (true)=ba k:=by cases d <;> exact e
   cases e;cases ry;cases(show v=Ic from rb)
   exact#[.none_none,.none_none,.same _]
  | _=>cases d <;> cases e
 have bl:∀ {B:Hy} {b:Hr} {y:W} {u v:GM} {k:Hr} {d:GX},RU X.K A H (.bl b) u->RU X.K A H y v->iw S d (.bl b) y=ba k->CD B s u v k:=by
  intro B b y u v k d ⟨_,rx,ra⟩ ⟨_,ry,rb⟩ e;cases rx;cases(show u=Jp _ from ra)
  cases y with
  | bl c=>
   have e:ba (b==c)=ba k:=by cases d <;> exact e
   cases e;cases ry;cases(show v=Jp _ from rb)
   exact#[.bool_bool _ _,.bool_bool _ _,.bool_bool _ _]
  | _=>cases d <;> cases e
 have int:∀ {B:Hy} {b:G7} {y:W} {u v:GM} {k:Hr} {d:GX},RU X.K A H (.int b) u->RU X.K A H y v->iw S d (.int b) y=ba k->CD B s u v k:=by
  intro B b y u v k d ⟨_,rx,ra⟩ ⟨_,ry,rb⟩ e;cases rx;obtain⟨t0,rfl⟩ : ∃t,u=Lz _ t:=ra;cases y with
  | int c=>
   have e:ba (b==c)=ba k:=by cases d <;> exact e
   cases e;cases ry;obtain⟨t,rfl⟩ : ∃t,v=Lz _ t:=rb;exact#[.int_int _ _ _ _,.int_int _ _ _ _,.int_int _ _ _ _]
  | _=>cases d <;> cases e
 have str:∀ {B:Hy} {b:Ha} {y:W} {u v:GM} {k:Hr} {d:GX},RU X.K A H (.str b) u->RU X.K A H y v->iw S d (.str b) y=ba k->CD B s u v k:=by
  intro B b y u v k d ⟨_,rx,ra⟩ ⟨_,ry,rb⟩ e;cases rx;obtain⟨t0,rfl⟩ : ∃t,u=Kr _ t:=ra;cases y with
  | str c=>
   have e:ba (b==c)=ba k:=by cases d <;> exact e
   cases e;cases ry;obtain⟨t,rfl⟩ : ∃t,v=Kr _ t:=rb;exact#[.str_str _ _ _ _,.str_str _ _ _ _,.str_str _ _ _ _]
  | _=>cases d <;> cases e
 intro d
 induction d with
 | zero=>
  intro B x y u v k hu rx ry e;cases x with
  | non=>exact non rx ry e
  | bl b=>exact bl rx ry e
  | int b=>exact int rx ry e
  | str b=>exact str rx ry e
  | _=>cases e
 | succ d ih=>
  intro B x y u v k hu rx ry e;have hu0:B.units < cLine:=∅
  have hu1:B.in1.units+d < cLine:=by rw[aU]; omega
  have rx0:=rx;have ry0:=ry;have fin:∀ {a b:GZ},u=.ref a->v=.ref b->RcAt B s u v k->RcNeAt B s u v (!k)->CD B s u v k:=by
   intro a b ea eb h1 h2;subst ea eb;show#[h1,h2,?_]
   by_cases hab:a=b
   ·subst hab;obtain⟨v1,q1,z1⟩:=rx0;obtain⟨v2,q2,z2⟩:=ry0;have e12:v1=v2:=z1.inj z2;subst e12;have:=xT I so (d+1) q1 q2 e;subst this;exact EqAt.same _
   ·exact EqAt.of_refs hab h1
  cases x with
  | non=>exact non rx ry e
  | bl b=>exact bl rx ry e
  | int b=>exact int rx ry e
  | str b=>exact str rx ry e
  | tup xs=>
   cases y with
   | tup ys=>
    obtain⟨a,its,rfl,ht,hs,_,hi⟩:=tU I rx;obtain⟨b,its2,rfl,ht2,hs2,_,hi2⟩:=tU I ry;obtain⟨f,h1,h2⟩:=i5 (show fK (iw S d) xs ys=ba k from e)
    have he:∀j (h1:j < its.size) (h2:j < its2.size),EqAt B.in1 s its[j] its2[j] (f j):=λj j1 j2=>
     (ih B.in1 hu1 (hi j (hs ▸ j1) j1) (hi2 j (hs2 ▸ j2) j2) (h1 j (hs ▸ j1) (hs2 ▸ j2))).2.2
    rw[<- hs,<- hs2]at h2;subst h2;exact fin rfl rfl (RcAt.tuples ht ht2 hu0 he) (RcNeAt.tuples ht ht2 hu0 he)
   | _=>cases e
  | ref i=>
   cases y with
   | ref j=>
    dsimp only[iw]at e;split at e
    ·rename_i ws ws2 hw hw2;obtain⟨a,its,rfl,_,hl,hs,_,hi⟩:=tV I so hw rx;obtain⟨b,its2,rfl,_,hl2,hs2,_,hi2⟩:=tV I so hw2 ry;split at e
     ·rename_i hlen;obtain⟨f,h1,h2⟩:=i5 e;have he:∀j (h1:j < its.size) (h2:j < its2.size),EqAt B.in1 s its[j] its2[j] (f j):=λj j1 j2=>
       (ih B.in1 hu1 (hi j (hs ▸ j1) j1) (hi2 j (hs2 ▸ j2) j2) (h1 j (hs ▸ j1) (hs2 ▸ j2))).2.2
      have hk:k=(HJ its.size).all f:=by rw[h2,hs,hlen]; simp
      subst hk;exact fin rfl rfl (RcAt.lists hl hl2 (by rw[hs,hs2,hlen]) hu0 he) (RcNeAt.lists hl hl2 (by rw[hs,hs2,hlen]) hu0 he)
     ·rename_i hlen;cases e;have hb:(its.size != its2.size)=true:=by rw[hs,hs2]; simpa using hlen
      exact fin rfl rfl (RcAt.lists_lengths hl hl2 hb hu0) (RcNeAt.lists_lengths hl hl2 hb hu0)
    ·cases e
   | _=>cases e
end
abbrev zP (fe fl:W->W->GR Hr):GK W->GK W->GR Hr
 | [],[]=>ba false
 | [],_::_=>ba true
 | _::_,[]=>ba false
 | x::xs,y::ys=>match fe x y with
  | some true=>zP fe fl xs ys
  | some false=>fl x y
  | none=>gV
abbrev Gw (S:aa):GX->W->W->GR Hr
 | _,.int a,.int b=>ba (decide (a < b))
 | _,.str a,.str b=>ba (decide (a.cps.toList < b.cps.toList))
 | d+1,.tup xs,.tup ys=>zP (iw S d) (Gw S d) xs ys
 | _,_,_=>gV
abbrev LtAt (B:Hy)(s:GQ)(u v:GM)(k:Hr):Prop:=
 ∀(prog:Hs) (w:HA) (E:GM->GQ->Prop) (Q:GM->GQ->Prop),Q (.bool k) s->wpAny (model prog w) B (richCompare .Lt u v) Q E s
inductive LexR (B:Hy)(s:GQ):GK GM->GK GM->Hr->Prop
 | nn:LexR B s [] [] false
 | nc {v:GM} {vs:GK GM}:LexR B s [] (v::vs) true
 | cn {v:GM} {vs:GK GM}:LexR B s (v::vs) [] false
 | eq {u v:GM} {us vs:GK GM} {k:Hr}:KJ B s u v true->LexR B s us vs k->LexR B s (u::us) (v::vs) k
 | ne {u v:GM} {us vs:GK GM} {k:Hr}:KJ B s u v false->LtAt B s u v k->LexR B s (u::us) (v::vs) k
section
open PySem.SeqAt
open PySem.AutoSeq1 (wpAny_loadPart')
open PySem.MeetsSeq PySem.MeetsSeq2 PySem.MeetsSeq3
def la (l b:GZ)(items items2:HD GM)(n n2:GX)(dd dd2:GR GZ)(sl sl2:HD (GR GM))(k:Hr) :
  Meets (KS.«tuple.__lt__» #[[.ref l,.ref b],[]])
   (λB R s=>s.heap.get? l=ba { cls:=.type "tuple",dict:=dd,data:=.seq items n,slots:=sl }/\s.heap.get? b=ba { cls:=.type "tuple",dict:=dd2,data:=.seq items2 n2,slots:=sl2 }/\
    LexR B.in1 s items.toList items2.toList k/\R (.ok (.ret (.bool k))) s):=
 .of_wp λprog w A R s h=>by
  obtain⟨hp,g,d,tk,os⟩:=s; obtain⟨hl,hb,hx,h⟩:=h
  have f2:=Ow;have z1:items.toList.length=items.size:=by simp
  have z2:items2.toList.length=items2.size:=by simp
  wp_walk using KU hl,KU hb,NC _ (λbB b s'=>b.1=gV/\s'=#[hp,g,d,tk,os]/\∃(vs ws:GK GM),bB=vs.zip ws/\
   LexR A.in1 #[hp,g,d,tk,os] vs ws k/\vs.length+items2.size=ws.length+items.size) _
  case turn=>
   rintro⟨y,x⟩ bB b s' ⟨hb',rfl,vs,ws,hz,hlx,hlen⟩;cases hlx with
   | nn=>rw[Nl]at hz; cases hz
   | nc=>rw[Nl]at hz; cases hz
   | cn=>rw[List.zip_nil_right]at hz; cases hz
   | eq he hr=>
    rw[JY]at hz;injection hz with hyx hrest
    injection hyx with hy hx
    subst hy hx;simp only[HH]at hlen;show GL (he prog w _ _ ?_)
    wp_walk
    exact#[rfl,rfl,_,_,hrest,hr,∅]
   | ne he hr=>
    rw[JY]at hz;injection hz with hyx hrest
    injection hyx with hy hx
    subst hy hx;show GL (he prog w _ _ ?_);have hri:=hr prog w
    wp_walk using hri
    exact#[_,rfl,by simpa using h]
  case fin=>
   rintro⟨b1,b2⟩ s' ⟨hb',rfl,vs,ws,hz,hlx,hlen⟩;simp only at hb';subst hb';have hv:k=decide (items.size < items2.size):=by
    cases hlx with
    | nn=>simp only[IP]at hlen; exact(Hv ∅).symm
    | nc=>simp only[IP,HH]at hlen; exact(HN ∅).symm
    | cn=>simp only[IP,HH]at hlen; exact(Hv ∅).symm
    | eq _ _=>rw[JY]at hz; cases hz
    | ne _ _=>rw[JY]at hz; cases hz
   subst hv
   wp_walk
   exact#[_,rfl,by simpa [Nu]using h]
  case h=>
   exact#[rfl,rfl,items.toList,items2.toList,rfl,hx,∅]
end
def LtAt.tuples {B:Hy}{s:GQ}{l b:GZ}{items items2:HD GM}{k:Hr}(hl:M6 s.heap l items)(hb:M6 s.heap b items2)(hu:B.units < cLine)(hx:LexR B.in1 s items.toList items2.toList k) :
  LtAt B s (.ref l) (.ref b) k:=λprog w E Q h=>by
 obtain⟨⟨cls,dd,data,sl⟩,ho,hc,n,hd⟩:=id hl;obtain⟨⟨cls2,dd2,data2,sl2⟩,ho2,hc2,n2,hd2⟩:=id hb;simp only at hc hd hc2 hd2;subst hc hd hc2 hd2;exact richCompare_meets_room (op:=.Lt) #[_,ho,rfl] #[_,ho2,rfl] PySem.F.slot_tuple_lt PySem.F.entry_tuple_lt (PySem.F.args_tuple_lt_2 _ _) (la l b items items2 n n2 dd dd2 sl sl2 k)
  #[ho,ho2,hx,show Jp k≠Value.notImplemented/\Q (.bool k) s from#[(λx=>nomatch x),h]] hu
inductive COp where|eq|ne|lt|le|gt|ge|isin|notin|is|isnot
 deriving J6
abbrev COp.py:COp->NP
 | .eq=>.Eq|.ne=>.NotEq|.lt=>.Lt|.le=>.LtE|.gt=>.Gt|.ge=>.GtE|.isin=>.In|.notin=>.NotIn|.is=>.Is|.isnot=>.IsNot
abbrev bH:W->Hr
 | .non=>true
 | .bl _=>true
 | .int _=>true
 | .str _=>true
 | _=>false
abbrev wX:W->W->Hr
 | .non,.non=>true
 | .bl a,.bl b=>a==b
 | .bl a,.int b=>b2 a==b
 | .int a,.bl b=>a==b2 b
 | .int a,.int b=>a==b
 | .str a,.str b=>a==b
 | _,_=>false
abbrev dE (S:aa):W->GR (GK W)
 | .tup xs=>ba xs
 | .ref i=>eF S i
 | _=>gV
noncomputable abbrev d7:GX:=20
abbrev wY (x y:W)(S:aa):GR Hr:=match dE S y with
 | some ys=>if bH x&&ys.all bH then ba (ys.any λz=>wX z x)else gV
 | none=>gV
abbrev rK:W->Hr
 | .non=>true
 | _=>false
abbrev tW (f:G7->G7->Hr):W->W->GR Hr
 | .int i,.int j=>ba (f i j)
 | _,_=>gV
abbrev Ft:W->W->GR Hr
 | .bl a,.bl b=>ba (!(a==b))
 | _,_=>gV
abbrev oE:COp->W->W->aa->GR Hr
 | .eq,x,y,S=>iw S d7 x y
 | .ne,x,y,S=>(iw S d7 x y).map (!·)
 | .lt,x,y,_=>tW (λi j=>decide (i < j)) x y
 | .le,x,y,_=>tW (λi j=>decide (i<=j)) x y
 | .gt,x,y,_=>tW (λi j=>decide (j < i)) x y
 | .ge,x,y,_=>tW (λi j=>decide (j<=i)) x y
 | .isin,x,y,S=>wY x y S
 | .notin,x,y,S=>(wY x y S).map (!·)
 | .is,x,y,_=>if rK y then ba (rK x)else gV
 | .isnot,x,y,_=>if rK y then ba (!rK x)else Ft x y
abbrev cg (o:COp)(x y:W)(S:aa):GR (W×aa):=(oE o x y S).map λk=>(.bl k,S)
section
variable{X:Cx}
def iL {J:GK (GZ×ID)}{Y:L2.St}{H:Hp}{s:GQ}{A:GK GZ}{S:aa}{k:Hr}(I:Inv X J Y H s)(so:StoreOk X.w X.K A H S):PostE X J Y A H S (.bl k) (.bool k) s:=
 #[.bl k,H,A,I,rfl,.refl,so,.bl]
def xU {o:COp}{x y w:W}{S S':aa}(h:cg o x y S=ba (w,S')):∃k,oE o x y S=ba k/\w=.bl k/\S'=S:=by
 unfold cg at h;rw[GP]at h;obtain⟨k,h1,h2⟩:=h;cases h2;exact#[k,h1,rfl,rfl]
def mF {A:GK GZ}{H:Hp}{w:W}{v:V}(r:Rel X.K A H w v)(f:bH w=true):fB v=true:=by
 cases r <;> first|rfl|cases f
def jT {A:GK GZ}{H:Hp}:∀ {ws:GK W} {vs:GK V},RelL X.K A H ws vs->ws.all bH=true->vs.all fB=true
 | _,_,.nil,_=>rfl
 | _,_,.cons r t,f=>by
  rw[HR,GV]at f ⊢;exact#[mF r f.1,jT t f.2]
def xV {A:GK GZ}{H:Hp}{x y:W}{u v:V}(r:Rel X.K A H x u)(q:Rel X.K A H y v)(fx:bH x=true)(fy:bH y=true):xC u v=wX x y:=by
 cases r <;> cases q <;> first|rfl|cases fx|cases fy
def p9 {A:GK GZ}{H:Hp}{y:W}{v:V}(q:Rel X.K A H y v)(fy:bH y=true):∀ {ws:GK W} {vs:GK V},RelL X.K A H ws vs->ws.all bH=true->EM v vs=ws.any λz=>wX z y
 | _,_,.nil,_=>rfl
 | _,_,.cons r t,f=>by
  rw[HR,GV]at f;have:=p9 q fy t f.2;unfold EM at this ⊢;rw[Jx,Jx,xV r q f.1 fy,this]
def lb {J:GK (GZ×ID)}{Y:L2.St}{H:Hp}{s:GQ}{A:GK GZ}{S:aa}{y:W}{b:V}{ys:GK W}(so:StoreOk X.w X.K A H S)(r:Rel X.K A H y b)(e:dE S y=ba ys):∃p vs,b=.ref p/\(SqL X.K H p vs\/SqT X.K H p vs)/\RelL X.K A H ys vs:=by
 cases r with
 | tup h1 r1=>cases e; exact#[_,_,rfl,.inr h1,r1]
 | ref ea=>
  obtain⟨vs,h1,r1⟩:=aX so e ea;exact#[_,vs,rfl,.inl h1,r1]
 | _=>cases e
def tX {neg:Hr}{o:NP}(ho:OpR X (compareOp o) (Fn X.K neg)){J:GK (GZ×ID)}{Y:L2.St}{H:Hp}{s:GQ}{A:GK GZ}{S:aa}{x y:W}{a b:V}{u v:GM}{ys:GK W}(I:Inv X J Y H s)(so:StoreOk X.w X.K A H S)
  (rx:Rel X.K A H x a) (ru:RelV a u) (ry:Rel X.K A H y b) (rv:RelV b v) (e:dE S y=ba ys) (f:(bH x&&ys.all bH)=true) :
  wpAny (model X.prog X.w) X.A (compareOp o u v) (PostE X J Y A H S (.bl (if neg then !ys.any λz=>wX z x else ys.any λz=>wX z x))) X.xe s:=by
 obtain⟨p,vs,rfl,hq,rl⟩:=lb (J:=J) (Y:=Y) (s:=s) so ry e;rw[GV]at f;show OpR.go ho I ru rv #[p,vs,rfl,hq,mF rx f.1,jT rl f.2,?_];rw[p9 rx f.1 rl f.2];exact .here so .bl
def fY (hu:X.A.units+d7 < cLine)(o:COp):LOp X (compareOp o.py) (cg o):=by
 intro J s Y H A S x y a b u v w S' I so rx ru ry rv e;obtain⟨k,ek,e1,e2⟩:=xU e;subst e1;subst e2;clear e
 rename aa=>S
 have twoI:∀ {f:G7->G7->Hr},tW f x y=ba k->∃i j,x=.int i/\y=.int j/\k=f i j:=by
  intro f h;cases x with
  | int i=>cases y with
   | int j=>cases h; exact#[i,j,rfl,rfl,rfl]
   | _=>cases h
  | _=>cases h
 have hu1:X.A.units+1 < cLine:=by have:d7=20:=rfl; omega
 have ofSq:∀ {c:Hr},wY x y S=ba c->(∃ys,dE S y=ba ys/\(bH x&&ys.all bH)=true/\c=ys.any λz=>wX z x):=by
  intro c h;unfold wY at h;split at h
  ·split at h
   ·cases h; exact#[_,by assumption,by assumption,rfl]
   ·cases h
  ·cases h
 have ofN:∀ {c:Hr},(if rK y then ba c else gV)=ba k->y=.non/\k=c:=by
  intro c h;cases y with
  | non=>cases h; exact#[rfl,rfl]
  | _=>cases h
 cases o with
 | eq=>exact(zO I so d7 X.A hu #[a,rx,ru] #[b,ry,rv] ek).1 _ _ _ _ (iL I so)
 | ne=>
  obtain⟨k',h1,rfl⟩:=GP.mp ek;exact(zO I so d7 X.A hu #[a,rx,ru] #[b,ry,rv] h1).2.1 _ _ _ _ (iL I so)
 | lt=>
  obtain⟨i,j,rfl,rfl,rfl⟩:=twoI ek;cases rx; cases ry
  exact OpR.go C8 I ru rv #[_,_,rfl,rfl,.here so .bl]
 | le=>
  obtain⟨i,j,rfl,rfl,rfl⟩:=twoI ek;cases rx; cases ry
  exact OpR.go C9 I ru rv #[_,_,rfl,rfl,.here so .bl]
 | gt=>
  obtain⟨i,j,rfl,rfl,rfl⟩:=twoI ek;cases rx; cases ry
  exact OpR.go Da I ru rv #[_,_,rfl,rfl,.here so .bl]
 | ge=>
  obtain⟨i,j,rfl,rfl,rfl⟩:=twoI ek;cases rx; cases ry
  exact OpR.go Db I ru rv #[_,_,rfl,rfl,.here so .bl]
 | isin=>
  obtain⟨ys,h1,h2,rfl⟩:=ofSq ek;exact tX (neg:=false) rB I so rx ru ry rv h1 h2
 | notin=>
  obtain⟨c,h,rfl⟩:=GP.mp ek;obtain⟨ys,h1,h2,rfl⟩:=ofSq h;exact tX (neg:=true) kX I so rx ru ry rv h1 h2
 | is=>
  obtain⟨rfl,rfl⟩:=ofN ek;cases ry;show OpR.go AT I ru rv #[rfl,?_];cases rx <;> exact .here so .bl
 | isnot=>
  cases y with
  | non=>
   have ek:ba (!rK x)=ba k:=ek;cases ek;cases ry;show OpR.go xr I ru rv #[rfl,?_];cases rx <;> exact .here so .bl
  | bl b'=>
   cases x with
   | bl a'=>
    have ek:ba (!(a'==b'))=ba k:=ek;cases ek;cases rx;cases ry;obtain rfl:u=Jp a':=ru;obtain rfl:v=Jp b':=rv;show wpAny_isNot_plain rfl ?_;have e:(!(Jp a'==Jp b')) = !(a'==b'):=by cases a' <;> cases b' <;> rfl
    rw[e];exact iL I so
   | _=>cases ek
  | _=>cases x <;> cases ek
end
end Mi
namespace HT
open PySem PyProof.Rows
section
variable{prog:Hs}{w:HA}{A:Hy}{E:GM->GQ->Prop}{s:GQ}
def fq {t sl:GZ}{items:HD GM}{vl vu:GM}{lo hi:GR G7}{Q:GM->GQ->Prop}(ht:M6 s.heap t items)(hs:s.heap.IsSliceOf sl vl vu .none)(pl:K7 vl lo)(pu:K7 vu hi)
  (hw:bK items.size 0 lo=0/\bK items.size items.size hi=items.size) (h:Q (.ref t) s):wpAny (model prog w) A (getItem (.ref t) (.ref sl)) Q E s:=by
 obtain⟨os,hos,hcs,hds⟩:=id hs;have hTs:s.TypeIs (.ref sl) "slice":=#[os,hos,hcs];unfold getItem
 try with_reducible show Ir ?_
 first|refine GL (GY ?_)|skip
 show GL (Nf ht.typeIs #v[] ?_)
 show GL (HW (name:=IW "__getitem__") ht.typeIs Jb
  (Io Jb ht.typeIs MB ?_ (MV _ _)))
 change wpAny _ _ (J7 (.ref t) >>= _) _ _ s;show GL (Oq ht ?_);show GL (K2 hTs ?_);rw[Hk #v[]]
 show GL (dW hs pl pu ?_);have hyes:((((bK items.size 0 lo:GX):G7)==0&&(1:G7)==1&&(bK items.size items.size hi - bK items.size 0 lo)==items.size)=true):=by
  rw[hw.1,hw.2];simp
 change wpAny _ _ (if (((bK items.size 0 lo:GX):G7)==0&&(1:G7)==1&&(bK items.size items.size hi - bK items.size 0 lo)==items.size)=true then _ else _) _ _ s
 rw[Hk hyes];unfold Oc;show GL (GL (K2 ht.typeIs (GY ?_)));rw[Hk #v[]]
 exact GL (KI (GL (GY (GY #[_,rfl,GY h]))))
end
end HT
namespace Mi
open PySem PySem.Spec PyProof.Rows L2
abbrev rL (x y:W)(S:aa):GR (W×aa):=match x,y with
 | .tup xs,.int i=>(mB xs i).map λw=>(w,S)
 | .ref r,.int i=>match eF S r with
  | some xs=>(mB xs i).map λw=>(w,S)
  | none=>gV
 | .str x,.int i=>if x.length<=sizeLine then(mB x.cps.toList i).map λc=>(.str #[[c].toArray],S)else gV
 | _,_=>gV
abbrev fZ (xs:GK W)(lo hi:GR G7):GK W:=(xs.drop (HT.bK xs.length 0 lo)).take (HT.bK xs.length xs.length hi - HT.bK xs.length 0 lo)
abbrev oF (x:W)(lo hi:GR G7)(S:aa):GR (W×aa):=match x with
 | .tup xs=>ba (.tup (fZ xs lo hi),S)
 | .ref r=>match eF S r with
  | some xs=>ba (.ref S.length,S++[.lst (fZ xs lo hi)])
  | none=>gV
 | _=>gV
abbrev rM (o i v:W)(S:aa):GR aa:=match o,i with
 | .ref r,.int k=>match mh S r with
  | some xs=>match pW xs.length k with
   | some j=>ba (S.set r (.lst (xs.set j v)))
   | none=>gV
  | none=>gV
 | _,_=>gV
section
variable (X:Cx)
abbrev LIx (g:W->W->aa->GR (W×aa)):Prop:=
 ∀(value slice:Hi) (J:GK (GZ×ID)) (s:GQ) (Y:L2.St) (H:Hp) (A:GK GZ) (S:aa) (x y:W) (a b:V) (u v:GM) (w:W) (S':aa),Inv X J Y H s->StoreOk X.w X.K A H S->
  Rel X.K A H x a->RelV a u->Rel X.K A H y b->RelV b v->g x y S=ba (w,S')->subscripted slice false u v=operate [u,v] (getItem u v)->wpAny (model X.prog X.w) X.A (subscriptTail value slice u v) (PostE X J Y A H S' w) X.xe s
abbrev LSl (g:W->GR G7->GR G7->aa->GR (W×aa)):Prop:=
 ∀(J:GK (GZ×ID)) (s:GQ) (Y:L2.St) (H:Hp) (A:GK GZ) (S:aa) (x:W) (a:V) (v vl vu:GM) (lo hi:GR G7) (sl:GZ) (w:W) (S':aa),Inv X J Y H s->StoreOk X.w X.K A H S->
  Rel X.K A H x a->RelV a v->s.heap.IsSliceOf sl vl vu .none->K7 vl lo->K7 vu hi->g x lo hi S=ba (w,S')->
  ∃T id,typeLookup (.type T) "__getitem__" = pure (ba (.builtin id))/\s.TypeIs v T/\wpAny (model X.prog X.w) X.A (getItem v (.ref sl)) (PostE X J Y A H S' w) X.xe s
abbrev LSet (g:W->W->W->aa->GR aa):Prop:=
 ∀(J:GK (GZ×ID)) (s:GQ) (Y:L2.St) (H:Hp) (A:GK GZ) (S:aa) (o i x:W) (ao ai ax:V) (uo ui ux:GM) (S':aa),Inv X J Y H s->StoreOk X.w X.K A H S->
  Rel X.K A H o ao->RelV ao uo->Rel X.K A H i ai->RelV ai ui->Rel X.K A H x ax->RelV ax ux->g o i x S=ba S'->
  wpAny (model X.prog X.w) X.A (setItem uo ui ux) (λ_ s'=>∃H' A',Inv X J Y H' s'/\Ext X.K A H A' H'/\StoreOk X.w X.K A' H' S') X.xe s
abbrev LCall (f:GM)(g:GK W->aa->GR (W×aa)):Prop:=
 ∀(J:GK (GZ×ID)) (s:GQ) (Y:L2.St) (H:Hp) (A:GK GZ) (S:aa) (xs:GK W) (vs:GK V) (us:GK GM) (w:W) (S':aa),Inv X J Y H s->StoreOk X.w X.K A H S->
  RelL X.K A H xs vs->Vals vs us->g xs S=ba (w,S')->wpAny (model X.prog X.w) X.A (call f us) (PostE X J Y A H S' w) X.xe s
abbrev LMeth (id:Iw)(g:W->GK W->aa->GR (W×aa)):Prop:=
 ∀(J:GK (GZ×ID)) (s:GQ) (Y:L2.St) (H:Hp) (A:GK GZ) (S:aa) (x:W) (a:V) (u:GM) (xs:GK W) (vs:GK V) (us:GK GM) (w:W) (S':aa),Inv X J Y H s->StoreOk X.w X.K A H S->
  Rel X.K A H x a->RelV a u->RelL X.K A H xs vs->Vals vs us->g x xs S=ba (w,S')->wpAny (model X.prog X.w) X.A (call (.builtin id) (u::us)) (PostE X J Y A H S' w) X.xe s
end
section
variable{X:Cx}{J:GK (GZ×ID)}{Y:L2.St}{H:Hp}{s:GQ}{A:GK GZ}{S:aa}
def IxR.go {r:R2}(h:IxR X r){S':aa}{w:W}{a b:V}{u v:GM}{value slice:Hi}(I:Inv X J Y H s)(ru:RelV a u)(rv:RelV b v)(q:r a b H (EndV X.w X.K A H S' w))(hs:subscripted slice false u v=operate [u,v] (getItem u v)) :
  wpAny (model X.prog X.w) X.A (subscriptTail value slice u v) (PostE X J Y A H S' w) X.xe s:=aT (h value slice J s Y H a b u v _ I ru rv q hs) λ_ _=>EP.post
def CallR.go {f:GM}{r:GK V->Hp->VK->Prop}(h:CallR X f r){S':aa}{w:W}{vs:GK V}{us:GK GM}(I:Inv X J Y H s)(rv:Vals vs us)(q:r vs H (EndV X.w X.K A H S' w)) :
  wpAny (model X.prog X.w) X.A (call f us) (PostE X J Y A H S' w) X.xe s:=aT (h J s Y H vs us _ I rv q) λ_ _=>EP.post
def MtR.go {id:Iw}{r:V->GK V->Hp->VK->Prop}(h:MtR X id r){S':aa}{w:W}{a:V}{u:GM}{vs:GK V}{us:GK GM}(I:Inv X J Y H s)(ru:RelV a u)(rv:Vals vs us)(q:r a vs H (EndV X.w X.K A H S' w)) :
  wpAny (model X.prog X.w) X.A (call (.builtin id) (u::us)) (PostE X J Y A H S' w) X.xe s:=aT (h J s Y H a vs u us _ I ru rv q) λ_ _=>EP.post
def qa {xs:GK W}{vs:GK V}{i:G7}{w:W}(r:RelL X.K A H xs vs)(e:mB xs i=ba w):∃v,mB vs i=ba v/\Rel X.K A H w v:=by
 unfold mB at e ⊢;rw[r.length]at e;cases q:pW vs.length i with
 | none=>rw[q]at e; cases e
 | some j=>
  rw[q]at e;obtain⟨v,h1,h2⟩:=r.get (show xs[j]?=ba w from e)
  exact#[v,h1,h2]
def Gx (hu:X.A.units+10 < cLine):LIx X rL:=by
 intro value slice J s Y H A S x y a b u v w S' I so rx ru ry rv e hs;cases rx with
 | tup h1 r1=>cases ry with
  | int=>
   (dsimp only[rL]at e; simp only[GP]at e)
   obtain⟨w',e1,e2⟩:=e;cases e2;obtain⟨z,h2,r2⟩:=qa r1 e1;exact IxR.go AZ I ru rv #[_,_,_,_,rfl,rfl,h1,h2,.here so r2] hs
  | _=>cases e
 | ref ea=>cases ry with
  | int=>
   dsimp only[rL]at e;split at e
   ·rename_i ws hw;rw[GP]at e;obtain⟨w',e1,e2⟩:=e;cases e2;obtain⟨vs,h1,r1⟩:=aX so hw ea;obtain⟨z,h2,r2⟩:=qa r1 e1;exact IxR.go xA I ru rv #[_,_,_,_,rfl,rfl,h1,h2,.here so r2] hs
   ·cases e
  | _=>cases e
 | str=>cases ry with
  | int=>
   dsimp only[rL]at e;split at e
   ·rw[GP]at e;obtain⟨c,e1,e2⟩:=e;cases e2;exact IxR.go A6 I ru rv #[_,_,_,rfl,rfl,by assumption,e1,.here so .str] hs
   ·cases e
  | _=>cases e
 | _=>cases ry <;> cases e
def lc {xs:GK W}{vs:GK V}{lo hi:GR G7}(r:RelL X.K A H xs vs):RelL X.K A H (fZ xs lo hi) (iZ vs lo hi):=by
 unfold fZ iZ;rw[r.length];exact(r.drop _).take _
def xW:Di X (λx lo hi H Q=>∃a xs,x=.ref a/\SqT X.K H a xs/\(iZ xs lo hi=xs->Q (.ref a) H)/\∀p,H p=gV->Q (.ref p) (be H p (.tup (iZ xs lo hi)))):=by
 intro J s Y H x v vl vu lo hi sl Q I rx hs pl pu h;obtain⟨a,xs,rfl,hx,q0,q⟩:=h
 by_cases hw:(HT.bK xs.length 0 lo=0/\HT.bK xs.length xs.length hi=xs.length)
 ·cases rx;obtain⟨its,r,ht,hz⟩:=I.tuple hx;have hlen:its.toArray.size=xs.length:=by rw[G6]; exact r.length.symm
  show#["tuple",_,PyProof.Rows.slot_tuple_getitem.lookup,ht.typeIs,?_];show HT.fq ht hs pl pu (by rw[hlen]; exact hw) #[.ref a,H,I,rfl,q0 ?_]
  unfold iZ;rw[hw.1,hw.2];simp
 ·exact AY J s Y H (.ref a) v vl vu lo hi sl Q I rx hs pl pu #[a,xs,rfl,hx,hw,q]
def Gy:LSl X oF:=by
 intro J s Y H A S x a v vl vu lo hi sl w S' I so rx rv hs pl pu e;cases rx with
 | tup h1 r1=>
  cases e;obtain⟨T,id,z1,z2,z3⟩:=xW J s Y H _ v vl vu lo hi sl (EndV X.w X.K A H S (.tup (fZ _ lo hi))) I rv hs pl pu #[_,_,rfl,h1,λq=>.here so (.tup h1 (by have:=lc (lo:=lo) (hi:=hi) r1; rw[q]at this; exact this)),λp hp=>.tup so (lc r1) hp]
  exact#[T,id,z1,z2,aT z3 λ_ _=>EP.post]
 | ref ea=>
  dsimp only[oF]at e;split at e
  ·rename_i ws hw;cases e;obtain⟨vs,h1,r1⟩:=aX so hw ea;obtain⟨T,id,z1,z2,z3⟩:=xB J s Y H _ v vl vu lo hi sl (EndV X.w X.K A H (S++[.lst (fZ ws lo hi)]) (.ref S.length)) I rv hs pl pu #[_,_,rfl,h1,λp hp=>.lst so (lc r1) hp]
   exact#[T,id,z1,z2,aT z3 λ_ _=>EP.post]
  ·cases e
 | _=>cases e
def lset (hu:X.A.units+10 < cLine):LSet X rM:=by
 intro J s Y H A S o i x ao ai ax uo ui ux S' I so ro ruo ri rui rx rux e;cases ro with
 | ref ea=>cases ri with
  | int=>
   dsimp only[rM]at e;split at e
   ·rename_i ws hw;split at e
    ·rename_i j hj;cases e;obtain⟨vs,h1,r1⟩:=dO so hw ea;rw[r1.length]at hj;obtain⟨so',ex⟩:=so.write (i4 hw) ea (r1.set rx j);exact aT (tB J s Y H _ _ _ uo ui ux (λH'=>H'=be H _ (.lst (vs.set j ax))) I ruo rui rux #[_,_,_,_,rfl,rfl,h1,hj,rfl]) λ_ s' #[H',I',e']=>#[_,A,e' ▸ I',ex,so']
    ·cases e
   ·cases e
  | _=>cases e
 | _=>cases ri <;> cases e
abbrev lg (xs:GK W)(S:aa):GR (W×aa):=match xs with
 | [.tup ys]=>ba (.int ys.length,S)
 | [.str y]=>if y.length<=sizeLine then ba (.int y.length,S)else gV
 | [.ref i]=>(eF S i).map λys=>(.int ys.length,S)
 | _=>gV
def rN:LCall X (.builtin "len") lg:=by
 intro J s Y H A S xs vs us w S' I so rl rv e;cases rl with
 | nil=>cases e
 | cons r t=>
  cases t with
  | cons _ _=>cases r <;> cases e
  | nil=>
   cases r with
   | tup h1 r1=>cases e; rw[r1.length]; exact CallR.go iW I rv #[_,_,rfl,.inr #[_,h1,rfl],.here so .int]
   | str=>
    dsimp only[lg]at e;split at e
    ·cases e; exact CallR.go iW I rv #[_,_,rfl,#[by assumption,rfl],.here so .int]
    ·cases e
   | ref ea=>
    (dsimp only[lg]at e; simp only[GP]at e)
    obtain⟨ws,hw,e2⟩:=e;cases e2;obtain⟨vs',h1,r1⟩:=aX so hw ea;rw[r1.length];exact CallR.go iW I rv #[_,_,rfl,.inl #[_,h1,rfl],.here so .int]
   | _=>cases e
abbrev ga (xs:GK W)(S:aa):GR (W×aa):=match xs with
 | [x]=>match dE S x with
  | some ys=>ba (.ref S.length,S++[.lst ys])
  | none=>gV
 | _=>gV
def fL:LCall X (.type "list") ga:=by
 intro J s Y H A S xs vs us w S' I so rl rv e;cases rl with
 | nil=>cases e
 | cons r t=>
  cases t with
  | cons _ _=>cases e
  | nil=>
   dsimp only[ga]at e;split at e
   ·rename_i ys hy;cases e;obtain⟨p,vs',rfl,hq,r1⟩:=lb (J:=J) (Y:=Y) (s:=s) so r hy;exact CallR.go kY I rv #[p,vs',rfl,hq,λl hl=>.lst so r1 hl]
   ·cases e
abbrev i6 (xs:GK W)(S:aa):GR (W×aa):=match xs with
 | [.tup ys]=>ba (.tup ys,S)
 | [.ref i]=>match eF S i with
  | some ys=>ba (.tup ys,S)
  | none=>gV
 | _=>gV
def iy:LCall X (.type "tuple") i6:=by
 intro J s Y H A S xs vs us w S' I so rl rv e;cases rl with
 | nil=>cases e
 | cons r t=>
  cases t with
  | cons _ _=>cases r <;> cases e
  | nil=>
   cases r with
   | tup h1 r1=>cases e; exact CallR.go fD I rv #[_,_,rfl,.inr #[h1,.here so (.tup h1 r1)]]
   | ref ea=>
    dsimp only[i6]at e;split at e
    ·rename_i ys hy;cases e;obtain⟨vs',h1,r1⟩:=aX so hy ea;exact CallR.go fD I rv #[_,_,rfl,.inl #[h1,λl hl=>.tup so r1 hl]]
    ·cases e
   | _=>cases e
abbrev Dp (xs:GK W)(S:aa):GR (W×aa):=match xs with
 | [.int i]=>ba (.int (if i < 0 then -i else i),S)
 | _=>gV
def rO:LCall X (.builtin "abs") Dp:=by
 intro J s Y H A S xs vs us w S' I so rl rv e;cases rl with
 | nil=>cases e
 | cons r t=>
  cases t with
  | cons _ _=>cases r <;> cases e
  | nil=>
   cases r with
   | int=>cases e; exact CallR.go sZ I rv #[_,rfl,.here so .int]
   | _=>cases e
abbrev Dq (xs:GK W)(S:aa):GR (W×aa):=match xs with
 | [.int i]=>ba (.int i,S)
 | [.bl b]=>ba (.int (if b then 1 else 0),S)
 | _=>gV
def rP:LCall X (.type "int") Dq:=by
 intro J s Y H A S xs vs us w S' I so rl rv e;cases rl with
 | nil=>cases e
 | cons r t=>
  cases t with
  | cons _ _=>cases r <;> cases e
  | nil=>
   cases r with
   | int=>cases e; exact CallR.go jL I rv (.inl #[_,rfl,.here so .int])
   | bl=>cases e; exact CallR.go jL I rv (.inr #[_,rfl,.here so .int])
   | _=>cases e
abbrev gb (x:W)(xs:GK W)(S:aa):GR (W×aa):=match x,xs with
 | .ref i,[y]=>match mh S i with
  | some ys=>if ys.length < sizeLine then ba (.non,S.set i (.lst (ys++[y])))else gV
  | none=>gV
 | _,_=>gV
def gR {i:GX}{p:GZ}{ws ws0:GK W}{us:GK V}(so:StoreOk X.w X.K A H S)(e:mh S i=ba ws0)(ea:A[i]?=ba p)(r:RelL X.K A H ws us){w:W}{v:V}(rw':Rel X.K A H w v) :
  EndV X.w X.K A H (S.set i (.lst ws)) w v (be H p (.lst us)):=by
 obtain⟨so',ex⟩:=so.write (i4 e) ea r;exact#[A,ex,so',rw'.mono ex]
def lh:LMeth X "list.append" gb:=by
 intro J s Y H A S x a u xs vs us w S' I so rx ru rl rv e;cases rx with
 | ref ea=>
  cases rl with
  | nil=>cases e
  | cons r t=>
   cases t with
   | cons _ _=>cases e
   | nil=>
    dsimp only[gb]at e;split at e
    ·rename_i ys hy;split at e
     ·rename_i hl;cases e;obtain⟨vs',h1,r1⟩:=dO so hy ea;rw[r1.length]at hl;exact MtR.go rC I ru rv #[_,_,_,rfl,rfl,h1,hl,gR so hy ea (r1.append #v[r]) .non]
     ·cases e
    ·cases e
 | _=>cases e
abbrev iM (x:W)(xs:GK W)(S:aa):GR (W×aa):=match x,xs with
 | .ref i,[.ref j]=>match mh S i,mh S j with
  | some ys,ba zs=>if ys.length+zs.length<=sizeLine then ba (.non,S.set i (.lst (ys++zs)))else gV
  | _,_=>gV
 | _,_=>gV
def lm:LMeth X "list.extend" iM:=by
 intro J s Y H A S x a u xs vs us w S' I so rx ru rl rv e;cases rx with
 | ref ea=>
  cases rl with
  | nil=>cases e
  | cons r t=>
   cases t with
   | cons _ _=>cases r <;> cases e
   | nil=>
    cases r with
    | ref eb=>
     dsimp only[iM]at e;split at e
     ·rename_i ys zs hy hz;split at e
      ·rename_i hl;cases e;obtain⟨vs',h1,r1⟩:=dO so hy ea;obtain⟨vs2,h2,r2⟩:=dO so hz eb;rw[r1.length,r2.length]at hl;exact MtR.go rD I ru rv #[_,_,_,_,rfl,rfl,h1,h2,hl,gR so hy ea (r1.append r2) .non]
      ·cases e
     ·cases e
    | _=>cases e
 | _=>cases e
abbrev Bd (x:W)(xs:GK W)(S:aa):GR (W×aa):=match x,xs with
 | .ref i,[.int k]=>match mh S i with
  | some ys=>if -(2 ^ 63)<=k/\k < 2 ^ 63 then match seqIndex? k ys.length with
   | some j=>match ys[j]? with
    | some y=>ba (y,S.set i (.lst (ys.eraseIdx j)))
    | none=>gV
   | none=>gV
   else gV
  | none=>gV
 | _,_=>gV
def rQ:LMeth X "list.pop" Bd:=by
 intro J s Y H A S x a u xs vs us w S' I so rx ru rl rv e;cases rx with
 | ref ea=>
  cases rl with
  | nil=>cases e
  | cons r t=>
   cases t with
   | cons _ _=>cases r <;> cases e
   | nil=>
    cases r with
    | int=>
     dsimp only[Bd]at e;split at e
     ·rename_i ys hy;split at e
      ·rename_i hk;split at e
       ·rename_i j hj;split at e
        ·rename_i y hyj;cases e;obtain⟨vs',h1,r1⟩:=dO so hy ea;obtain⟨v',h2,r2⟩:=r1.get hyj;rw[r1.length]at hj;exact MtR.go tH I ru rv #[_,_,_,_,_,rfl,rfl,h1,hk.1,hk.2,hj,h2,gR so hy ea (r1.eraseIdx j) r2]
        ·cases e
       ·cases e
      ·cases e
     ·cases e
    | _=>cases e
 | _=>cases e
abbrev gS:GK W->GR (GK Ha)
 | []=>ba []
 | .str x::xs=>(gS xs).map (x :: ·)
 | _::_=>gV
abbrev qb (x:W)(xs:GK W)(S:aa):GR (W×aa):=match x,xs with
 | .str x,[y]=>match dE S y with
  | some ys=>match gS ys with
   | some zs=>if (zs.map (·.length)).sum+zs.length*x.length<=16777216 then ba (.str (OW x zs),S)else gV
   | none=>gV
  | none=>gV
 | _,_=>gV
def i7:∀ {ws:GK W} {vs:GK V} {us:GK GM} {zs:GK Ha},RelL X.K A H ws vs->Vals vs us->gS ws=ba zs->Pi us zs
 | _,_,_,zs,.nil,.nil,e=>by cases e; exact .nil
 | _,_,_,zs,.cons r t,.cons q p,e=>by
  cases r with
  | str=>
   (dsimp only[gS]at e; simp only[GP]at e)
   obtain⟨z,e1,e2⟩:=e;subst e2;obtain⟨tk,rfl⟩ : ∃t,_=Kr _ t:=q;exact .cons _ tk (i7 t p e1)
  | _=>cases e
def oX:LMeth X "str.join" qb:=by
 intro J s Y H A S x a u xs vs us w S' I so rx ru rl rv e;cases rx with
 | str=>
  cases rl with
  | nil=>cases e
  | cons r t=>
   cases t with
   | cons _ _=>cases e
   | nil=>
    simp only[qb]at e;split at e
    ·rename_i ys hy;split at e
     ·rename_i zs hz;split at e
      ·rename_i hl;cases e;obtain⟨p,vs',rfl,hq,r1⟩:=lb (J:=J) (Y:=Y) (s:=s) so r hy;obtain⟨t0,rfl⟩ : ∃t,u=Kr _ t:=ru;obtain⟨u1,rfl,ru1⟩:=iV rv;have ru1':u1=HM p:=ru1;subst ru1';rcases hq with hq|hq
       ·obtain⟨its,rr,pl,hz'⟩:=I.list hq;exact join_list pl.isList (by simpa using i7 r1 rr hz) hl λt' k=>#[.str _,H,A,I.tok _,#[_,rfl],.refl,so,.str]
       ·obtain⟨its,rr,pl,hz'⟩:=I.tuple hq;exact join_tuple pl (by simpa using i7 r1 rr hz) hl λt' k=>#[.str _,H,A,I.tok _,#[_,rfl],.refl,so,.str]
      ·cases e
     ·cases e
    ·cases e
 | _=>cases e
abbrev dX (S:aa):W->GR Hr
 | .non=>ba false
 | .bl b=>ba b
 | .int i=>ba (i != 0)
 | .str y=>if y.length<=sizeLine then ba ((y.length:G7) != 0)else gV
 | .tup xs=>ba (!xs.isEmpty)
 | .ref i=>(eF S i).map λxs=>!xs.isEmpty
def iA {ws:GK W}{vs:GK V}(r:RelL X.K A H ws vs):(!ws.isEmpty) = !vs.isEmpty:=by cases r <;> rfl
def Fu {x:W}{a:V}{u:GM}{k:Hr}{Q:Hr->GQ->Prop}(I:Inv X J Y H s)(so:StoreOk X.w X.K A H S)(rx:Rel X.K A H x a)(ru:RelV a u)(e:dX S x=ba k)(hq:∀s',Inv X J Y H s'->Q k s') :
  wpAny (model X.prog X.w) X.A (truthy u) Q X.xe s:=by
 show aT (AU J s Y H a u (λb H'=>b=k/\H'=H) I ru #[k,?_,rfl,rfl]) λb s' #[H',I',e1,e2]=>?_
 ·cases rx with
  | non=>cases e; rfl
  | bl=>cases e; rfl
  | int=>cases e; rfl
  | str=>
   simp only[dX]at e;split at e
   ·cases e; exact#[by assumption,rfl]
   ·cases e
  | tup h1 r1=>cases e; exact .inr (.inl #[_,h1,iA r1])
  | ref ea=>
   simp only[dX,GP]at e;obtain⟨ws,hw,e2⟩:=e;subst e2;obtain⟨vs,h1,r1⟩:=aX so hw ea;exact .inl #[_,h1,iA r1]
 ·subst e1 e2;exact hq s' I'
end
abbrev ln (xs:GK Ha)(x:Ha):GK Ha:=if x∈xs then xs else xs++[x]
abbrev gf (ss:GK Ha):GK Ha:=ss.foldl ln []
def rR {ss:GK Ha}{x:Ha}:gf (ss++[x])=ln (gf ss) x:=by unfold gf; rw[List.foldl_append]; rfl
def tY {xs:GK Ha}{x:Ha}:(ln xs x).length<=xs.length+1:=by
 unfold ln;split
 ·exact Jy _
 ·simp
def tZ:∀ss:GK Ha,(gf ss).length<=ss.length:=λss=>by
 unfold gf
 suffices h:∀(ss acc:GK Ha),(ss.foldl ln acc).length<=acc.length+ss.length by simpa using h ss []
 intro ss
 induction ss with
 | nil=>intro acc; simp
 | cons x ss ih=>
  intro acc;have h1:=ih (ln acc x);have h2:=tY (xs:=acc) (x:=x);simp only[LW,HH];omega
abbrev bY (w:HA):ID:={ cls:=.type "set",dict:=gV,data:=.set #[] 0 (.fresh 0 0 (!Dl w)) }
def rS {w:HA}:dN w [] (bY w):=#[#[rfl,rfl,rfl],#[],0,_,rfl,#[λe he=>by simp at he,by simp,.nil,#v[],rfl,rfl,λ_=>rfl]]
section
variable{prog:Hs}{w:HA}{A:Hy}{E:GM->GQ->Prop}{s:GQ}{R:Nx->GQ->Prop}{I:GZ}{fp wr:GK GZ}{G:HD Mg->HD Mg->Prop}{n:GX}{P:GX->GM->Prop}{St:GX->GQ->Prop}
def t4 (W:WalksS prog w A.in1 I fp wr G n P St){D:GZ}(hD:D∉fp){ss:GK Ha}(hl:ss.length=n)(hP:∀i v,P i v->∃x tk,ss[i]?=ba x/\v=.str x tk)(hb:n+1 < scanBound) :
  ∀(k i:GX) (s:GQ) (o:ID),n - i=k->i<=n->St i s->s.heap.get? D=ba o->dN w (gf (ss.take i)) o->
   (∀s' o',Moved (D::wr) G s s'->s'.heap.get? D=ba o'->dN w (gf ss) o'->R (.ok (.ret .none)) s')->codeAny (model prog w) A (.builtin "set.update.loop" #[[.ref D,.ref I],[]]) R s:=by
 have hw:D∉wr:=λz=>hD (W.sub _ z)
 have up:∀b∈wr,b∈D::wr:=λb z=>HS _ z
 intro k
 induction k with
 | zero=>
  intro i s o hk hi st ho hS hR;obtain rfl:i=n:=∅
  show Ip F.entry_set_update_loop ?_;rw[Ii F.plain_set_update_loop _];change wpAny _ A.in1 (pyNext (.ref I) >>= _) _ _ s;show GL (W.done s _ _ st λs' mv=>?_)
  exact GY (hR s' o (mv.mono up) (mv.heap D _ hw ho) (by rw[JZ ∅]at hS; exact hS))
 | succ k ih=>
  intro i s o hk hi st ho hS hR;have hlt:i < n:=∅
  show Ip F.entry_set_update_loop ?_;rw[Ii F.plain_set_update_loop _];change wpAny _ A.in1 (pyNext (.ref I) >>= _) _ _ s;show GL (W.item i s _ _ hlt st λv s1 pv st1 mv=>?_)
  obtain⟨x,tk,hx,rfl⟩:=hP i v pv;change wpAny _ A.in1 (holding [Kr x tk] (setAdd D (.str x tk)) >>= _) _ _ s1;show GL (Ir ?_);unfold setAdd;show Ir (GL (LA ?_));have hlen:(gf (ss.take i)).length+1 < scanBound:=by
   have:=tZ (ss.take i);rw[Im]at this;omega
  have o1:s1.heap.get? D=ba o:=mv.heap D _ hw ho;show xI (s:={ s1 with toks:=s1.toks+1 }) o1 hS hlen λb h' o' sb ho' hS'=>?_
  show GY #[Jz F.plain_set_update_loop _,ih (i+1) { s1 with heap:=h',toks:=s1.toks+1 } o' ∅ hlt (W.frame _ s1 _ _ st1 (Jy _) λc hc u q=>?_) ho' ?_ λs2 o2 mv2 ho2 hS2=>?_]
  ·rw[sb.2 c λz=>hD (z ▸ hc)]; exact q
  ·rw[List.take_succ,hx];change dN w (gf (ss.take i++[x])) o';rw[rR];exact hS'
  ·show hR s2 o2 (Moved.trans W.gtrans ((mv.mono up).then_heap (Jy _) λc u hc q=>?_) mv2) ho2 hS2
   rw[sb.2 c λz=>hc (z ▸ Ik)]
   exact q
def t8 (a:GM){Q₁:GM->GQ->Prop}(h:Q₁ (.ref s.heap.objs.size) { s with heap:=s.heap.push (bY w) }):codeAny (model prog w) A (.call (.builtin "set.__new__") #[[.type "set",a],[]]) (wants Q₁ E) s:=by
 show LY ?_;change wpAny _ A.in1 (checkBuiltinCall "set.__new__" #[[.type "set",a],[]] >>= λ_=>again (.builtin "set.__new__" #[[.type "set",a],[]])) _ _ s
 show GL (Lo (F.newCall_set_1 a) (GY #[Jz F.plain_set_new _,Ip F.entry_set_new ?_]));rw[Ii F.plain_set_new _];unfold KS.«set.__new__» Od;have hsub:=PySem.sub_set_self;obtain⟨hp,g,d,tk,os⟩:=s;dsimp only
 wp_walk
 show wpAny_askSetting (GY ?_);dsimp only;simp only[newObj];exact GL (OX (GY (GY h)))
set_option maxHeartbeats 4000000 in
def t9 {l:GZ}{its:HD GM}{ss:GK Ha}{Q:GM->GQ->Prop}(hh:A.handled=gV)(hl:s.heap.IsList l its)(hi:Pi its.toList ss)(hb:ss.length+1 < scanBound)
  (h:∀h' tk o,h'.get? s.heap.objs.size=ba o->dN w (gf ss) o->(∀b u,s.heap.get? b=ba u->h'.get? b=ba u)->Q (.ref s.heap.objs.size) { s with heap:=h',toks:=tk }):wpAny (model prog w) A (call (.type "set") [.ref l]) Q E s:=by
 obtain⟨c,tl,hmro⟩:=F.called_set.mro;have hmade:=F.called_set.made;have hsub:=F.called_set.sub;have hn1:=F.called_set.notType;have hn2:=F.called_set.canCreate;have hct:=F.typeCall_set_1 (.ref l);show wpAny_call (LY ?_);change wpAny _ _ (callAny (.type "set") _) _ _ _;show GY #[MX _ (by decide +kernel),Ip F.entry_type_call ?_]
 rw[Around.under_plain (weight_type_call_type "set" [.ref l] []) rfl]
 repeat (any_goals (first|assumption|wp_step))
 show Kx (t8 (w:=w) (.ref l) (E:=E) (Q₁:=λobj s1=>obj=.ref s.heap.objs.size/\s1={ s with heap:=s.heap.push (bY w) }) #[rfl,rfl]) λr s1 hr=>?_
 match r,hr with
 | .ok (.ret obj),hr=>
  obtain⟨rfl,rfl⟩:=hr;have oS:(s.heap.push (bY w)).get? s.heap.objs.size=ba (bY w):=G4 _ rfl;have tS:Shared.TypeIs { s with heap:=s.heap.push (bY w) } (.ref s.heap.objs.size) "set":=#[_,oS,rfl]
  have hli:=F.called_set.init.lookup;have hbi:=F.called_set.init.bind (.ref s.heap.objs.size)
  repeat (any_goals (first|assumption|wp_step))
  show Kx (codeAny_call_builtin (R:=wants (λr s2=>r=.none/\∃h' tk o,s2={ s with heap:=h',toks:=tk }/\h'.get? s.heap.objs.size=ba o/\dN w (gf ss) o/\∀b u,s.heap.get? b=ba u->h'.get? b=ba u) E) F.called_set.init.plain F.entry_set_init (check_set_init_1 tS ?_)) λr2 s2 hr2=>?_
  ·obtain⟨⟨oc,od,ot,osl⟩,hol,hcl,nl,hdl⟩:=id hl;simp only at hcl hdl;subst hcl hdl;have hol1:=GN (bY w) hol;have l1:(s.heap.push (bY w)).IsList l its:=#[_,hol1,rfl,nl,rfl];have e1:=F.sub_list_set;have e2:=F.sub_list_frozenset;have e3:(JL "list" == JL "dict")=false:=by decide
   unfold KS.«set.__init__» noKeywords NW;generalize hPI:pyIter=PI
   wp_walk
   subst hPI;show J5 l1 (GL (La ?_));have ls:l < s.heap.objs.size:=Hb hol;have sz:(s.heap.push (bY w)).objs.size=s.heap.objs.size+1:=JD ..;have ne:l≠(s.heap.push (bY w)).objs.size:=by rw[sz]; exact Hn (Lp ls)
   show t4 ((Oe (A:=A.in1.in1.in1) (by simp[hh]) _ l ne its).toS) (D:=s.heap.objs.size) (ss:=ss) (by rw[sz]; simp only[Hj,HE,IY,ND]; exact#[Hn (Kc _),IH ls]) (by rw[<- hi.length,Hg]) (λi v q=>?_) (by rw[<- Hg,hi.length]; exact hb) _ 0 _ (bY w) rfl (Jj _)
    #[#[_,G4 _ rfl,rfl,rfl],l1.push _] (GN _ oS) rS λs3 o3 mv ho3 hS3=>?_
   ·obtain⟨x,tk,e,hx⟩:=hi.item i v (by rw[Il]; exact q)
    exact#[x,tk,hx,e]
   ·rw[Moved.eq_with mv];show GY (GY #[rfl,s3.heap,s3.toks,o3,rfl,ho3,hS3,λb u q=>?_])
    have hb:=Hb q;exact mv.heap b u (by rw[sz]; simp only[Hj,HE,IY,ND]; exact#[Hn hb,Hn (Lp hb)]) (GN _ (GN _ q))
  ·match r2,hr2 with
   | .ok (.ret r),hr2=>
    obtain⟨rfl,h',tk,o,rfl,g1,g2,g3⟩:=hr2
    repeat (any_goals (first|assumption|wp_step))
    exact h h' tk o g1 g2 g3
   | .ok .next,hr2=>exact hr2.elim
   | .ok .brk,hr2=>exact hr2.elim
   | .ok .cont,hr2=>exact hr2.elim
   | .error e,hr2=>exact hr2
 | .ok .next,hr=>exact hr.elim
 | .ok .brk,hr=>exact hr.elim
 | .ok .cont,hr=>exact hr.elim
 | .error e,hr=>exact hr
end
abbrev mG:GK W->GR (GK Ha)
 | []=>ba []
 | .str x::ws=>(mG ws).map (x :: ·)
 | _::_=>gV
def mH:∀ {ws:GK W} {ss:GK Ha},mG ws=ba ss->ws=ss.map .str
 | [],_,h=>by cases h; rfl
 | .str x::ws,_,h=>by
  obtain⟨ss,h1,rfl⟩:=GP.mp h;rw[mH h1]; rfl
 | .non::_,_,h|.bl _::_,_,h|.int _::_,_,h|.tup _::_,_,h|.ref _::_,_,h=>by cases h
def jU:∀ {ss:GK Ha},mG (ss.map .str)=ba ss
 | []=>rfl
 | x::ss=>by simp only[HX,mG,jU,HC]
abbrev Dr (S:aa)(i:GX):GR (GK Ha):=match S[i]? with
 | some (.sts xs)=>ba xs
 | _=>gV
abbrev xX (S:aa)(i:GX):GR (G7×G7):=match S[i]? with
 | some (.rng lo hi)=>ba (lo,hi)
 | _=>gV
abbrev lq (xs:GK W)(S:aa):GR (W×aa):=match xs with
 | [.ref i]=>match eF S i with
  | some ws=>match mG ws with
   | some ss=>if ss.length+1 < scanBound then ba (.ref S.length,S++[.sts (gf ss)])else gV
   | none=>gV
  | none=>gV
 | _=>gV
abbrev oY (xs:GK W)(S:aa):GR (W×aa):=match xs with
 | [.int j]=>if -(2 ^ 62)<=j/\j < 2 ^ 62 then ba (.ref S.length,S++[.rng 0 j])else gV
 | _=>gV
abbrev Ds (lo:G7)(n:GX):GK W:=(HJ n).map λ(k:GX)=>.int (lo+(k:G7))
abbrev jV (xs:GK W)(S:aa):GR (W×aa):=match xs with
 | [.ref i]=>match xX S i with
  | some (lo,hi)=>if -(2 ^ 62)<=lo/\lo < 2 ^ 62/\-(2 ^ 62)<=hi/\hi < 2 ^ 62/\(hi - lo).toNat<=sizeLine then ba (.ref S.length,S++[.lst (Ds lo (hi - lo).toNat)])else gV
  | none=>ga [.ref i] S
 | xs=>ga xs S
section
variable{X:Cx}{J:GK (GZ×ID)}{Y:L2.St}{H:Hp}{s:GQ}{A:GK GZ}{S:aa}
def Inv.drawn (I:Inv X J Y H s)(d:Pv):Inv X J Y H { s with drawn:=d }:=#[I.ok,I.os,I.bare,I.base,I.loc,I.cell,I.free,I.freeC,I.pin,I.hok,I.len]
def i8 {h':HQ}{tk:GX}{dr:Pv}{D:GZ}{n:O}{u:HO}(I:Inv X J Y H s)(so:StoreOk X.w X.K A H S)(hk:∀b o,s.heap.get? b=ba o->h'.get? b=ba o)(hD:s.heap.objs.size<=D)(new:ObjOk X.prog X.w (be H D u) h' D u)
  (r:H D=gV->ObjRel X.w X.K (A++[D]) (be H D u) D n):PostE X J Y A H (S++[n]) (.ref S.length) (.ref D) { s with heap:=h',toks:=tk,drawn:=dr }:=by
 have hn:H D=gV:=I.hok.fresh hD;show#[.ref D,_,A++[D],Mi.Inv.drawn (I.laid (a:=D) (o:=u) (t':=tk) hk hD new) dr,rfl,db hn,so.pushO hn (r hn),.ref ?_];rw[<- so.len]; simp
def jW:∀ {ss:GK Ha} {vs:GK V} {us:GK GM},RelL X.K A H (ss.map .str) vs->Vals vs us->Pi us ss
 | [],_,_,.nil,rv=>by cases rv; exact .nil
 | x::ss,_,_,.cons r t,rv=>by
  cases rv with
  | cons ru rv=>
   cases r;obtain⟨tk,rfl⟩:=ru;exact .cons x tk (jW t rv)
def lr:∀ {vs:GK V} {us:GK GM},vs.length=us.length->(∀(i:GX) v u,vs[i]?=ba v->us[i]?=ba u->L2.RelV v u)->Vals vs us
 | [],[],_,_=>.nil
 | v::vs,u::us,hl,h=>.cons (h 0 v u rfl rfl) (lr (by simpa using hl) λi v u a b=>h (i+1) v u (by simpa using a) (by simpa using b))
 | [],_::_,hl,_=>by cases hl
 | _::_,[],hl,_=>by cases hl
def lu {K:G0}{lo:G7}:∀(l:GK GX),RelL K A H (l.map λ(k:GX)=>W.int (lo+(k:G7))) (l.map λ(k:GX)=>V.int (lo+(k:G7)))
 | []=>.nil
 | _::l=>.cons .int (lu l)
def iN {xs:GK W}{vs:GK V}{us:GK GM}{i:GX}(rl:RelL X.K A H [.ref i] vs)(rv:Vals vs us):∃a,A[i]?=ba a/\us=[.ref a]:=by
 cases rl with
 | cons r t=>
  cases t;cases r with
  | @ref _ a ea=>
   cases rv with
   | cons ru rv=>
    cases rv;obtain rfl:_=HM a:=ru;exact#[a,ea,rfl]
def rT (hh:X.A.handled=gV):LCall X (.type "set") lq:=by
 intro J s Y H A S xs vs us w S' I so rl rv e;unfold lq at e;split at e
 ·rename_i i;obtain⟨a,ea,rfl⟩:=iN (xs:=[]) rl rv;split at e
  ·rename_i ws hw;split at e
   ·rename_i ss hs;split at e
    ·rename_i hb;cases e;obtain⟨vs',h1,r1⟩:=aX so hw ea;obtain⟨its,rv',p,_⟩:=I.list h1;rw[mH hs]at r1;show t9 hh p.isList (by simpa using jW r1 rv') hb λh' tk o ho hS hk=>?_
     show i8 (dr:=s.drawn) (u:=.frz o (.ext λh=>h.get? s.heap.objs.size=ba o)) I so hk (G2 _) #[ho,ho,#[o,ho],λh1 h2 q k=>k _ q] λ_=>#[o,_,aI,hS]
    ·cases e
   ·cases e
  ·cases e
 ·cases e
def Be {i:GX}{ss:GK Ha}{a:GZ}(I:Inv X J Y H s)(so:StoreOk X.w X.K A H S)(h:Dr S i=ba ss)(ea:A[i]?=ba a):∃o,s.heap.get? a=ba o/\dN X.w ss o:=by
 unfold Dr at h;split at h
 ·rename_i xs hx;cases h;obtain⟨o,φ,q,r⟩:=so.obj i _ a hx ea;exact#[o,(show ObjOk X.prog X.w H s.heap a (.frz o (.ext φ))from I.hok a _ q).1,r]
 ·cases h
def mI:LCall X (.type "range") oY:=by
 intro J s Y H A S xs vs us w S' I so rl rv e;unfold oY at e;split at e
 ·rename_i j;split at e
  ·rename_i hb;cases e;cases rl with
   | cons r t=>
    cases t;cases r;cases rv with
    | cons ru rv=>
     cases rv;obtain⟨tk,rfl⟩:=ru;exact OJ (i8 (dr:=s.drawn) (u:=.rng 0 j) I so (λb o e=>GN _ e) (G2 _) #[_,_,_,G4 _ rfl] λ_=>aI)
  ·cases e
 ·cases e
def mJ (hh:X.A.handled=gV):LCall X (.type "list") jV:=by
 intro J s Y H A S xs vs us w S' I so rl rv e;unfold jV at e;split at e
 ·rename_i i;split at e
  ·rename_i lo hi hr;split at e
   ·rename_i hb;cases e;obtain⟨a,ea,rfl⟩:=iN (xs:=[]) rl rv;obtain⟨b1,b2,b3,b4,b5⟩:=hb;have hH:H a=ba (.rng lo hi):=by
     unfold xX at hr;split at hr
     ·rename_i hx; cases hr; exact so.obj i _ a hx ea
     ·cases hr
    obtain⟨t,u,v,ho⟩:=I.hok a _ hH;have hn:IS lo hi 1=((hi - lo).toNat:GX):=by rw[MG]; split <;> omega
    show call_list_range hh ho (OF b1 b2 b3 b4) hn b5 λh' tk acc c hk hD hacc=>?_
    have hv:Vals ((HJ (hi - lo).toNat).map λ(k:GX)=>V.int (lo+(k:G7))) acc.toList:=by
     show lr (by rw[GU,Iu,Hg,hacc.1]) λi v u e1 e2=>?_
     rw[G1,GP]at e1;obtain⟨k,e1,rfl⟩:=e1;obtain⟨hk,rfl⟩:=G8.mp e1;obtain⟨t,rfl⟩:=hacc.2 i u (by rw[<- Il]; exact e2)
     exact#[t,by simp]
    show i8 (dr:=s.drawn) (u:=.lst ((HJ (hi - lo).toNat).map λ(k:GX)=>V.int (lo+(k:G7)))) I so hk (G2 _) #[by simpa using b5,acc.toList,c,hv,by simpa using hD] λhn=>#[_,aI,?_]
    exact lu _
   ·cases e
  ·exact fL J s Y H A S _ vs us w S' I so rl rv e
 ·exact fL J s Y H A S _ vs us w S' I so rl rv e
end
mutual
inductive IsT (h:HQ):T->GM->Prop
 | int {i:G7} {t:Pq}:IsT h (.int i) (.int i t)
 | str {x:Ha} {t:Pq}:IsT h (.str x) (.str x t)
 | tup {ks:GK T} {a:GZ} {o:ID} {items:HD GM} {n:GX}:h.get? a=ba o->o.cls=.type "tuple"->o.data=.seq items n->IsTs h ks items.toList->IsT h (.tup ks) (.ref a)
inductive IsTs (h:HQ):GK T->GK GM->Prop
 | nil:IsTs h [] []
 | cons {k:T} {v:GM} {ks:GK T} {vs:GK GM}:IsT h k v->IsTs h ks vs->IsTs h (k::ks) (v::vs)
end
mutual
theorem IsT.inj {h:HQ}:∀ {x y:T} {v:GM},IsT h x v->IsT h y v->x=y
 | _,_,_,.int,h2=>by cases h2; rfl
 | _,_,_,.str,h2=>by cases h2; rfl
 | _,_,_,.tup a1 _ d1 t1,h2=>by
  cases h2 with
  | tup a2 _ d2 t2=>
   rw[a1]at a2; cases a2
   rw[d1]at d2; cases d2
   rw[IsTs.inj t1 t2]
theorem IsTs.inj {h:HQ}:∀ {x y:GK T} {v:GK GM},IsTs h x v->IsTs h y v->x=y
 | _,_,_,.nil,h2=>by cases h2; rfl
 | _,_,_,.cons a b,h2=>by
  cases h2 with
  | cons c d=>rw[IsT.inj a c,IsTs.inj b d]
end
mutual
theorem IsT.keeps {h h':HQ}{d:GZ}{o:ID}{es:HD Jm}{ep:GX}(ho:h.get? d=ba o)(hd:o.data=.dict es ep)(hs:Je d h h'):∀ {x:T} {v:GM},IsT h x v->IsT h' x v
 | _,_,.int=>.int
 | _,_,.str=>.str
 | _,_,.tup (a:=a) a1 c1 d1 t1=>by
  have hne:a≠d:=by
   rintro rfl;rw[a1]at ho; cases ho
   rw[d1]at hd; cases hd
  exact .tup ((hs.2 a hne).trans a1) c1 d1 (IsTs.keeps ho hd hs t1)
theorem IsTs.keeps {h h':HQ}{d:GZ}{o:ID}{es:HD Jm}{ep:GX}(ho:h.get? d=ba o)(hd:o.data=.dict es ep)(hs:Je d h h'):∀ {x:GK T} {v:GK GM},IsTs h x v->IsTs h' x v
 | _,_,.nil=>.nil
 | _,_,.cons a b=>.cons (IsT.keeps ho hd hs a) (IsTs.keeps ho hd hs b)
end
def IsTs.length {h:HQ}:∀ {x:GK T} {v:GK GM},IsTs h x v->x.length=v.length
 | _,_,.nil=>rfl
 | _,_,.cons _ b=>by simp[IsTs.length b]
def IsTs.get {h:HQ}:∀ {x:GK T} {v:GK GM},IsTs h x v->∀(j:GX) (h1:j < x.length) (h2:j < v.length),IsT h x[j] v[j]
 | _,_,.cons a _,0,_,_=>a
 | _,_,.cons _ b,j+1,h1,h2=>IsTs.get b j (by simpa using h1) (by simpa using h2)
def dc:∀ {ks:GK T} (j:GX) (h:j < ks.length),(ks[j]).depth<=T.depths ks
 | k::ks,0,_=>by simp only[T.depths,List.getElem_cons_zero]; omega
 | k::ks,j+1,h=>by
  have:=dc (ks:=ks) j (by simpa using h)
  simp only[T.depths,List.getElem_cons_succ]; omega
section
variable{prog:Hs}{w:HA}{E:GM->GQ->Prop}
mutual
theorem mK:∀(k:T) (v:GM) (A:Hy) (s:GQ) (Q:G7->GQ->Prop),IsT s.heap k v->A.units+k.depth < cLine->Q (mD w k) { s with toks:=s.toks+k.draws }->wpAny (model prog w) A (pyHash v) Q E s
 | .int i,_,A,s,Q,x,_,h=>by cases x; exact Nv h
 | .str y,_,A,s,Q,x,_,h=>by cases x; exact LA h
 | .tup ks,_,A,s,Q,x,hu,h=>by
  cases x with
  | @tup _ a o items n hg hc hd hw=>
   simp only[T.depth]at hu;show PySem.W.pyHash_slot (T:="tuple") #[_,hg,hc] F.slot_tuple_hash F.entry_tuple_hash (F.args_tuple_hash_1 _) (beq_builtin_none _) (.inr ∅) ?_
   change wpAny _ _ (J7 (.ref a) >>= _) _ _ s;show GL (wpAny_tupleItemsOf hg hd ?_);show GL ?_;rw[<- MY];show i9 ks items.toList A.in1 s #[] _ hw (by rw[aU]; omega) λb hb=>?_
   change wpAny _ _ (retInt (Li b.toList)) _ _ _;rw[hb];show GL (NR (GY #[_,_,rfl,?_]))
   simpa [T.draws,Ox,mD]using h
theorem i9:∀(ks:GK T) (vs:GK GM) (A:Hy) (s:GQ) (b:HD G7) (Q:HD G7->GQ->Prop),IsTs s.heap ks vs->A.units+T.depths ks < cLine->
  (∀b',b'.toList=b.toList++i3 w ks->Q b' { s with toks:=s.toks+T.drawss ks })->
  wpAny (model prog w) A (forIn vs b λx r=>do let h <- pyHash x; pure MZ; pure (IQ (r.push h))) Q E s
 | [],_,A,s,b,Q,x,_,h=>by cases x; exact GY (h b (by simp[i3]))
 | k::ks,_,A,s,b,Q,x,hu,h=>by
  cases x with
  | cons x1 x2=>
   simp only[T.depths]at hu;rw[KW];show GL (GL (mK k _ A s _ x1 ∅ ?_))
   show GL (GY (GY ?_));show i9 ks _ A _ _ Q x2 ∅ λb' hb=>?_
   have:=h b' (by simp[hb,i3])
   simpa [T.drawss,Ox]using this
end
open SeqAt in
def rV:∀(d:GX) (x y:T) (u v:GM) (B:Hy) (s:GQ),x.depth<=d->IsT s.heap x u->IsT s.heap y v->B.units+d < cLine->B.units+y.depth < cLine->EqAt B s u v (decide (x=y))
 | d,.int i,y,_,_,B,s,_,h1,h2,hu,hv=>by
  cases h1;cases h2 with
  | int=>
   rename_i j t2;have:decide (T.int i=T.int j)=(i==j):=by by_cases e:i=j <;> simp[e]
   rw[this]; exact .int_int _ _ _ _
  | str=>rw[Hv (by simp)]; exact .int_str _ _ _ _
  | tup a c dd t=>rw[Hv (by simp)]; exact .int_tuple _ _ #[_,a,c,_,dd] (by simp only[T.depth]at hv; omega)
 | d,.str z,y,_,_,B,s,_,h1,h2,hu,hv=>by
  cases h1;cases h2 with
  | int=>rw[Hv (by simp)]; exact .str_int _ _ _ _
  | str=>
   rename_i z2 t2;have:decide (T.str z=T.str z2)=(z==z2):=by by_cases e:z=z2 <;> simp[e]
   rw[this]; exact .str_str _ _ _ _
  | tup a c dd t=>rw[Hv (by simp)]; exact .str_tuple _ _ #[_,a,c,_,dd] (by simp only[T.depth]at hv; omega)
 | 0,.tup ks,y,_,_,B,s,hd,h1,h2,hu,hv=>by simp[T.depth]at hd
 | d+1,.tup ks,y,_,_,B,s,hd,h1,h2,hu,hv=>by
  have h1':=h1;cases h1 with
  | @tup _ a o items n a1 c1 d1 t1=>
   have hT:s.heap.IsTuple a items:=#[_,a1,c1,_,d1];simp only[T.depth]at hd;cases h2 with
   | int=>rw[Hv (by simp)]; exact .tuple_int _ _ hT ∅
   | str=>rw[Hv (by simp)]; exact .tuple_str _ _ hT ∅
   | @tup ks2 b o2 items2 n2 a2 c2 d2 t2=>
    have hT2:s.heap.IsTuple b items2:=#[_,a2,c2,_,d2]
    by_cases hab:a=b
    ·subst hab;have:T.tup ks=T.tup ks2:=h1'.inj (.tup a2 c2 d2 t2);rw[HN this];exact EqAt.same _
    ·show EqAt.of_refs hab ?_;simp only[T.depth]at hv;have l1:items.size=ks.length:=by rw[<- Hg,t1.length]
     have l2:items2.size=ks2.length:=by rw[<- Hg,t2.length]
     let e:GX->Hr:=λj=>if h:j < ks.length/\j < ks2.length then decide (ks[j]'h.1=ks2[j]'h.2)else true
     have he:∀j (h1:j < items.size) (h2:j < items2.size),EqAt B.in1 s items[j] items2[j] (e j):=λj j1 j2=>by
      have g1:=t1.get j (l1 ▸ j1) (by simpa using j1)
      have g2:=t2.get j (l2 ▸ j2) (by simpa using j2)
      have q1:=dc (ks:=ks) j (l1 ▸ j1);have q2:=dc (ks:=ks2) j (l2 ▸ j2);have:=rV d _ _ _ _ B.in1 s ∅ g1 g2 (by rw[aU]; omega) (by rw[aU]; omega)
      change EqAt B.in1 s items[j] items2[j] (if h:j < ks.length/\j < ks2.length then decide (ks[j]'h.1=ks2[j]'h.2)else true)
      rw[Pj #[l1 ▸ j1,l2 ▸ j2]]
      simpa using this
     have:=RcAt.tuples hT hT2 ∅ he
     have hk:((HJ (min items.size items2.size)).all e&&items.size==items2.size)=decide (T.tup ks=T.tup ks2):=by
      rw[l1,l2]
      by_cases hl:ks.length=ks2.length
      ·by_cases hq:ks=ks2
       ·subst hq;simp only[OM,HI,MJ,decide_true,Hq,HZ];intro j hj;show(if h:j < ks.length/\j < ks.length then decide (ks[j]'h.1=ks[j]'h.2)else true)=true
        rw[Pj #[hj,hj]]; simp
       ·rw[Hv (by simpa using hq)]
        have:∃j,∃h:j < ks.length,ks[j]≠ks2[j]'(hl ▸ h):=by
         apply Lj;intro hn;exact hq (KM hl λj h1 h2=>Lj λz=>hn #[j,h1,z])
        obtain⟨j,hj,hne⟩:=this;rw[L8];apply Or.inl;rw[List.all_eq_false];show#[j,by rw[HZ,<- hl,OM]; exact hj,?_]
        show ¬ (if h:j < ks.length/\j < ks2.length then decide (ks[j]'h.1=ks2[j]'h.2)else true)=true
        rw[Pj #[hj,hl ▸ hj]]
        simpa using hne
      ·rw[Hv (by simp; intro z; exact hl (by rw[z])),L8]
       right
       simpa using hl
     rw[hk]at this;exact this
def jX {n:GX}{v:GM}(h:∀a,v≠.ref a):eqIsQuiet n v=pure true:=by
 cases v with
 | ref a=>exact absurd rfl (h a)
 | _=>first|rfl|simp[eqIsQuiet]|(unfold eqIsQuiet; rfl)
def qc:∀(d:GX) (k:T) (v:GM) (A:Hy) (s:GQ) (Q:Hr->GQ->Prop),k.depth<=d->IsT s.heap k v->Q true s->wpAny (model prog w) A (eqIsQuiet d v) Q E s
 | d,.int i,_,A,s,Q,_,x,h=>by cases x; rw[jX (λa=>by simp)]; exact GY h
 | d,.str i,_,A,s,Q,_,x,h=>by cases x; rw[jX (λa=>by simp)]; exact GY h
 | 0,.tup ks,_,A,s,Q,hd,x,h=>by simp[T.depth]at hd
 | d+1,.tup ks,_,A,s,Q,hd,x,h=>by
  cases x with
  | @tup _ a o items n ho hc hdt hi=>
   simp only[T.depth]at hd;have hT:s.TypeIs (.ref a) "tuple":=#[_,ho,hc];unfold eqIsQuiet;show GL (wpAny_specialOf hT F.slot_tuple_eq.lookup ?_);change wpAny _ _ (isInstance (.ref a) (.type "tuple") >>= _) _ _ s;show GL (KN hT isSubtype_tuple_tuple ?_);simp only[MK,Ix,JJ];show GL (IZ ho hdt ?_);show GL ?_;change wpAny _ _ (forIn items _ _) _ _ s;rw[<- MY];show NC _ (λbB r s'=>r.1=gV/\s'=s/\∃kk,IsTs s.heap kk bB/\T.depths kk<=d) _ ?_ ?_ _ _ #[rfl,rfl,ks,hi,∅]
   ·rintro v bB r s' ⟨hr,rfl,kk,hall,hdk⟩;cases hall with
    | cons q1 q2=>
     simp only[T.depths]at hdk;show GL (qc d _ v _ _ _ ∅ q1 ?_)
     simp only[MK,Ix,JJ];exact GY #[rfl,rfl,_,q2,∅]
   ·rintro⟨r1,r2⟩ s' ⟨hr,rfl,_⟩;simp only at hr;subst hr;exact GY h
end
abbrev bZ (prog:Hs)(w:HA):HeapKind prog w T where
 is:=λh k a=>IsT h k (.ref a)/\k.depth<=aJ
 hash:=mD w
 draws:=T.draws
 room:=λA=>A.units+aJ < cLine
 inj:=λhx hy=>hx.1.inj hy.1
 keeps:=λx ho hd hs=>#[x.1.keeps ho hd hs,x.2]
 pyHash:=λhu hk h=>mK _ _ _ _ _ hk.1 (by have:=hk.2; omega) h
 eqBool:=λhu hx hy h=>rV aJ _ _ _ _ _ _ hx.2 hx.1 hy.1 hu (by have:=hy.2; omega) _ _ _ _ h
 quiet:=λhk h=>qc 8 _ _ _ _ _ (by have:=hk.2; unfold aJ at this; omega) hk.1 h
mutual
def gT:T->Hr
 | .int _=>true
 | .str _=>false
 | .tup xs=>dF xs
def dF:GK T->Hr
 | []=>true
 | x::xs=>gT x&&dF xs
end
abbrev gU (S:aa)(i:GX):GR (GK (T×W)):=match S[i]? with
 | some (.dic U)=>ba U
 | some (.frd U)=>ba U
 | _=>gV
abbrev lv (S:aa)(i:GX):GR (GK (T×W)):=match S[i]? with
 | some (.dic U)=>ba U
 | _=>gV
abbrev bR (U:GK (T×W))(k:T):GR W:=(U.find? λp=>decide (p.1=k)).map (·.2)
abbrev dP (U:GK (T×W))(k:T)(v:W):GK (T×W):=
 if (U.any λp=>decide (p.1=k))=true then U.map (λp=>if p.1=k then(p.1,v)else p)else U++[(k,v)]
abbrev ft (w:W):GR T:=match W.t w with
 | some k=>if k.isTup=true/\k.depth<=aJ then ba k else gV
 | none=>gV
def c7 {w:W}{k:T}(h:ft w=ba k):k.w=w/\k.isTup=true/\k.depth<=aJ:=by
 unfold ft at h;split at h
 ·rename_i k' hk;split at h
  ·rename_i hc;cases h;exact#[W.t_w hk,hc.1,hc.2]
  ·cases h
 ·cases h
def cF (U:GK (T×W))(k:T)(v:W):(dP U k v).length<=U.length+1:=by
 unfold dP;split
 ·rw[GU]; omega
 ·rw[G3,HH,IP]; omega
section
variable{X:Cx}{J:GK (GZ×ID)}{Y:L2.St}{H:Hp}{s:GQ}{A:GK GZ}{S:aa}
mutual
theorem gW (I:Inv X J Y H s):∀(k:T) {v:V} {u:GM},Rel X.K A H k.w v->RelV v u->IsT s.heap k u
 | .int i,_,_,r,q=>by
  cases r;obtain⟨t,rfl⟩ : ∃t,_=Lz _ t:=q;exact .int
 | .str x,_,_,r,q=>by
  cases r;obtain⟨t,rfl⟩ : ∃t,_=Kr _ t:=q;exact .str
 | .tup ks,_,_,r,q=>by
  simp only[T.w]at r;cases r with
  | tup sq rl=>
   obtain⟨its,rv,⟨o,h1,h2,n,h3⟩,hz⟩:=I.tuple sq;obtain rfl:_=HM _:=q;exact .tup h1 h2 h3 (eV I ks rl (by simpa using rv))
theorem eV (I:Inv X J Y H s):∀(ks:GK T) {vs:GK V} {us:GK GM},RelL X.K A H (T.ws ks) vs->Vals vs us->IsTs s.heap ks us
 | [],_,_,r,q=>by
  simp only[T.ws]at r;cases r; cases q; exact .nil
 | k::ks,_,_,r,q=>by
  simp only[T.ws]at r;cases r with
  | cons r1 r2=>
   cases q with
   | cons q1 q2=>exact .cons (gW I k r1 q1) (eV I ks r2 q2)
end
def gX (I:Inv X J Y H s){k:T}{b:GZ}(r:Rel X.K A H k.w (.ref b))(hd:k.depth<=aJ):(bZ X.prog X.w).is s.heap k b:=#[gW I k r rfl,hd]
def gg {w:W}{k:T}{v:V}{u:GM}(hk:ft w=ba k)(r:Rel X.K A H w v)(q:RelV v u):∃b,v=.ref b/\u=.ref b/\Rel X.K A H k.w (.ref b):=by
 obtain⟨h1,h2,h3⟩:=c7 hk;subst h1;cases k with
 | tup ks=>
  simp only[T.w]at r;cases r with
  | tup a b=>exact#[_,rfl,q,by simp only[T.w]; exact .tup a b]
 | _=>cases h2
def KRel.is {U:GK (T×W)}{xs:GK (T×GZ×GM)}(I:Inv X J Y H s)(r:KRel X.K A H U xs):∀x∈xs,(bZ X.prog X.w).is s.heap x.1 x.2.1:=by
 unfold KRel at r
 induction r with
 | nil=>intro x hx; exact nomatch hx
 | @cons p q ps qs h t ih=>
  intro x hx;rcases Hj.mp hx with e|hx
  ·subst e;obtain⟨h1,h2,h3,h4,_⟩:=h;rw[h1]at h3 h4;exact gX I h4 h3
  ·exact ih x hx
def KRel.length {U:GK (T×W)}{xs:GK (T×GZ×GM)}(r:KRel X.K A H U xs):U.length=xs.length:=Lr r
def KRel.val {U:GK (T×W)}{xs:GK (T×GZ×GM)}(r:KRel X.K A H U xs)(k:T) :
  (∀w,bR U k=ba w->∃p v,atKey xs k=ba p/\Rel X.K A H w v/\RelV v p.2)/\(bR U k=gV->atKey xs k=gV):=by
 unfold KRel at r
 induction r with
 | nil=>exact#[λw h=>(nomatch h),λ_=>rfl]
 | @cons p q ps qs h t ih=>
  obtain⟨h1,_,_,_,v,h5,h6⟩:=h
  by_cases e:p.1=k
  ·have e':q.1=k:=h1.symm.trans e;have a1:bR (p::ps) k=ba p.2:=by simp[bR,J1,e]
   have a2:atKey (q::qs) k=ba q.2:=by simp[atKey,J1,e']
   rw[a1,a2];exact#[λw hw=>(by cases hw; exact#[_,v,rfl,h5,h6]),λh=>nomatch h]
  ·have e':¬ q.1=k:=λz=>e (h1.trans z)
   have a1:bR (p::ps) k=bR ps k:=by simp[bR,J1,e]
   have a2:atKey (q::qs) k=atKey qs k:=by simp[atKey,J1,e']
   rw[a1,a2];exact ih
def KRel.repl {U:GK (T×W)}{xs:GK (T×GZ×GM)}(r:KRel X.K A H U xs)(k:T){w:W}{v:V}{u:GM}(rw':Rel X.K A H w v)(rv:RelV v u) :
  KRel X.K A H (U.map λp=>if p.1=k then(p.1,w)else p) (xs.map (putAt k u)):=by
 unfold KRel at r ⊢
 induction r with
 | nil=>exact .nil
 | @cons p q ps qs h t ih=>
  rw[HX,HX];show .cons ?_ ih;obtain⟨h1,h2,h3,h4,h5⟩:=h;unfold putAt
  by_cases e:p.1=k
  ·rw[Hk e,Hk (h1.symm.trans e)]; exact#[h1,h2,h3,h4,v,rw',rv]
  ·rw[Hu e,Hu (λz=>e (h1.trans z))]; exact#[h1,h2,h3,h4,h5]
def mL (k:T):∀U:GK (T×W),(U.any λp=>decide (p.1=k))=(bR U k).isSome
 | []=>rfl
 | p::r=>by
  rw[Jx]
  by_cases e:p.1=k
  ·have a1:bR (p::r) k=ba p.2:=by simp[bR,J1,e]
   rw[a1,HN e]; rfl
  ·have a1:bR (p::r) k=bR r k:=by simp[bR,J1,e]
   rw[a1,Hv e,Lu]; exact mL k r
def KRel.put {U:GK (T×W)}{xs:GK (T×GZ×GM)}(r:KRel X.K A H U xs){k:T}{b:GZ}{w:W}{v:V}{u:GM}(h1:k.isTup=true)(h2:k.depth<=aJ)(h3:Rel X.K A H k.w (.ref b))(rw':Rel X.K A H w v)(rv:RelV v u) :
  KRel X.K A H (dP U k w) (storedH xs k b u):=by
 have e:(U.any λp=>decide (p.1=k))=(atKey xs k).isSome:=by
  rw[mL];cases q:bR U k with
  | none=>rw[(r.val k).2 q]; rfl
  | some x=>obtain⟨p,_,h,_⟩:=(r.val k).1 x q; rw[h]; rfl
 unfold dP storedH;rw[e]
 by_cases q:(atKey xs k).isSome=true
 ·rw[Hk q,Hk q]; exact r.repl k rw' rv
 ·rw[Hu q,Hu q]; exact Paired.snoc r #[rfl,h1,h2,h3,v,rw',rv]
def DicAt.of {h:HQ}{a:GZ}{xs:GK (T×GZ×GM)}(hz:xs.length<=sizeLine)(hs:(a==sysModules)=false)(d:h.DictOfH (bZ X.prog X.w) a xs):DicAt X.w a xs h:=
 let ⟨o,es,ep,h1,h2,h3,h4,_,h6⟩:=d; #[hz,hs,h6,o,es,ep,h1,h2,h3,h4]
def DicAt.stay {wd:HA}{h h':HQ}{a:GZ}{xs:GK (T×GZ×GM)}(d:DicAt wd a xs h)(k:∀o,h.get? a=ba o->h'.get? a=ba o):DicAt wd a xs h':=
 let ⟨h0,hs,hn,o,es,ep,h1,h2⟩:=d; #[h0,hs,hn,o,es,ep,k _ h1,h2]
def DicAt.ok {P:Hs}{h:HQ}{wd:HA}{a:GZ}{xs:GK (T×GZ×GM)}(d:DicAt wd a xs h):ObjOk P wd H h a (da wd a xs):=
 #[d,let ⟨_,_,_,o,_,_,h1,_⟩:=d; #[o,h1],λ_ _ p k=>p.stay k]
def bO {a:GZ}{xs:GK (T×GZ×GM)}(I:Inv X J Y H s)(e:Rd H a (da X.w a xs)):DicAt X.w a xs s.heap:=(show ObjOk X.prog X.w H s.heap a (da X.w a xs)from e.ok I.hok).1
def DicAt.dict {U:GK (T×W)}{a:GZ}{xs:GK (T×GZ×GM)}(d:DicAt X.w a xs s.heap)(I:Inv X J Y H s)(r:KRel X.K A H U xs):s.heap.DictOfH (bZ X.prog X.w) a xs:=
 let ⟨_,_,hn,o,es,ep,h1,h2,h3,h4⟩:=d; #[o,es,ep,h1,h2,h3,h4,r.is I,hn]
def eJ {i:GX}{U:GK (T×W)}{a:GZ}(so:StoreOk X.w X.K A H S)(e:gU S i=ba U)(ea:A[i]?=ba a):∃xs,Rd H a (da X.w a xs)/\KRel X.K A H U xs:=by
 unfold gU at e;split at e
 ·rename_i k h;cases e;obtain⟨xs,q,r⟩:=so.obj i _ a h ea;exact#[xs,.inl q,r]
 ·rename_i k h;cases e;obtain⟨o,xs,q,r⟩:=so.obj i _ a h ea;exact#[xs,.inr #[o,q],r]
 ·cases e
def gh {i:GX}{U:GK (T×W)}(e:lv S i=ba U):S[i]?=ba (.dic U):=by
 unfold lv at e;split at e
 ·rename_i h; cases e; exact h
 ·cases e
def qd {i:GX}{U:GK (T×W)}{a:GZ}(so:StoreOk X.w X.K A H S)(e:lv S i=ba U)(ea:A[i]?=ba a):∃xs,H a=ba (da X.w a xs)/\KRel X.K A H U xs:=
 so.obj i _ a (gh e) ea
def mM {B:Hy}(hu:B.units+10 < cLine):(bZ X.prog X.w).room B.in1:=by
 change B.in1.units+aJ < cLine;rw[aU]; unfold aJ; omega
abbrev mj (x y:W)(S:aa):GR (W×aa):=match x,y with
 | .ref r,.tup ks=>match gU S r,ft (.tup ks)with
  | some U,ba k=>(bR U k).map λw=>(w,S)
  | _,_=>gV
 | x,y=>rL x y S
def Fv (hu:X.A.units+10 < cLine):LIx X mj:=by
 intro value slice J s Y H A S x y a b u v w S' I so rx ru ry rv e hs
 by_cases hxy:∃r ks,x=.ref r/\y=.tup ks
 ·obtain⟨r,ks,rfl,rfl⟩:=hxy;simp only[mj]at e;split at e
  ·rename_i U k hk1 hk2;rw[GP]at e;obtain⟨w',e1,e2⟩:=e;cases e2;cases rx with
   | ref ea=>
    obtain⟨xs,rd,kr⟩:=eJ so hk1 ea;have d:=bO I rd;have dd:=d.dict I kr;obtain⟨bk,rfl,rfl,rk⟩:=gg hk2 ry rv;obtain⟨p,vv,h1,h2,h3⟩:=(kr.val k).1 _ e1;obtain rfl:u=HM _:=ru;show Kz (x:=p.2) dd.typeIs slot_dict_getitem.lookup
     (wpAny_getItem_heap (Q:=λr s'=>r=p.2/\PostE X J Y A H S w r s') (mM hu) (gX I rk (c7 hk2).2.2) dd h1 #[rfl,vv,H,A,I.tok _,h3,.refl,so,h2]) hs
  ·cases e
 ·have:mj x y S=rL x y S:=by
   cases x <;> cases y <;> first|rfl|exact absurd #[_,_,rfl,rfl] hxy
  rw[this]at e;exact Gx hu value slice J s Y H A S x y a b u v w S' I so rx ru ry rv e hs
abbrev gk (o i v:W)(S:aa):GR aa:=match o,i with
 | .ref r,.tup ks=>match lv S r,ft (.tup ks)with
  | some U,ba k=>if U.length < sizeLine then ba (S.set r (.dic (dP U k v)))else gV
  | _,_=>gV
 | o,i=>rM o i v S
def Dt (hu:X.A.units+10 < cLine):LSet X gk:=by
 intro J s Y H A S o i x ao ai ax uo ui ux S' I so ro ruo ri rui rx rux e
 by_cases hxy:∃r ks,o=.ref r/\i=.tup ks
 ·obtain⟨r,ks,rfl,rfl⟩:=hxy;dsimp only[gk]at e;split at e
  ·rename_i U k hk1 hk2;split at e
   ·rename_i hl;cases e;cases ro with
    | ref ea=>
     obtain⟨xs,hH,kr⟩:=qd so hk1 ea;have d:=bO I (.inl hH);have dd:=d.dict I kr;obtain⟨bk,rfl,rfl,rk⟩:=gg hk2 ri rui;obtain⟨q1,q2,q3⟩:=c7 hk2;obtain rfl:uo=HM _:=ruo;have hz:xs.length<=sizeLine:=by rw[<- kr.length]; omega
     show wpAny_setItem_heap (hsz:=hz) (mM hu) (gX I rk q3) dd λh' dd' hs=>?_
     have kr':=kr.put q2 q3 rk rx rux;have hz':(storedH xs k bk ux).length<=sizeLine:=by
      rw[<- kr'.length];have:=cF U k x;omega
     have dn:DicAt X.w _ (storedH xs k bk ux) h':=.of hz' d.2.1 dd';obtain⟨so',ex⟩:=so.writeO (gh hk1) rfl ea (u:=da X.w _ (storedH xs k bk ux)) (n:=.dic (dP U k x)) #[_,aI,kr'.mono (bN (.ext hH))];exact#[_,A,kZ I (by rw[hH]; exact KO) hs (let ⟨q,_,_,hq,_⟩:=dd'; #[q,hq]) dn.ok,ex,so']
   ·cases e
  ·cases e
 ·have:gk o i x S=rM o i x S:=by
   cases o <;> cases i <;> first|rfl|exact absurd #[_,_,rfl,rfl] hxy
  rw[this]at e;exact lset hu J s Y H A S o i x ao ai ax uo ui ux S' I so ro ruo ri rui rx rux e
abbrev qe (x:W)(xs:GK W)(S:aa):GR (W×aa):=match x,xs with
 | .ref r,[y,z]=>match gU S r,ft y with
  | some U,ba k=>ba ((bR U k).getD z,S)
  | _,_=>gV
 | _,_=>gV
def oZ (hu:X.A.units+10 < cLine):LMeth X "dict.get" qe:=by
 intro J s Y H A S x a u xs vs us w S' I so rx ru rl rv e;cases rx with
 | ref ea=>
  cases rl with
  | nil=>cases e
  | cons r1 t1=>
   cases t1 with
   | nil=>cases e
   | cons r2 t2=>
    cases t2 with
    | cons _ _=>cases e
    | nil=>
     dsimp only[qe]at e;split at e
     ·rename_i U k hk1 hk2;cases e;obtain⟨xs,rd,kr⟩:=eJ so hk1 ea;have d:=bO I rd;have dd:=d.dict I kr;cases rv with
      | cons v1 rv2=>
       cases rv2 with
       | cons v2 rv3=>
        cases rv3;obtain⟨bk,rfl,rfl,rk⟩:=gg hk2 r1 v1;obtain rfl:u=HM _:=ru;show call_meetsIn L9 dd.typeIs PySem.F.entry_dict_get (PySem.F.args_dict_get_3 _ _ _) (meetsH_dict_get_default (bZ X.prog X.w) _ bk d.2.1 _) #[mM hu,k,xs,gX I rk (c7 hk2).2.2,dd,?_];cases q:bR U k with
        | none=>
         rw[(kr.val k).2 q];exact#[_,H,A,I.tok _,v2,.refl,so,r2]
        | some w'=>
         obtain⟨p,vv,h1,h2,h3⟩:=(kr.val k).1 _ q;rw[h1];exact#[vv,H,A,I.tok _,h3,.refl,so,h2]
     ·cases e
 | _=>cases e
abbrev EN (x:W)(i:GX)(S:aa):GR Hr:=match W.t x,eF S i with
 | some k,ba ys=>match W.ts ys with
  | some ks=>if k.depth<=aJ/\T.depths ks<=aJ then ba (decide (k∈ks))else gV
  | none=>gV
 | _,_=>gV
abbrev Bf (x:W)(ys:GK W):GR Hr:=match W.t x,W.ts ys with
 | some k,ba ks=>if k.depth<=aJ/\T.depths ks<=aJ then ba (decide (k∈ks))else gV
 | _,_=>gV
def lw {h:HQ}:∀ {ks:GK T} {vs:GK GM},IsTs h ks vs->∀v∈vs,∃k∈ks,IsT h k v
 | _,_,.cons a b,v,hv=>by
  rcases Hj.mp hv with rfl|hv
  ·exact#[_,.head _,a]
  ·obtain⟨k,hk,q⟩:=lw b v hv;exact#[k,.tail _ hk,q]
abbrev w6 (h:HQ)(k:T)(v:GM):Hr:=@decide (IsT h k v) (OH _)
def o4 {h:HQ}{k k':T}{v:GM}(x:IsT h k' v):w6 h k v=decide (k'=k):=by
 unfold w6
 by_cases e:k'=k
 ·subst e; simp[x]
 ·have:¬ IsT h k v:=λy=>e (x.inj y)
  simp[e,this]
def lx {h:HQ}{k:T}:∀ {ks:GK T} {vs:GK GM},IsTs h ks vs->vs.any (w6 h k)=decide (k∈ks)
 | _,_,.nil=>by simp
 | _,_,.cons (k:=k') a b=>by
  rw[Jx,o4 a,lx b]
  by_cases e:k'=k
  ·simp[e]
  ·have:¬ k=k':=λz=>e z.symm
   simp[e,this]
def ja:∀ {ks:GK T} {k:T},k∈ks->k.depth<=T.depths ks
 | x::ks,k,h=>by
  simp only[T.depths];rcases Hj.mp h with rfl|h
  ·omega
  ·have:=ja h; omega
def ud {x:W}{i:GX}{a b:V}{u v:GM}{c:Hr}(hu:X.A.units+10 < cLine)(I:Inv X J Y H s)(so:StoreOk X.w X.K A H S)(rx:Rel X.K A H x a)(ru:RelV a u)(ry:Rel X.K A H (.ref i) b)(rv:RelV b v)(e:EN x i S=ba c) :
  ∃l its k ks,v=.ref l/\s.heap.IsList l its/\(∀y,y∈its->KJ X.A.in1 s y u (w6 s.heap k y))/\its.any (w6 s.heap k)=c/\c=decide (k∈(ks:GK T)):=by
 unfold EN at e;split at e
 ·rename_i k ys h1 h2;split at e
  ·rename_i ks h3;split at e
   ·rename_i h4;cases e;cases ry with
    | ref ea=>
     obtain⟨vs,g1,g2⟩:=aX so h2 ea;obtain⟨its,rv',p,_⟩:=I.list g1;obtain rfl:v=HM _:=rv;have hT:IsTs s.heap ks its:=eV I ks ((W.ts_w h3).symm ▸ g2) rv';have hk:IsT s.heap k u:=gW I k ((W.t_w h1).symm ▸ rx) ru;show#[_,its.toArray,k,ks,rfl,p.isList,λy hy=>?_,by rw[NE]; exact lx hT,rfl]
     obtain⟨k',hk',q⟩:=lw hT y (by simpa using hy)
     rw[o4 q];have:=ja hk';have kl:aJ=6:=rfl;exact rV aJ k' k _ _ _ _ ∅ q hk (by rw[aU]; omega) (by rw[aU]; omega)
   ·cases e
  ·cases e
 ·cases e
def xY {x:W}{ys:GK W}{a b:V}{u v:GM}{c:Hr}(hu:X.A.units+10 < cLine)(I:Inv X J Y H s)(rx:Rel X.K A H x a)(ru:RelV a u)(ry:Rel X.K A H (.tup ys) b)(rv:RelV b v)(e:Bf x ys=ba c) :
  ∃l its k,v=.ref l/\s.heap.IsTuple l its/\(∀y,y∈its->KJ X.A.in1 s y u (w6 s.heap k y))/\its.any (w6 s.heap k)=c:=by
 unfold Bf at e;split at e
 ·rename_i k ks h1 h3;split at e
  ·rename_i h4;cases e;cases ry with
   | @tup _ l vs g1 g2=>
    obtain⟨its,rv',p,_⟩:=I.tuple g1;obtain rfl:v=HM _:=rv;have hT:IsTs s.heap ks its:=eV I ks ((W.ts_w h3).symm ▸ g2) rv';have hk:IsT s.heap k u:=gW I k ((W.t_w h1).symm ▸ rx) ru;show#[_,its.toArray,k,rfl,p,λy hy=>?_,by rw[NE]; exact lx hT]
    obtain⟨k',hk',q⟩:=lw hT y (by simpa using hy)
    rw[o4 q];have:=ja hk';have kl:aJ=6:=rfl;exact rV aJ k' k _ _ _ _ ∅ q hk (by rw[aU]; omega) (by rw[aU]; omega)
  ·cases e
 ·cases e
abbrev ue (o:COp)(x y:W)(S:aa):GR (W×aa):=match o,y with
 | .isin,.ref i=>match gU S i with
  | some U=>(ft x).map λk=>(.bl (bR U k).isSome,S)
  | none=>match x with
   | .tup xs=>(EN (.tup xs) i S).map λb=>(.bl (b),S)
   | x=>cg .isin x (.ref i) S
 | .notin,.ref i=>match gU S i with
  | some U=>(ft x).map λk=>(.bl (!(bR U k).isSome),S)
  | none=>match x with
   | .tup xs=>(EN (.tup xs) i S).map λb=>(.bl (!b),S)
   | x=>cg .notin x (.ref i) S
 | .isin,.tup ys=>match x with
  | .tup xs=>(Bf (.tup xs) ys).map λb=>(.bl b,S)
  | x=>cg .isin x (.tup ys) S
 | o,y=>cg o x y S
def uf (hu:X.A.units+d7 < cLine)(o:COp):LOp X (compareOp o.py) (ue o):=by
 intro J s Y H A S x y a b u v w S' I so rx ru ry rv e;have get:∀ {i:GX} {U:GK (T×W)} {k:T},y=.ref i->gU S i=ba U->ft x=ba k->∃d c xs,v=.ref d/\u=.ref c/\(d==sysModules)=false/\(bZ X.prog X.w).is s.heap k c/\s.heap.DictOfH (bZ X.prog X.w) d xs/\(bR U k).isSome=(atKey xs k).isSome:=by
  intro i U k hy hk1 hk2;subst hy;cases ry with
  | ref ea=>
   obtain⟨xs,rd,kr⟩:=eJ so hk1 ea;have d:=bO I rd;obtain⟨bk,rfl,rfl,rk⟩:=gg hk2 rx ru;obtain rfl:v=HM _:=rv;show#[_,bk,xs,rfl,rfl,d.2.1,gX I rk (c7 hk2).2.2,d.dict I kr,?_];cases q:bR U k with
   | none=>rw[(kr.val k).2 q]; rfl
   | some w'=>obtain⟨p,_,h1,_⟩:=(kr.val k).1 _ q; rw[h1]; rfl
 have old:cg o x y S=ba (w,S')->wpAny (model X.prog X.w) X.A (compareOp o.py u v) (PostE X J Y A H S' w) X.xe s:=λh=>fY hu o J s Y H A S x y a b u v w S' I so rx ru ry rv h
 have hu':X.A.units+10 < cLine:=by have:d7=20:=rfl; omega
 unfold ue at e;split at e
 ·split at e
  ·rename_i U hk1;rw[GP]at e;obtain⟨k,hk2,e2⟩:=e;cases e2;obtain⟨d,c,xs,rfl,rfl,q1,q2,q3,q4⟩:=get rfl hk1 hk2;rw[q4];exact wpAny_in_heap (mM hu') q2 q1 q3 #[.bl _,H,A,I.tok _,rfl,.refl,so,.bl]
  ·split at e
   ·rw[GP]at e;obtain⟨c,hc,e⟩:=e;cases e;obtain⟨l,its,k,ks,rfl,p1,p2,p3,_⟩:=ud hu' I so rx ru ry rv hc;show NU (w6 s.heap k) p1 p2 ?_;rw[p3];exact#[.bl _,H,A,I,rfl,.refl,so,.bl]
   ·exact old e
 ·split at e
  ·rename_i U hk1;rw[GP]at e;obtain⟨k,hk2,e2⟩:=e;cases e2;obtain⟨d,c,xs,rfl,rfl,q1,q2,q3,q4⟩:=get rfl hk1 hk2;rw[q4];exact wpAny_notIn_heap (mM hu') q2 q1 q3 #[.bl _,H,A,I.tok _,rfl,.refl,so,.bl]
  ·split at e
   ·rw[GP]at e;obtain⟨c,hc,e⟩:=e;cases e;obtain⟨l,its,k,ks,rfl,p1,p2,p3,_⟩:=ud hu' I so rx ru ry rv hc;show MW (w6 s.heap k) p1 p2 ?_;rw[p3];exact#[.bl _,H,A,I,rfl,.refl,so,.bl]
   ·exact old e
 ·split at e
  ·rw[GP]at e;obtain⟨c,hc,e⟩:=e;cases e;obtain⟨l,its,k,rfl,p1,p2,p3⟩:=xY hu' I rx ru ry rv hc;show NA (w6 s.heap k) p1 p2 ?_;rw[p3];exact#[.bl _,H,A,I,rfl,.refl,so,.bl]
  ·exact old e
 ·exact old e
end
abbrev RawD (d:GZ)(es:HD Jm)(ep:GX)(h:HQ):Prop:=∃o,h.get? d=ba o/\o.ExactDict/\o.data=.dict es ep
def RawD.at {d:GZ}{es:HD Jm}{ep:GX}{h h':HQ}(x:RawD d es ep h)(e:∀o,h.get? d=ba o->h'.get? d=ba o):RawD d es ep h':=let ⟨o,ho,r⟩:=x; #[o,e _ ho,r]
def RawD.lt {d:GZ}{es:HD Jm}{ep:GX}{h:HQ}(x:RawD d es ep h):d < h.objs.size:=let ⟨_,ho,_⟩:=x; Hb ho
def RawD.type {d:GZ}{es:HD Jm}{ep:GX}{s:GQ}(x:RawD d es ep s.heap):s.TypeIs (.ref d) "dict":=let ⟨o,ho,hc,_⟩:=x; #[o,ho,hc.1]
section
variable{prog:Hs}{w:HA}{A:Hy}{E:GM->GQ->Prop}{s:GQ}{it d:GZ}{i ep:GX}{es:HD Jm}
def mN {Q:GM->GQ->Prop}(hd:(d==sysModules)=false)(hm:RawD d es ep s.heap)
  (hQ:Q (.ref s.heap.objs.size) { s with heap:=s.heap.push { cls:=.type "dict_keyiterator",data:=.fields [.ref d,.int 0 0,.int es.size 0,.int ep 0].toArray } }):wpAny (model prog w) A (pyIter (.ref d)) Q E s:=by
 have hT:=hm.type;obtain⟨o,ho,hc,hdat⟩:=id hm;show wpAny_pyIter_slot hT F.slot_dict_iter (Io F.slot_dict_iter hT F.entry_dict_iter ?_ (F.args_dict_iter_1 _));unfold KS.«dict.__iter__» On;show GL (GL (wpAny_notOrdered_dict hT ?_));change wpAny _ _ (pure (HM d)) _ _ s;show GY ?_;change wpAny _ _ (Ma d >>= _) _ _ s;unfold Ma;rw[Hu (by rw[hd]; exact Hh)]
 show GL (GY (GL (KC ho hdat (GL (LZ ho hdat ?_)))));show GL (HY (GY #[_,rfl,"dict_keyiterator",_,#[_,G4 _ rfl,rfl],F.slot_dict_keyiterator_next.lookup,?_]))
 simpa [rawInt]using hQ
def mO {Q:GR GM->GQ->Prop}(hit:s.heap.IsKeyIter it d i es.size ep)(hm:RawD d es ep s.heap)(hi:i < es.size)
  (hQ:∀h',h'.IsKeyIter it d (i+1) es.size ep->Je it s.heap h'->Q (ba es[i].key) { s with heap:=h' }):wpAny (model prog w) A (pyNext (.ref it)) Q E s:=by
 obtain⟨o,ho,hc,hd⟩:=id hit;obtain⟨od,hod,hcd,hdd⟩:=id hm;unfold pyNext;show GL (Km (HW (name:=IW "__next__") hit.typeIs F.slot_dict_keyiterator_next
  (Io F.slot_dict_keyiterator_next hit.typeIs F.entry_dict_keyiterator_next ?_ (F.args_dict_keyiterator_next_1 _))))
 show GL (GY (GL (GL ?_)))
 first|refine GL (Jk hit.typeIs (GY ?_))|refine GL (JN hit.typeIs (GY ?_))
 show GL (Of ho hd ?_);have hown:KY "dict_keyiterator" = false:=by decide
 simp only[hown,Ix,JJ];change wpAny _ _ (if (HM d==Ic)=true then _ else _) _ _ s
 rw[Hu (show ¬ ((HM d==Ic)=true)from Hh)]
 show GL (GY (GL (KC hod hdd ?_)));rw[Hu (by simp)]
 show GL (GY (GL (LZ hod hdd ?_)));rw[Hu (by simp)]
 show GY ?_;simp only[show ¬ ((i:G7) < 0)from by omega,JJ,Hf,Kf hi]
 show GL ?_
 first|refine GL (Jk hit.typeIs (GY ?_))|refine GL (JN hit.typeIs (GY ?_))
 show GL (Mb hit.typeIs ?_);change wpAny _ _ (setField (.ref it) 1 (rawInt ((i:G7)+1)) >>= _) _ _ s;show GL (Lb ho hd (by simp) ?_)
 have hit':(s.heap.update it (Oy (·.setIfInBounds 1 (rawInt ((i:G7)+1))))).IsKeyIter it d (i+1) es.size ep:=
  #[_,Jc _ ho (Mc (Kq hd _)),(Nm ..).trans hc,by rw[Kq hd]; simp[rawInt]]
 show GL (Ir ?_);show GL (Mb (s:={ s with heap:=s.heap.update it (Oy (·.setIfInBounds 1 (rawInt ((i:G7)+1)))) }) hit'.typeIs ?_)
 change wpAny _ _ (pure es[i].key) _ _ _;exact GY (GY #[_,rfl,GY (hQ _ hit' (JR ..))])
def qf {Q:GR GM->GQ->Prop}(hh:A.handled=gV)(hit:s.heap.IsKeyIter it d i es.size ep)(hm:RawD d es ep s.heap)(hge:es.size<=i)
  (hQ:∀h',Mk it s.heap h'->Q gV { s with heap:=h' }):wpAny (model prog w) A (pyNext (.ref it)) Q E s:=by
 obtain⟨o,ho,hc,hd⟩:=id hit;obtain⟨od,hod,hcd,hdd⟩:=id hm;unfold pyNext;show GL (Km (HW (name:=IW "__next__") hit.typeIs F.slot_dict_keyiterator_next
  (Io F.slot_dict_keyiterator_next hit.typeIs F.entry_dict_keyiterator_next ?_ (F.args_dict_keyiterator_next_1 _))))
 show GL (GY (GL (GL ?_)))
 first|refine GL (Jk hit.typeIs (GY ?_))|refine GL (JN hit.typeIs (GY ?_))
 show GL (Of ho hd ?_);have hown:KY "dict_keyiterator" = false:=by decide
 simp only[hown,Ix,JJ];change wpAny _ _ (if (HM d==Ic)=true then _ else _) _ _ s
 rw[Hu (show ¬ ((HM d==Ic)=true)from Hh)]
 show GL (GY (GL (KC hod hdd ?_)));rw[Hu (by simp)]
 show GL (GY (GL (LZ hod hdd ?_)));rw[Hu (by simp)]
 show GY ?_;simp only[show ¬ ((i:G7) < 0)from by omega,JJ,Hf,LN hge]
 show GL ?_
 first|refine GL (Jk hit.typeIs (GY ?_))|refine GL (JN hit.typeIs (GY ?_))
 change wpAny _ _ (setField (.ref it) 0 .none >>= _) _ _ s;show GL (Lb ho hd (by simp) ?_)
 change wpAny _ _ (newExc (.type "StopIteration") [] >>= _) _ _ _;show GL ?_;simp only[newExc,newTuple];show GL (HY ?_ (by size_fits))
 show GL (m:=firstArgMember _ _) (Lo (a:=Ic) (by first|rfl|(simp only[firstArgMember]; rfl)) ?_)
 show HY ?_ (by size_fits)
 simp only[raiseNew];show GL (Oz ?_);rw[show A.in1.handled=gV from hh]
 show GL (GY (OY ?_));show GL (KN (T:="StopIteration") (b:=true) #[_,G4 _ rfl,rfl] Ml ?_);exact GY (hQ _ (((JR ..).extBut.push _).push _))
def rW (hh:A.handled=gV)(I d:GZ)(hne:d≠I)(es:HD Jm)(ep:GX) :
  PB prog w A I [I,d] [I] es.size (λi v=>∃e,es[i]?=ba e/\e.key=v) (λi h=>h.IsKeyIter I d i es.size ep/\RawD d es ep h) where
 sub:=λb hb=>by simp at hb; simp[hb]
 frame:=λ_ _ _ st hk=>#[st.1.at λo e=>hk I (by simp) o e,st.2.at λo e=>hk d (by simp) o e]
 item:=λi s Q E hi st hQ=>
  mO st.1 st.2 hi λh' hit' hs'=>hQ _ h' s.toks #[es[i],by simp[hi],rfl] #[hit',st.2.at λo e=>(hs'.2 d hne).trans e] λb o hb e=>hs'.extBut b o (λh=>hb (by simp[h])) e
 done:=λs Q E st hQ=>qf hh st.1 st.2 (G2 _) λh' he'=>hQ h' s.toks λb o hb e=>he' b o (λh=>hb (by simp[h])) e
 self:=λ_ _ _ _ st hQ=>Mm st.1 hQ
def qh (lo:(d==sysModules)=false):Mn prog w "dict" d d es.size (λi v=>∃e,es[i]?=ba e/\e.key=v) (RawD d es ep) where
 type:=λ_ hm=>hm.type
 there:=λ_ hm=>#[hm.lt,hm.lt]
 keep:=λ_ _ hm hk=>hm.at λo e=>hk d (.inl rfl) o e
 notList:=by decide
 notTuple:=by decide
 hint:=λ_ _ _ _ hm hq=>PySem.W.kdl_hint_dict hm.type hq
 iter:=λ_ _ hh hm=>#[_,_,(λ_ _ hq=>mN lo hm hq),rW hh _ d (Hn hm.lt) es ep,#[#[_,G4 _ rfl,rfl,rfl],hm.at λo e=>GN _ e]]
def ug {T:Iw}{r d S:GZ}{n:GX}{P:GX->GM->Prop}{OK:HQ->Prop}{R:Nx->GQ->Prop}(K:Mn prog w T r d n P OK)(hh:A.handled=gV)(hok:OK s.heap)(hn:n<=sizeLine)(hSr:S≠r)(hSd:S≠d)
  (hS:s.heap.get? S=ba { cls:=.type "list",data:=.seq #[] 0 })
  (hR:∀h' tk acc' c',(∀b o,b≠S->s.heap.get? b=ba o->h'.get? b=ba o)->h'.get? S=ba { cls:=.type "list",dict:=gV,data:=.seq acc' c',slots:=#[] }->LO P acc' n->R (.ok (.ret (.ref S))) { s with heap:=h',toks:=tk }) :
  codeAny (model prog w) A (.builtin "list.__iadd__" #[[.ref S,.ref r],[]]) R s:=by
 show Ip F.entry_list_iadd ?_;rw[Ii F.plain_list_iadd _];change wpAny _ A.in1 (Jv (.ref S) (.ref r) (.ref S)) _ _ _;exact PySem.W.kdl_extend K hh hok S hSr hSd _ 0 hS hR hn
def mP {T:Iw}{r d:GZ}{n:GX}{P:GX->GM->Prop}{OK:HQ->Prop}{Q:GK GM->GQ->Prop}(K:Mn prog w T r d n P OK)(hh:A.handled=gV)(hok:OK s.heap)(hn:n<=sizeLine)
  (hQ:∀h' tk acc,(∀b o,s.heap.get? b=ba o->h'.get? b=ba o)->s.heap.objs.size<=h'.objs.size->LO P acc n->Q acc.toList { s with heap:=h',toks:=tk }):wpAny (model prog w) A (collect (.ref r)) Q E s:=by
 unfold collect;show GL (La (Ip F.entry_proto_collect ?_));rw[Ii F.plain_proto_collect _];change wpAny _ A.in1 (newList [] >>= λl=>again (.builtin "list.__iadd__" #[[l,.ref r],[]])) _ _ s
 show GL (HY ?_);have hlt:=K.there _ hok;show GY #[Jz F.plain_list_iadd _,ug (s:={ s with heap:=s.heap.push { cls:=.type "list",data:=.seq ([]:GK GM).toArray } }) K hh (K.keep _ _ hok λb _ o e=>GN _ e) hn (IH hlt.1) (IH hlt.2) (G4 _ rfl) λh' tk acc' c' hk hS' hacc=>?_]
 change wpAny (model prog w) A (do
   let o <- load s.heap.objs.size
   match o.data with
   | .seq xs _=>pure xs.toList
   | _=>unsupported "internal:collect") Q E { s with heap:=h',toks:=tk }
 show GL (MT hS' ?_);exact GY (hQ h' tk acc' (λb o e=>hk b o (Hn (Hb e)) (GN _ e)) (Kw (Hb hS')) hacc)
end
mutual
def d8:T->T->GR Hr
 | .int a,.int b=>ba (decide (a < b))
 | .str a,.str b=>ba (decide (a.cps.toList < b.cps.toList))
 | .tup xs,.tup ys=>ci xs ys
 | _,_=>gV
def ci:GK T->GK T->GR Hr
 | [],[]=>ba false
 | [],_::_=>ba true
 | _::_,[]=>ba false
 | x::xs,y::ys=>if x=y then ci xs ys else d8 x y
end
mutual
theorem IsT.kept {h h':HQ}(hk:∀b o,o.cls=.type "tuple"->h.get? b=ba o->h'.get? b=ba o):∀ {x:T} {v:GM},IsT h x v->IsT h' x v
 | _,_,.int=>.int
 | _,_,.str=>.str
 | _,_,.tup a1 c1 d1 t1=>.tup (hk _ _ c1 a1) c1 d1 (IsTs.kept hk t1)
theorem IsTs.kept {h h':HQ}(hk:∀b o,o.cls=.type "tuple"->h.get? b=ba o->h'.get? b=ba o):∀ {x:GK T} {v:GK GM},IsTs h x v->IsTs h' x v
 | _,_,.nil=>.nil
 | _,_,.cons a b=>.cons (IsT.kept hk a) (IsTs.kept hk b)
end
def Du {B:Hy}{s:GQ}{d:GX}(hu:B.units+d < cLine)(hl:∀(x y:T) (u v:GM) (k:Hr),x.depth<=d->y.depth<=d->IsT s.heap x u->IsT s.heap y v->d8 x y=ba k->LtAt B s u v k) :
  ∀(xs ys:GK T) (us vs:GK GM) (k:Hr),T.depths xs<=d->T.depths ys<=d->IsTs s.heap xs us->IsTs s.heap ys vs->ci xs ys=ba k->LexR B s us vs k
 | [],[],_,_,k,_,_,h1,h2,e=>by cases h1; cases h2; cases e; exact .nn
 | [],y::ys,_,_,k,_,_,h1,h2,e=>by cases h1; cases h2; cases e; exact .nc
 | x::xs,[],_,_,k,_,_,h1,h2,e=>by cases h1; cases h2; cases e; exact .cn
 | x::xs,y::ys,_,_,k,d1,d2,h1,h2,e=>by
  simp only[T.depths]at d1 d2;cases h1 with
  | cons p1 q1=>
   cases h2 with
   | cons p2 q2=>
    have he:=rV d x y _ _ B s ∅ p1 p2 hu ∅
    dsimp only[ci]at e
    by_cases hxy:x=y
    ·rw[Hk hxy]at e;rw[HN hxy]at he;exact .eq he (Du hu hl xs ys _ _ k ∅ ∅ q1 q2 e)
    ·rw[Hu hxy]at e;rw[Hv hxy]at he;exact .ne he (hl x y _ _ k ∅ ∅ p1 p2 e)
def Bg:∀(d:GX) (x y:T) (u v:GM) (B:Hy) (s:GQ) (k:Hr),x.depth<=d->y.depth<=d->IsT s.heap x u->IsT s.heap y v->B.units+d < cLine->d8 x y=ba k->LtAt B s u v k:=by
 intro d
 induction d with
 | zero=>
  intro x y u v B s k d1 d2 h1 h2 hu e;cases h1 with
  | int=>cases h2 with
   | int=>cases e; exact λprog w E Q h=>(MD h:wpAny (model prog w) B (compareOp .Lt _ _) Q E s)
   | _=>cases e
  | str=>cases h2 with
   | str=>cases e; exact λprog w E Q h=>(lt_str h:wpAny (model prog w) B (compareOp .Lt _ _) Q E s)
   | _=>cases e
  | tup _ _ _ _=>simp[T.depth]at d1
 | succ d ih=>
  intro x y u v B s k d1 d2 h1 h2 hu e;cases h1 with
  | int=>cases h2 with
   | int=>cases e; exact λprog w E Q h=>(MD h:wpAny (model prog w) B (compareOp .Lt _ _) Q E s)
   | _=>cases e
  | str=>cases h2 with
   | str=>cases e; exact λprog w E Q h=>(lt_str h:wpAny (model prog w) B (compareOp .Lt _ _) Q E s)
   | _=>cases e
  | tup a1 c1 e1 t1=>cases h2 with
   | tup a2 c2 e2 t2=>
    simp only[T.depth]at d1 d2;have hu1:B.in1.units+d < cLine:=by rw[aU]; omega
    exact LtAt.tuples #[_,a1,c1,_,e1] #[_,a2,c2,_,e2] ∅ (Du hu1 (λx y u v k q1 q2 q3 q4 q5=>ih x y u v B.in1 s k q1 q2 q3 q4 hu1 q5) _ _ _ _ k ∅ ∅ t1 t2 e)
   | _=>cases e
section
variable{prog:Hs}{w:HA}{A:Hy}{R:Nx->GQ->Prop}{I S:GZ}{fp wr:GK GZ}{n:GX}{P:GX->GM->Prop}{St:GX->HQ->Prop}{Ok:HQ->Prop}{bt:GX->GX->Hr}
abbrev uh (prog:Hs)(w:HA)(A:Hy)(P:GX->GM->Prop)(Ok:HQ->Prop)(bt:GX->GX->Hr):Prop:=
 ∀i j vi vj (s:GQ) (Q:GM->GQ->Prop) (E:GM->GQ->Prop),Ok s.heap->P i vi->P j vj->Q (.bool (bt i j)) s->wpAny (model prog w) A (richCompare .Lt vi vj) Q E s
def uj (W:PB prog w A.in1 I fp wr n P St)(hcmp:uh prog w A.in1 P Ok bt)(hSf:S∉fp)(hok:∀h h',Ok h->(∀b o,b∉wr->b≠S->h.get? b=ba o->h'.get? b=ba o)->Ok h') :
  ∀(k j:GX) (s:GQ) (vb:GM) (c:GX),n - (j+1)=k->j < n->St (j+1) s.heap->P (argBest bt j) vb->Ok s.heap->s.heap.get? S=ba { cls:=.type "list",dict:=gV,data:=.seq [vb,vb].toArray c,slots:=#[] }->
  (∀v h' tk,P (argBest bt (n - 1)) v->(∀b o,b∉wr->b≠S->s.heap.get? b=ba o->h'.get? b=ba o)->R (.ok (.ret v)) { s with heap:=h',toks:=tk })->
  codeAny (model prog w) A (.builtin "min.loop" #[[.ref I,.none,.ref S],[]]) R s:=by
 have hSw:S∉wr:=λh=>hSf (W.sub _ h)
 have hname:(toString "min" ++ toString ".loop" : Iw) = "min.loop":=by decide
 intro k
 induction k with
 | zero=>
  intro j s vb c hk hj hst hPb hO hS hR;have hin:j+1=n:=∅
  show Ip F.entry_min_loop ?_;rw[Ii F.plain_min_loop _];change wpAny _ A.in1 (seqItems? (.ref S) >>= _) _ _ s;show GL (IZ hS rfl ?_);change wpAny _ A.in1 (tryCatch (pyNext (.ref I)) _ >>= _) _ _ s;show GL (Lc (W.done s _ _ (hin ▸ hst) λh' tk hk'=>?_))
  have hS':=hk' S _ hSw hS;change wpAny _ A.in1 (updateSeq S (λ_=>#[]) >>= _) _ _ _
  show GL (L0 hS' rfl (GL (J8 (GY ?_))));have e:j=n - 1:=∅
  exact hR vb _ tk (e ▸ hPb) λb o hbw hbS e=>(Ig _ _ (Ne.symm hbS)).trans (hk' b o hbw e)
 | succ k ih=>
  intro j s vb c hk hj hst hPb hO hS hR;have hlt:j+1 < n:=∅
  show Ip F.entry_min_loop ?_;rw[Ii F.plain_min_loop _];change wpAny _ A.in1 (seqItems? (.ref S) >>= _) _ _ s;show GL (IZ hS rfl ?_);change wpAny _ A.in1 (tryCatch (pyNext (.ref I)) _ >>= _) _ _ s;show GL (Lc (W.item (j+1) s _ _ hlt hst λv h' tk hP hst' hk'=>?_))
  have hS':=hk' S _ hSw hS;have hO':Ok h':=hok _ _ hO λb o hb _ e=>hk' b o hb e
  change wpAny _ A.in1 (tryCatch (holding [v,v] (richCompare .Lt v vb >>= _)) _ >>= _) _ _ _;show GL (Lc (Ir (GL (hcmp (j+1) (argBest bt j) v vb _ _ _ hO' hP hPb ?_))));show GL (Ir (IC ?_));show GL (J8 (GY ?_));cases hb:bt (j+1) (argBest bt j)with
  | true=>
   simp only[JQ];show GL (L0 hS' rfl (GL (J8 ?_)));rw[hname];show GY #[Jz F.plain_min_loop _,ih (j+1) _ v _ ∅ hlt (W.frame _ _ _ hst' λb hbf o e=>?_) (by simp only[argBest,hb,JQ]; exact hP) (hok _ _ hO' λb o _ hbS e=>(Ig _ _ (Ne.symm hbS)).trans e) (Jc _ hS' rfl)
    λv' h'' tk'' hP' hk''=>?_]
   ·exact(Ig _ _ (λh:S=b=>hSf (by rw[h]; exact hbf))).trans e
   ·exact hR v' h'' tk'' hP' λb o hbw hbS e=>hk'' b o hbw hbS ((Ig _ _ (Ne.symm hbS)).trans (hk' b o hbw e))
  | false=>
   simp only[Ix,JJ];show GL (J8 ?_);rw[hname];show GY #[Jz F.plain_min_loop _,ih (j+1) _ vb c ∅ hlt hst' (by simp only[argBest,hb,Ix,JJ]; exact hPb) hO' hS' λv' h'' tk'' hP' hk''=>?_]
   exact hR v' h'' tk'' hP' λb o hbw hbS e=>hk'' b o hbw hbS (hk' b o hbw e)
def rX (W:PB prog w A.in1 I fp wr n P St)(hcmp:uh prog w A.in1 P Ok bt)(hSf:S∉fp)(hok:∀h h',Ok h->(∀b o,b∉wr->b≠S->h.get? b=ba o->h'.get? b=ba o)->Ok h')(hn:0 < n){s:GQ}{c:GX}(hst:St 0 s.heap)(hO:Ok s.heap)
  (hS:s.heap.get? S=ba { cls:=.type "list",dict:=gV,data:=.seq #[] c,slots:=#[] })
  (hR:∀v h' tk,P (argBest bt (n - 1)) v->(∀b o,b∉wr->b≠S->s.heap.get? b=ba o->h'.get? b=ba o)->R (.ok (.ret v)) { s with heap:=h',toks:=tk }) :
  codeAny (model prog w) A (.builtin "min.loop" #[[.ref I,.none,.ref S],[]]) R s:=by
 have hSw:S∉wr:=λh=>hSf (W.sub _ h)
 have hname:(toString "min" ++ toString ".loop" : Iw) = "min.loop":=by decide
 show Ip F.entry_min_loop ?_;rw[Ii F.plain_min_loop _];change wpAny _ A.in1 (seqItems? (.ref S) >>= _) _ _ s;show GL (IZ hS rfl ?_);change wpAny _ A.in1 (tryCatch (pyNext (.ref I)) _ >>= _) _ _ s;show GL (Lc (W.item 0 s _ _ hn hst λv h' tk hP hst' hk'=>?_))
 have hS':=hk' S _ hSw hS;change wpAny _ A.in1 (updateSeq S (λ_=>[v,v].toArray) >>= _) _ _ _
 show GL (L0 hS' rfl ?_);rw[hname];have hO':Ok h':=hok _ _ hO λb o hb _ e=>hk' b o hb e
 show GY #[Jz F.plain_min_loop _,uj W hcmp hSf hok _ 0 _ v _ rfl hn (W.frame _ _ _ hst' λb hbf o e=>?_) hP (hok _ _ hO' λb o _ hbS e=>(Ig _ _ (Ne.symm hbS)).trans e) (Jc _ hS' rfl) λv' h'' tk'' hP' hk''=>?_]
 ·exact(Ig _ _ (λh:S=b=>hSf (by rw[h]; exact hbf))).trans e
 ·exact hR v' h'' tk'' hP' λb o hbw hbS e=>hk'' b o hbw hbS ((Ig _ _ (Ne.symm hbS)).trans (hk' b o hbw e))
end
section
variable{prog:Hs}{w:HA}{A:Hy}{E:GM->GQ->Prop}{s:GQ}
def uk {l:GZ}{items:HD GM}{bt:GX->GX->Hr}{Q:GM->GQ->Prop}(hh:A.handled=gV)(hl:s.heap.IsList l items)(hn:0 < items.size)
  (hcmp:uh prog w A.in1 (λi v=>items[i]?=ba v) (λh=>∀b o,s.heap.get? b=ba o->h.get? b=ba o) bt)
  (hQ:∀v h' tk,items[argBest bt (items.size - 1)]?=ba v->(∀b o,s.heap.get? b=ba o->h'.get? b=ba o)->Q v { s with heap:=h',toks:=tk }) :
  wpAny (model prog w) A (call (.builtin "min") [.ref l]) Q E s:=by
 have hname:(toString "min" ++ toString ".loop" : Iw) = "min.loop":=by decide
 show call_function_tree F.kind_min F.plain_min F.entry_min (F.args_min1 _) ?_;change wpAny _ A.in1 (K4 "min" ["key","default"] 0 #[[],[]] >>= _) _ _ s;show GL (Lo (show K4 "min" ["key","default"] 0 #[[],[]]=pure [gV,gV]from rfl) ?_)
 show GL (GY ?_);show GL (J5 hl ?_);show GL (HY ?_);rw[hname];have hlt:l < s.heap.objs.size:=let ⟨_,ho,_⟩:=hl; Hb ho
 have hne:l≠s.heap.objs.size:=Hn hlt;have W:=Oe (prog:=prog) (w:=w) (A:=A.in1) hh s.heap.objs.size l hne items;have hsz:∀o:ID,(s.heap.push o).objs.size=s.heap.objs.size+1:=λo=>by simp[Heap.push]
 show GY #[Jz F.plain_min_loop _,rX (A:=A) (Ok:=λh=>∀b o,s.heap.get? b=ba o->h.get? b=ba o) W hcmp (λhm=>?_) (λh h' ho hk b o e=>?_) hn #[?_,?_] (λb o e=>GN _ (GN _ e)) (G4 _ rfl) λv h' tk hv hk=>?_]
 ·rcases Hj.mp hm with e|hm
  ·exact absurd (show(s.heap.push _).objs.size=s.heap.objs.size from e) (by rw[hsz]; exact Nat.succ_ne_self _)
  ·have e:(s.heap.push _).objs.size=l:=Hc.mp hm;rw[hsz]at e;exact absurd hlt (by rw[<- e]; exact Og.mpr (Jy _))
 ·have hb:=Hb e;show hk b o (λz=>?_) (λz=>?_) (ho b o e)
  ·rw[Hc.mp z]at hb; exact IA _ hb
  ·have z':b=(s.heap.push _).objs.size:=z;rw[hsz]at z';rw[z']at hb;exact absurd hb (Og.mpr (Jy _))
 ·exact#[_,GN _ (G4 _ rfl),rfl,rfl]
 ·obtain⟨o,ho,hc⟩:=hl;exact#[o,GN _ (GN _ ho),hc]
 ·show hQ v h' tk hv λb o e=>hk b o (λz=>?_) (λz=>?_) (GN _ (GN _ e))
  ·have hb:=Hb e;rw[Hc.mp z]at hb; exact IA _ hb
  ·have hb:=Hb e;have z':b=(s.heap.push _).objs.size:=z;rw[hsz]at z';rw[z']at hb;exact absurd hb (Og.mpr (Jy _))
end
abbrev bS (o:COp)(x y:W)(S:aa):GR (W×aa):=match o,y with
 | .isin,.str j=>match x with
  | .str i=>ba (.bl (!(Ks j i 0 j.length 1).isEmpty),S)
  | _=>gV
 | .lt,.tup ys=>match W.t x,W.t (.tup ys)with
  | some a,ba b=>if a.depth<=aJ/\b.depth<=aJ then(d8 a b).map λk=>(.bl k,S)else gV
  | _,_=>gV
 | o,y=>ue o x y S
section
variable{X:Cx}
def mQ (hu:X.A.units+d7 < cLine)(o:COp):LOp X (compareOp o.py) (bS o):=by
 intro J s Y H A S x y a b u v w S' I so rx ru ry rv e;unfold bS at e;split at e
 ·split at e
  ·cases e;cases rx; cases ry
   exact OpR.go rs I ru rv #[_,_,rfl,rfl,.here so .bl]
  ·cases e
 ·split at e
  ·rename_i ys k1 k2 h1 h2;split at e
   ·rename_i hd;rw[GP]at e;obtain⟨k,hk,e⟩:=e;cases e;have t1:=gW I k1 (by rw[W.t_w h1]; exact rx) ru
    have t2:=gW I k2 (by rw[W.t_w h2]; exact ry) rv
    exact Bg aJ k1 k2 u v X.A s k hd.1 hd.2 t1 t2 (by have:d7=20:=rfl; have:aJ=6:=rfl; omega) hk _ _ _ _ (iL I so)
   ·cases e
  ·cases e
 ·exact uf hu _ J s Y H A S x y a b u v w S' I so rx ru ry rv e
abbrev Gb (x:Ha):It:=#[λi _=>i < x.cps.size,λi H v H'=>H'=H/\∃c,x.cps[i]?=ba c/\v=.str #[[c].toArray],λi _=>x.cps.size<=i]
def um {P:Hs}{w:HA}{K:G0}{tg:Hi}(x:Ha)(t:Pq)(it:GZ):Turn P w K tg (Gb x) [it] it (λi h=>h.IsStrIter it "str_ascii_iterator" x t i) where
 mem:=by simp
 obj:=λi h st b hb=>by
  have e:b=it:=by simpa using hb
  subst e;obtain⟨o,e,c,d⟩:=st;exact#[o,e,λv z=>by rw[d]at z; cases z]
 keep:=λi h h' #[o,e,c] k=>#[o,k it (by simp) o e,c]
 item:=by
  intro X hP hw hK hc i J s Y H E I hf st hg;subst hP hw hK;obtain⟨f0,f1,f2,f3,f4,f5⟩:=hf it (by simp)
  obtain⟨c0,hx⟩ : ∃c,x.cps[i]?=ba c:=#[_,Kf hg];show wpAny_pyNext_ascii_item st hx λh' st' sb=>?_
  have I1:Inv X J Y H { s with heap:=h',toks:=s.toks+1 }:=I.turned (t':=s.toks+1) (λb o hb e=>(sb.2 b hb).trans e) f0 f1 f3 f4 f5
  obtain⟨o,e,c,d⟩:=id st';exact#[_,rfl,mw (s:={ s with heap:=h',toks:=s.toks+1 }) e c d #v[] #[.str #[[c0].toArray],H,I1,#[_,rfl],#[rfl,_,hx,rfl],st',λb hb=>(hf b hb).1]]
 done:=by
  intro X hP hw hK hc i J s Y H E I hf st hg;subst hP hw hK;obtain⟨f0,f1,f2,f3,f4,f5⟩:=hf it (by simp)
  exact wpAny_pyNext_ascii_end (I.ok.hd hc) st (LN hg) λh' eb=>#[rfl,I.turned (t':=s.toks) (λb o hb e=>eb b o hb e) f0 f1 f3 f4 f5]
 self:=λ_ _ _ _ _ st h=>wpAny_pyIter_striter_ascii st h
end
open PySem.W (KasT kas_sort kas_ask kas_cmp kas_item kas_asc kas_desc kas_tail3 kas_descPart kas_count kas_place kas_bin kas_rev)
abbrev bm {α:Type}(lt:GX->GX->Hr):KasT α->α
 | .ret a=>a
 | .ask i j k=>bm lt (k (lt i j))
abbrev OkK {α:Type}(n:GX)(P:α->Prop):KasT α->Prop
 | .ret a=>P a
 | .ask i j k=>i < n/\j < n/\∀b,OkK n P (k b)
def mR {α:Type}{n:GX}{P:α->Prop}{lt:GX->GX->Hr}:∀(t:KasT α),OkK n P t->P (bm lt t)
 | .ret _,h=>h
 | .ask i j k,h=>mR (k (lt i j)) (h.2.2 _)
def ly {α:Type}{n:GX}{P:α->Prop}{lt:GX->GX->Hr}{t:KasT α}(h:OkK n P t):P (bm lt t):=mR t h
def OkK.bind {α β:Type}{n:GX}{P:α->Prop}{P':β->Prop}{f:α->KasT β}:∀ {t:KasT α},OkK n P t->(∀a,P a->OkK n P' (f a))->OkK n P' (t.bind f)
 | .ret a,h,hf=>hf a h
 | .ask _ _ _,h,hf=>#[h.1,h.2.1,λb=>OkK.bind (h.2.2 b) hf]
def jY {α:Type}{n:GX}{P:α->Prop}{lt:GX->GX->Hr}{cmp:GX->GX->(Hr->GQ->Prop)->GQ->Prop}{Q:α->GQ->Prop}{s:GQ}(hc:∀i j,i < n->j < n->∀C:Hr->GQ->Prop,C (lt i j) s->cmp i j C s) :
  ∀ {t:KasT α},OkK n P t->Q (bm lt t) s->t.kasWp cmp Q s
 | .ret _,_,h=>h
 | .ask i j k,h,hq=>hc i j h.1 h.2.1 _ (jY hc (h.2.2 _) hq)
abbrev Pm (n:GX)(p:HD GX):Prop:=p.toList.Perm (HJ n)
def Pm.size {n:GX}{p:HD GX}(h:Pm n p):p.size=n:=by rw[<- Hg,h.length_eq,Iu]
def Pm.lt {n:GX}{p:HD GX}(h:Pm n p)(hn:0 < n)(i:GX):p.getD i 0 < n:=by
 by_cases hi:i < p.size
 ·have e:p.getD i 0=p[i]:=by simp[LP,hi]
  rw[e];have:p[i]∈p.toList:=by simp
  exact HZ.mp (h.mem_iff.mp this)
 ·have e:p.getD i 0=0:=by simp[LP,hi]
  rw[e]; exact hn
def Pm.rev {n:GX}{p:HD GX}(h:Pm n p)(i j:GX):Pm n (kas_rev p i j):=(Ld.mp (mirror_perm p i j _)).trans h
def Pm.bub {n:GX}{p:HD GX}(h:Pm n p)(i j:GX):Pm n (bubble p i j):=(Ld.mp (bubble_perm p i j)).trans h
section
variable{n:GX}(hn:0 < n)
include hn
def o5 {p:HD GX}(h:Pm n p):∀(f m:GX),OkK n (λ_=>MQ) (kas_asc p f m)
 | 0,_=>trivial
 | f+1,m=>#[h.lt hn _,h.lt hn _,λb=>by
  change OkK n _ (if b=true then _ else _)
  split
  ·trivial
  ·exact o5 h f (m+1)]
def iO:∀(f:GX) (p:HD GX) (m q:GX),Pm n p->OkK n (λr=>Pm n r.1) (kas_desc f p m q)
 | 0,p,m,q,h=>h
 | f+1,p,m,q,h=>#[h.lt hn _,h.lt hn _,λb=>by
  change OkK n _ (if b=true then _ else _)
  split
  ·split
   ·exact iO f _ _ _ (h.rev _ _)
   ·exact iO f _ _ _ h
  ·show#[h.lt hn _,h.lt hn _,λc=>?_]
   change OkK n _ (if c=true then _ else _)
   split
   ·exact h
   ·exact iO f _ _ _ h]
def qk {p:HD GX}(h:Pm n p)(m k:GX):OkK n (λr=>Pm n r.2) (kas_tail3 m k p):=by
 unfold kas_tail3;exact OkK.bind (o5 hn (h.rev 0 m) _ _) λa _=>h.rev 0 m
def iB {p:HD GX}(h:Pm n p)(m k:GX):OkK n (λr=>Pm n r.2) (kas_descPart m k p):=by
 unfold kas_descPart;show OkK.bind (iO hn _ _ _ _ h) λr hr=>?_
 split
 ·exact qk hn (hr.rev _ _) _ _
 ·exact qk hn hr _ _
def uq {p:HD GX}(h:Pm n p)(k:GX):OkK n (λr=>Pm n r.2) (kas_count k p):=by
 unfold kas_count;show OkK.bind (o5 hn h _ _) λm _=>?_
 split
 ·exact h
 ·split
  ·show#[h.lt hn _,h.lt hn _,λc=>?_]
   change OkK n _ (if c=true then _ else _)
   split
   ·exact h
   ·exact iB hn (h.rev _ _) _ _
  ·exact iB hn h _ _
def jb {p:HD GX}(h:Pm n p)(k:GX):∀(f l r:GX),OkK n (λ_=>MQ) (kas_place p k f l r)
 | 0,_,_=>trivial
 | f+1,l,r=>by
  unfold kas_place;split
  ·trivial
  ·show#[h.lt hn _,h.lt hn _,λc=>?_]
   change OkK n _ (if c=true then _ else _)
   split
   ·exact jb h k f _ _
   ·exact jb h k f _ _
def ur:∀(f:GX) (p:HD GX) (k:GX),Pm n p->OkK n (Pm n) (kas_bin f p k)
 | 0,p,k,h=>h
 | f+1,p,k,h=>by
  unfold kas_bin;exact OkK.bind (jb hn h k _ _ _) λl _=>ur f _ _ (h.bub _ _)
def iP:OkK n (Pm n) (kas_sort n):=by
 unfold kas_sort;show OkK.bind (uq hn (by unfold Pm; simp) _) λr hr=>?_
 split
 ·exact ur hn _ _ _ hr
 ·exact hr
end
section
variable{prog:Hs}{w:HA}{A:Hy}{E:GM->GQ->Prop}{s:GQ}{vs:GK GM}
abbrev dB (lt:GX->GX->Hr){β:Type}(d:β)(vs:GK β):GK β:=if vs.length < 2 then vs else(bm lt (kas_sort vs.length)).toList.map λi=>vs.getD i d
def mS {lt:GX->GX->Hr}{β:Type}{d:β}{vs:GK β}:(dB lt d vs).length=vs.length:=by
 unfold dB;split
 ·rfl
 ·rw[GU,Hg,(ly (lt:=lt) (iP (n:=vs.length) ∅)).size]
def rY {a:GZ}{n:GX}{lt:GX->GX->Hr}{κ:LC}{P:PySem.Fin->GQ->Prop}(ho:s.heap.get? a=ba (seqObj "list" vs.toArray n))(h64:vs.length < 64)
  (hkind:2<=vs.length->∀h',(∀b o,b≠a->s.heap.get? b=ba o->h'.get? b=ba o)->∀Q:LC->GQ->Prop,Q κ { s with heap:=h' }->wpAny (model prog w) A (keyKind' vs.toArray) Q (λ_ _=>Iq) { s with heap:=h' })
  (hlt:2<=vs.length->∀h',(∀b o,b≠a->s.heap.get? b=ba o->h'.get? b=ba o)->∀i j,i < vs.length->j < vs.length->∀Q:Hr->GQ->Prop,Q (lt i j) { s with heap:=h' }->
   wpAny (model prog w) A (keyLt' κ (vs.getD i Ic) (vs.getD j Ic)) Q (λ_ _=>Iq) { s with heap:=h' })
  (h:∀h' c,(∀b o,b≠a->s.heap.get? b=ba o->h'.get? b=ba o)->h'.get? a=ba (seqObj "list" (dB lt Ic vs).toArray c)->P (.done (.ret .none)) { s with heap:=h' }) :
  wpAny (model prog w) A (KS.«list.sort» #[[.ref a],[]]) P E s:=by
 have ha:a < s.heap.objs.size:=Hb ho;obtain⟨e1,ho1⟩ : ∃e1,(s.heap.update a (IF λ_=>(#[]:HD GM))).get? a=ba (seqObj "list" #[] e1):=#[_,L1 ho λ_=>#[]]
 have keep:∀b o,b≠a->s.heap.get? b=ba o->(((s.heap.update a (IF λ_=>(#[]:HD GM))).push (seqObj "tuple" vs.toArray 0)).push (seqObj "list" #[] 0)).get? b=ba o:=λb o hb e=>
  GN _ (GN _ ((Kj _ _ _ _ hb).trans e))
 have ho3:(((s.heap.update a (IF λ_=>(#[]:HD GM))).push (seqObj "tuple" vs.toArray 0)).push (seqObj "list" #[] 0)).get? a=ba (seqObj "list" #[] e1):=GN _ (GN _ ho1)
 have fin:∀(out:GK GM),out.length=vs.length->out=dB lt Ic vs->P (.done (.ret .none)) { s with heap:=(((s.heap.update a (IF λ_=>(#[]:HD GM))).push (seqObj "tuple" vs.toArray 0)).push (seqObj "list" #[] 0)).update a (IF λ_=>out.toArray) }:=λout hl e=>by
  obtain⟨c2,hc2⟩ : ∃c2,((((s.heap.update a (IF λ_=>(#[]:HD GM))).push (seqObj "tuple" vs.toArray 0)).push (seqObj "list" #[] 0)).update a (IF λ_=>out.toArray)).get? a=ba (seqObj "list" out.toArray c2):=#[_,L1 ho3 λ_=>out.toArray]
  exact h _ c2 (λb o hb q=>(Kj _ _ _ _ hb).trans (keep b o hb q)) (e ▸ hc2)
 rw[list_sort_plain];show GL (Nn ho rfl ?_);show GL (Lv ho rfl ?_ (by rw[G6,HV]; omega) (Jj _))
 show GL (NS ho1 rfl ?_);show GL (Mo ?_ (by change vs.length<=_; rw[HV]; omega))
 show GL (ML ?_ (Jj _));show Ir ?_;change wpAny (model prog w) A _ P E { s with heap:=((s.heap.update a (IF λ_=>(#[]:HD GM))).push (seqObj "tuple" vs.toArray 0)).push (seqObj "list" #[] 0) }
 dsimp only
 by_cases h2:vs.length < 2
 ·rw[Hk (by rw[G6]; exact h2),Hk (by rw[G6]; exact h2)]
  show GL (GY (GL ?_));rw[StateT.run_pure];show GY ?_;dsimp only;show GL (NS ho3 rfl ?_);have hs:((arrOf (SortSt.mk' general' (vs.toArray.zip vs.toArray) #[] 7 gV)).map (·.2))=vs.toArray:=by
   show(vs.toArray.zip vs.toArray).map (·.2)=vs.toArray
   apply Array.toList_inj.mp;rw[Array.toList_map,Array.toList_zip];exact List.map_snd_zip (G2 _)
  rw[hs];show GL (Lv ho3 rfl ?_ (Jj _) (by rw[G6,HV]; omega))
  simp only[No,Ix,JJ];exact GY (fin vs rfl (by unfold dB; rw[Hk h2]))
 ·have hn2:¬ vs.toArray.size < 2:=by rw[G6]; exact h2
  have h2':2<=vs.length:=∅
  rw[Hu hn2,Hu hn2];show GL (IV (hkind h2' _ keep (λ(k:LC) (s':GQ)=>k=κ/\s'={ s with heap:=((s.heap.update a (IF λ_=>(#[]:HD GM))).push (seqObj "tuple" vs.toArray 0)).push (seqObj "list" #[] 0) }) #[rfl,rfl]) ?_ λ_ _ x=>x.elim)
  rintro _ _ ⟨rfl,rfl⟩;show GL (IV (PySem.W.kat_run (Q:=λst' s'=>∃p:HD GX,p.size=vs.length/\arrOf st'=p.map (kas_item (vs.toArray.zip vs.toArray))/\failedOf st'=gV/\p=bm lt (kas_sort vs.length)/\s'={ s with heap:=((s.heap.update a (IF λ_=>(#[]:HD GM))).push (seqObj "tuple" vs.toArray 0)).push (seqObj "list" #[] 0) })
   (G:=λp s'=>p=bm lt (kas_sort vs.length)/\s'={ s with heap:=((s.heap.update a (IF λ_=>(#[]:HD GM))).push (seqObj "tuple" vs.toArray 0)).push (seqObj "list" #[] 0) }) rfl h2' h64 (λp' st' s' a1 a2 a3 a4=>#[p',a1,a2,a3,a4])
   (jY (lt:=lt) (λi j hi hj C hC=>hlt h2' _ keep i j hi hj C hC) (iP (n:=vs.length) ∅) #[rfl,rfl])) ?_ λ_ _ e=>e)
  rintro⟨⟨⟩,st'⟩ s' ⟨p,hp,har,hf,ep,rfl⟩;dsimp only;have hout:=PySem.W.kat_snds rfl har;have hsz:(p.toList.map λi=>vs.getD i Ic).length=vs.length:=by rw[GU,Hg,hp]
  rw[hout];show GL (NS ho3 rfl ?_);show GL (Lv ho3 rfl ?_ (Jj _) (by rw[G6,hsz,HV]; omega))
  rw[hf];simp only[No,Ix,JJ];exact GY (fin _ hsz (by unfold dB; rw[Hu h2,ep]))
def rZ {x:GM}{lt:GX->GX->Hr}{κ:LC}{Q:GM->GQ->Prop}(h64:vs.length < 64)
  (hcol:∀Q':GK GM->GQ->Prop,(∀h' tk,(∀b o,s.heap.get? b=ba o->h'.get? b=ba o)->s.heap.objs.size<=h'.objs.size->Q' vs { s with heap:=h',toks:=tk })->wpAny (model prog w) A.in1 (collect x) Q' E s)
  (hkind:2<=vs.length->∀h' tk,(∀b o,s.heap.get? b=ba o->h'.get? b=ba o)->∀Q:LC->GQ->Prop,Q κ { s with heap:=h',toks:=tk }->wpAny (model prog w) A.in1.in1 (keyKind' vs.toArray) Q (λ_ _=>Iq) { s with heap:=h',toks:=tk })
  (hlt:2<=vs.length->∀h' tk,(∀b o,s.heap.get? b=ba o->h'.get? b=ba o)->∀i j,i < vs.length->j < vs.length->∀Q:Hr->GQ->Prop,Q (lt i j) { s with heap:=h',toks:=tk }->
   wpAny (model prog w) A.in1.in1 (keyLt' κ (vs.getD i Ic) (vs.getD j Ic)) Q (λ_ _=>Iq) { s with heap:=h',toks:=tk })
  (h:∀D h' tk c,(∀b o,s.heap.get? b=ba o->h'.get? b=ba o)->s.heap.objs.size<=D->h'.get? D=ba (seqObj "list" (dB lt Ic vs).toArray c)->Q (.ref D) { s with heap:=h',toks:=tk }) :
  wpAny (model prog w) A (call (.builtin "sorted") [x]) Q E s:=by
 show Lk kind_sorted plain_sorted entry_sorted (args_sorted1 _) ?_;unfold KS.«sorted»;show GL (m:=checkCount "sorted" 1 1 _) (GY ?_);show GL (hcol _ λh1 tk1 hk1 hle=>?_)
 show GL (ML ?_ (by rw[HV]; omega))
 have hoL:(h1.push (seqObj "list" vs.toArray 0)).get? h1.objs.size=ba (seqObj "list" vs.toArray 0):=G4 _ rfl;have kp:∀b o,s.heap.get? b=ba o->(h1.push (seqObj "list" vs.toArray 0)).get? b=ba o:=λb o e=>GN _ (hk1 b o e)
 have hne:∀b o,s.heap.get? b=ba o->b≠h1.objs.size:=λb o e=>Hn (Ht (Hb e) hle)
 change wpAny _ _ _ _ _ { s with heap:=h1.push (seqObj "list" vs.toArray 0),toks:=tk1 }
 show GL (Ir (Io slot_list_sort #[_,hoL,rfl] entry_list_sort ?_ (args_list_sort _)));show rY (s:={ s with heap:=h1.push (seqObj "list" vs.toArray 0),toks:=tk1 }) (lt:=lt) (κ:=κ) hoL h64 (λh2 h' hk Q hq=>hkind h2 h' tk1 (λb o e=>hk b o (hne b o e) (kp b o e)) Q hq)
  (λh2 h' hk i j hi hj Q hq=>hlt h2 h' tk1 (λb o e=>hk b o (hne b o e) (kp b o e)) i j hi hj Q hq) λh' c hk hD=>?_
 exact#[_,rfl,GY #[_,rfl,h _ h' tk1 c (λb o e=>hk b o (hne b o e) (kp b o e)) hle hD]]
end
end Mi
namespace Mi
open PySem PySem.Spec PyProof.Rows L2
abbrev eD:T->Iw
 | .int _=>"int"|.str _=>"str"|.tup _=>"tuple"
abbrev aY:T->GR T
 | .tup (x::_)=>ba x
 | _=>gV
abbrev xZ (ks:GK T):GR GX:=
 if ks.all (λk=>eD k == "int")then ba 0
 else if ks.all (λk=>eD k == "str")then ba 1
 else if ks.all (λk=>(aY k).any λf=>eD f == "int")then ba 2
 else if ks.all (λk=>(aY k).any λf=>eD f == "str")then ba 3
 else if ks.all (λk=>(aY k).any λf=>eD f == "tuple")then ba 4
 else gV
abbrev ut:GX->LC
 | 0=>oneType'|1=>oneType'|2=>tuples' true|3=>tuples' true|_=>tuples' false
abbrev eE (ks:GK T):Hr:=ks.all λx=>ks.all λy=>(d8 x y).isSome
abbrev jZ (ks:GK T)(i j:GX):Hr:=(d8 (ks.getD i (.int 0)) (ks.getD j (.int 0))).getD false
def de {ks:GK T}(h:eE ks=true){i j:GX}(hi:i < ks.length)(hj:j < ks.length):d8 (ks[i]) (ks[j])=ba (jZ ks i j):=by
 unfold eE at h;rw[Hq]at h;have h1:=h ks[i] (HP hi);rw[Hq]at h1;have h2:=h1 ks[j] (HP hj);unfold jZ;rw[show ks.getD i (.int 0)=ks[i] by simp[hi],show ks.getD j (.int 0)=ks[j] by simp[hj]]
 obtain⟨b,hb⟩:=Ih.mp h2;rw[hb]; rfl
abbrev Gc (c:GX)(x y:T):Prop:=match c with|0=>eD x = "int"/\eD y = "int"|1=>eD x = "str"/\eD y = "str"|2=>∃f g,aY x=ba f/\aY y=ba g/\eD f = "int"/\eD g = "int"|3=>∃f g,aY x=ba f/\aY y=ba g/\eD f = "str"/\eD g = "str"|_=>∃f g,aY x=ba f/\aY y=ba g
section
variable{prog:Hs}{w:HA}{A:Hy}{E:GM->GQ->Prop}{s:GQ}
def ql {h:HQ}{k:T}{v:GM}(x:IsT h k v):OA (model prog w) h (typeOf v) (.type (eD k)):=by
 cases x with
 | int=>exact .now
 | str=>exact .now
 | tup a c d t=>exact c ▸ ((Po a).andThen .now:OA (model prog w) h (typeOf (.ref _)) _)
def IsTs.mem {h:HQ}:∀ {ks:GK T} {vs:GK GM},IsTs h ks vs->∀v∈vs,∃k∈ks,IsT h k v
 | _,_,.cons a b,v,hv=>by
  rcases Hj.mp hv with rfl|hv
  ·exact#[_,.head _,a]
  ·obtain⟨k,hk,q⟩:=IsTs.mem b v hv;exact#[k,.tail _ hk,q]
def j3 {h:HQ}{p:T->Hr}:∀ {ks:GK T} {vs:GK GM},IsTs h ks vs->ks.all (λk=>(aY k).any p)=true->∃fs,PySem.W.KatTups h vs fs/\fs.length=vs.length/\∀v∈fs,∃k,p k=true/\IsT h k v
 | _,_,.nil,_=>#[[],.nil,rfl,λv hv=>nomatch hv]
 | k::ks,_,.cons a b,hp=>by
  rw[HR,GV]at hp;obtain⟨fs,h1,h2,h3⟩:=j3 b hp.2;cases a with
  | int=>simp[aY]at hp
  | str=>simp[aY]at hp
  | @tup kk ad o items n a1 c1 d1 t1=>
   cases kk with
   | nil=>simp[aY]at hp
   | cons x xs=>
    have hx:p x=true:=by simpa [aY]using hp.1
    generalize hit:items.toList=its at t1;cases t1 with
    | @cons _ u _ us q1 q2=>
     show#[u::fs,.cons a1 c1 d1 (by rw[<- Il,hit]; rfl) h1,by simp[h2],λv hv=>?_]
     rcases Hj.mp hv with rfl|hv
     ·exact#[x,hx,q1]
     ·exact h3 v hv
def Bh {ks:GK T}{vs:GK GM}{c:GX}{Q:LC->GQ->Prop}(h:IsTs s.heap ks vs)(h2:2<=vs.length)(hc:xZ ks=ba c)(hq:Q (ut c) s):wpAny (model prog w) A (keyKind' vs.toArray) Q E s:=by
 have one:∀ty:Iw,(JL ty != JL "tuple")=true->ks.all (λk=>eD k==ty)=true->Q oneType' s->wpAny (model prog w) A (keyKind' vs.toArray) Q E s:=λty hty hall hq=>
  PySem.W.kas_kind (T:=.type ty) h2 (λv hv=>by
   obtain⟨k,hk,x⟩:=h.mem v hv;have:=eq_of_beq (Hq.mp hall k hk);exact this ▸ ql x) hty (by simp) hq
 have tup:∀ty:Iw,ks.all (λk=>(aY k).any λf=>eD f==ty)=true->Q (tuples' (JL ty != JL "tuple")) s->wpAny (model prog w) A (keyKind' vs.toArray) Q E s:=λty hall hq=>by
  obtain⟨fs,h1,h3,h4⟩:=j3 h hall;exact PySem.W.kat_kind (T:=.type ty) h1 ∅ (λv hv=>by
   obtain⟨k,hk,x⟩:=h4 v hv;have:=eq_of_beq hk;exact this ▸ ql x) (by simp) hq
 unfold xZ at hc;split at hc
 ·cases hc; exact one "int" #v[] (by assumption) hq
 ·split at hc
  ·cases hc; exact one "str" #v[] (by assumption) hq
  ·split at hc
   ·cases hc; exact tup "int" (by assumption) hq
   ·split at hc
    ·cases hc; exact tup "str" (by assumption) hq
    ·split at hc
     ·cases hc; exact tup "tuple" (by assumption) hq
     ·cases hc
def mT {b:Hr}{Q:Hr->GQ->Prop}{d:GX}(hu:A.units+d < cLine):∀(xs ys:GK T) (us vs:GK GM) (i:GX) (k:Hr),T.depths xs<=d->T.depths ys<=d->IsTs s.heap xs us->IsTs s.heap ys vs->ci xs ys=ba k->
  (b=true->i=0->∀x y,xs.head?=ba x->ys.head?=ba y->(eD x = "int"/\eD y = "int")\/(eD x = "str"/\eD y = "str"))->Q k s->PySem.W.KatLex prog w A b (decide (us.length < vs.length)) Q (us.zip vs) i s
 | [],[],_,_,i,k,_,_,h1,h2,e,hb,hq=>by cases h1; cases h2; cases e; exact L3 (by simpa using hq)
 | [],y::ys,_,_,i,k,_,_,h1,h2,e,hb,hq=>by cases h1; cases h2; cases e; exact L3 (by simpa using hq)
 | x::xs,[],_,_,i,k,_,_,h1,h2,e,hb,hq=>by cases h1; cases h2; cases e; exact L3 (by simpa using hq)
 | x::xs,y::ys,_,_,i,k,d1,d2,h1,h2,e,hb,hq=>by
  simp only[T.depths]at d1 d2;cases h1 with
  | @cons _ u _ us p1 q1=>
   cases h2 with
   | @cons _ v _ vs p2 q2=>
    have he:=rV d x y _ _ A s ∅ p1 p2 hu ∅
    rw[JY];show PySem.W.kat_cons (he prog w _ _ ?_);simp only[ci]at e;have hlen:decide ((u::us).length < (v::vs).length)=decide (us.length < vs.length):=by simp
    rw[hlen]
    by_cases hxy:x=y
    ·rw[Hk hxy]at e;rw[HN hxy];exact PySem.W.kat_yes (mT hu xs ys us vs (i+1) k ∅ ∅ q1 q2 e (λ_ z=>absurd z (Nat.succ_ne_zero _)) hq)
    ·rw[Hu hxy]at e;rw[Hv hxy];show PySem.W.kat_no ?_
     by_cases hb0:b=true/\i=0
     ·obtain⟨rfl,rfl⟩:=hb0;rcases hb rfl rfl x y rfl rfl with⟨hx,hy⟩|⟨hx,hy⟩
      ·cases p1 with
       | int=>cases p2 with
        | int=>cases e; exact oneLt_int hq
        | _=>exact absurd hy (by simp[eD])
       | _=>exact absurd hx (by simp[eD])
      ·cases p1 with
       | str=>cases p2 with
        | str=>cases e; exact oneLt_str hq
        | _=>exact absurd hy (by simp[eD])
       | _=>exact absurd hx (by simp[eD])
     ·have hf:(b&&i==0)=false:=by
       cases b with
       | false=>rfl
       | true=>
        have:i≠0:=λz=>hb0 #[rfl,z]
        simpa using this
      rw[hf];exact PySem.W.kat_one _ _ ((Bg d x y _ _ A s k ∅ ∅ p1 p2 hu e) prog w _ _ hq)
def ya {c d:GX}{x y:T}{u v:GM}{k:Hr}{Q:Hr->GQ->Prop}(hu:A.units+d < cLine)(d1:x.depth<=d)(d2:y.depth<=d)(h1:IsT s.heap x u)(h2:IsT s.heap y v)(e:d8 x y=ba k)
  (hc:Gc c x y)
  (hq:Q k s):wpAny (model prog w) A (keyLt' (ut c) u v) Q E s:=by
 have tup:∀b:Hr,(∃f g,aY x=ba f/\aY y=ba g/\(b=true->(eD f = "int"/\eD g = "int")\/(eD f = "str"/\eD g = "str")))->wpAny (model prog w) A (keyLt' (tuples' b) u v) Q E s:=by
  rintro b ⟨f,g,hf,hg,hb⟩;cases h1 with
  | int=>cases hf
  | str=>cases hf
  | @tup xs a o items n a1 c1 e1 t1=>
   cases h2 with
   | int=>cases hg
   | str=>cases hg
   | @tup ys a' o' items' n' a2 c2 e2 t2=>
    simp only[T.depth]at d1 d2;show PySem.W.kat_lt a1 e1 a2 e2 ?_;have:=mT (prog:=prog) (w:=w) (b:=b) (Q:=Q) hu xs ys items.toList items'.toList 0 k ∅ ∅ t1 t2 e (λhb' _ p q hp hq'=>by
     cases xs with
     | nil=>cases hp
     | cons x0 xs=>cases ys with
      | nil=>cases hq'
      | cons y0 ys=>cases hp; cases hq'; cases hf; cases hg; exact hb hb') hq
    simpa using this
 match c,hc with
 | 0,#[hx,hy]=>
  cases h1 with
  | int=>cases h2 with
   | int=>cases e; exact PySem.W.kat_lt_int hq
   | _=>exact absurd hy (by simp[eD])
  | _=>exact absurd hx (by simp[eD])
 | 1,#[hx,hy]=>
  cases h1 with
  | str=>cases h2 with
   | str=>cases e; exact PySem.W.kas_lt_str hq
   | _=>exact absurd hy (by simp[eD])
  | _=>exact absurd hx (by simp[eD])
 | 2,#[f,g,h1',h2',h3,h4]=>exact tup true #[f,g,h1',h2',λ_=>.inl #[h3,h4]]
 | 3,#[f,g,h1',h2',h3,h4]=>exact tup true #[f,g,h1',h2',λ_=>.inr #[h3,h4]]
 | n+4,#[f,g,h1',h2']=>exact tup false #[f,g,h1',h2',λz=>nomatch z]
end
def yb {ks:GK T}{c:GX}(h:xZ ks=ba c){x y:T}(hx:x∈ks)(hy:y∈ks) :
  Gc c x y:=by
 have one:∀ {ty:Iw},ks.all (λk=>eD k==ty)=true->eD x=ty/\eD y=ty:=λha=>#[eq_of_beq (Hq.mp ha x hx),eq_of_beq (Hq.mp ha y hy)]
 have fst:∀ {ty:Iw},ks.all (λk=>(aY k).any λf=>eD f==ty)=true->∃f g,aY x=ba f/\aY y=ba g/\eD f=ty/\eD g=ty:=λ{ty} ha=>by
  have h1:=Hq.mp ha x hx;have h2:=Hq.mp ha y hy;cases e1:aY x with
  | none=>rw[e1]at h1; cases h1
  | some f=>
   cases e2:aY y with
   | none=>rw[e2]at h2; cases h2
   | some g=>
    rw[e1]at h1; rw[e2]at h2
    exact#[f,g,rfl,rfl,eq_of_beq (by simpa using h1),eq_of_beq (by simpa using h2)]
 unfold xZ at h;split at h
 ·cases h; exact one (by assumption)
 ·split at h
  ·cases h; exact one (by assumption)
  ·split at h
   ·cases h; exact fst (by assumption)
   ·split at h
    ·cases h; exact fst (by assumption)
    ·split at h
     ·cases h;obtain⟨f,g,h1,h2,_⟩:=fst (by assumption)
      exact#[f,g,h1,h2]
     ·cases h
abbrev dg (S:aa):W->GR (GK W)
 | .tup xs=>ba xs
 | .ref i=>match eF S i with
  | some xs=>ba xs
  | none=>(gU S i).map λU=>U.map λp=>p.1.w
 | _=>gV
abbrev cQ:GX:=8
abbrev lz (ks:GK T):Hr:=decide (ks.length < 64)&&decide (T.depths ks<=cQ)&&(decide (ks.length < 2)||((xZ ks).isSome&&eE ks))
abbrev gm (xs:GK W)(S:aa):GR (W×aa):=match xs with
 | [x]=>match dg S x with
  | some ws=>match W.ts ws with
   | some ks=>if lz ks then ba (.ref S.length,S++[.lst (dB (jZ ks) .non ws)])else gV
   | none=>gV
  | none=>gV
 | _=>gV
abbrev j4 (xs:GK W)(S:aa):GR (W×aa):=match xs with
 | [.ref i]=>match gU S i with
  | some U=>ba (.ref S.length,S++[.lst (U.map λp=>p.1.w)])
  | none=>ga [.ref i] S
 | xs=>ga xs S
abbrev mU (xs:GK W)(S:aa):GR (W×aa):=match xs with
 | [.ref i]=>match gU S i with
  | some U=>ba (.int U.length,S)
  | none=>lg [.ref i] S
 | xs=>lg xs S
abbrev gY (ks:GK T):GX:=argBest (jZ ks) (ks.length - 1)
abbrev uu (xs:GK W)(S:aa):GR (W×aa):=match xs with
 | [.ref i]=>match eF S i with
  | some ws=>match W.ts ws with
   | some ks=>if T.depths ks<=cQ/\eE ks=true then(ws[gY ks]?).map λw=>(w,S)else gV
   | none=>gV
  | none=>gV
 | _=>gV
abbrev ec:GK W->GR (GK Hr)
 | []=>ba []
 | .bl b::ws=>(ec ws).map (b :: ·)
 | _::_=>gV
abbrev yc (xs:GK W)(S:aa):GR (W×aa):=match xs with
 | [.ref i]=>match eF S i with
  | some ws=>(ec ws).map λbs=>(.bl (bs.all id),S)
  | none=>gV
 | _=>gV
section
variable{X:Cx}{J:GK (GZ×ID)}{Y:L2.St}{H:Hp}{s:GQ}{A:GK GZ}{S:aa}
def RelL.pick {K:G0}{ws:GK W}{vs:GK V}(r:RelL K A H ws vs)(d:W)(d':V):∀(is:GK GX),(∀i∈is,i < ws.length)->RelL K A H (is.map λi=>ws.getD i d) (is.map λi=>vs.getD i d')
 | [],_=>.nil
 | i::is,h=>by
  have hi:=h i (.head _);obtain⟨v,h1,h2⟩:=r.get (G5 hi);show .cons ?_ (RelL.pick r d d' is λj hj=>h j (.tail _ hj))
  have e1:ws.getD i d=ws[i]:=by simp[hi]
  have e2:vs.getD i d'=v:=by simp[h1]
  change Rel K A H (ws.getD i d) (vs.getD i d');rw[e1,e2]; exact h2
def Vals.pick {vs:GK V}{us:GK GM}(r:Vals vs us)(d:V)(d':GM):∀(is:GK GX),(∀i∈is,i < vs.length)->Vals (is.map λi=>vs.getD i d) (is.map λi=>us.getD i d')
 | [],_=>.nil
 | i::is,h=>by
  have hi:=h i (.head _);obtain⟨v,h1,h2⟩:=L2.Vals.get r (G5 hi);show .cons ?_ (Vals.pick r d d' is λj hj=>h j (.tail _ hj))
  have e1:vs.getD i d=vs[i]:=by simp[hi]
  have e2:us.getD i d'=v:=by simp[h1]
  change L2.RelV (vs.getD i d) (us.getD i d');rw[e1,e2]; exact h2
def lA {n:GX}{lt:GX->GX->Hr}(hn:0 < n):∀i∈(bm lt (JV n)).toList,i < n:=λi hi=>HZ.mp ((ly (lt:=lt) (iP hn)).mem_iff.mp hi)
def uw {K:G0}{lt:GX->GX->Hr}{ws:GK W}{vs:GK V}(r:RelL K A H ws vs):RelL K A H (dB lt .non ws) (dB lt .non vs):=by
 unfold dB;rw[r.length];split
 ·exact r
 ·exact r.pick _ _ _ λi hi=>by rw[r.length]; exact lA ∅ i hi
def r0 {lt:GX->GX->Hr}{vs:GK V}{us:GK GM}(r:Vals vs us):Vals (dB lt .non vs) (dB lt .none us):=by
 unfold dB;rw[L2.Vals.length r];split
 ·exact r
 ·exact Vals.pick r _ _ _ λi hi=>by rw[L2.Vals.length r]; exact lA ∅ i hi
def mV {prog:Hs}{w:HA}{B:Hy}{E:GM->GQ->Prop}{l:GZ}{vs:GK GM}{Q:GK GM->GQ->Prop}(hl:M6 s.heap l vs.toArray)(hsz:vs.length<=sizeLine)
  (h:∀h' tk,(∀b o,s.heap.get? b=ba o->h'.get? b=ba o)->s.heap.objs.size<=h'.objs.size->Q vs { s with heap:=h',toks:=tk }):wpAny (model prog w) B (collect (.ref l)) Q E s:=by
 obtain⟨o,ho,hc,n,hd⟩:=id hl;unfold collect;show GL (La (Ip entry_proto_collect' ?_));change wpAny _ _ (do again (.builtin "list.__iadd__" #[[<- newList [],.ref l],[]])) _ _ s
 show GL (ML (GY #[MX _ (by decide +kernel),Ip entry_list_iadd' ?_]))
 change wpAny _ _ (Jv (.ref s.heap.objs.size) (.ref l) (.ref s.heap.objs.size)) _ _ { s with heap:=s.heap.push (seqObj "list" #[] 0) }
 unfold Jv;have ho':(s.heap.push (seqObj "list" #[] 0)).get? l=ba o:=GN _ ho;show GL (K2 (T:="tuple") #[o,ho',hc] ?_);have ht:(JL "tuple" == JL "tuple")=true:=by rfl
 rw[Hk (by rw[ht]; simp)]
 show GL (Nn ho' hd ?_);show GL (Nn (xs:=#[]) (n:=0) (G4 _ rfl) rfl ?_);rw[Hu (by simp)]
 show GL (Lv (xs:=#[]) (n:=0) (G4 _ rfl) rfl ?_ (Jj _) (by show(#[]++vs.toArray).size<=sizeLine+1; simp only[Array.size_append,G6,IP]; omega))
 show GY ?_;change wpAny (model prog w) B (do
   let o <- load s.heap.objs.size
   match o.data with
   | .seq xs _=>pure xs.toList
   | _=>unsupported "internal:collect") Q E { s with heap:=(s.heap.push (seqObj "list" #[] 0)).update s.heap.objs.size (IF (· ++ vs.toArray)) }
 show GL (MT (L1 (G4 _ rfl) _) ?_);change wpAny _ _ (pure ((#[]:HD GM)++vs.toArray).toList) Q E _;rw[show((#[]:HD GM)++vs.toArray).toList=vs by simp]
 show GY (h _ s.toks (λb o' e=>(Kj _ _ _ _ (Hn (Hb e))).trans (GN _ e)) ?_)
 rw[NF,size_push'];exact Jy _
def DicAt.raw {wd:HA}{a:GZ}{xs:GK (T×GZ×GM)}{h:HQ}(d:DicAt wd a xs h):∃es ep,RawD a es ep h/\es.toList=xs.map (tM wd):=
 let ⟨_,_,_,o,es,ep,h1,h2,h3,h4⟩:=d; #[es,ep,#[o,h1,h2,h3],h4]
def KRel.keysL {U:GK (T×W)}{xs:GK (T×GZ×GM)}(r:KRel X.K A H U xs):RelL X.K A H (U.map λp=>p.1.w) (xs.map λq=>V.ref q.2.1):=by
 unfold KRel at r
 induction r with
 | nil=>exact .nil
 | cons h t ih=>exact .cons h.2.2.2.1 ih
def j5 (xs:GK (T×GZ×GM)):Vals (xs.map λq=>V.ref q.2.1) (xs.map λq=>HM q.2.1):=by
 induction xs with
 | nil=>exact .nil
 | cons x xs ih=>exact .cons rfl ih
def jc {wd:HA}{es:HD Jm}{xs:GK (T×GZ×GM)}(he:es.toList=xs.map (tM wd)){acc:HD GM}(ha:LO (λi v=>∃e,es[i]?=ba e/\e.key=v) acc es.size):acc.toList=xs.map λq=>HM q.2.1:=by
 have hl:es.size=xs.length:=by rw[<- Hg,he,GU]
 apply KM
 ·rw[Hg,ha.1,GU,hl]
 ·intro i h1 h2;rw[Hg]at h1;obtain⟨e,q1,q2⟩:=ha.2 i acc[i] (by simp[h1])
  rw[<- Il,he,G1]at q1;rw[GU]at h2;rw[G5 h2]at q1;simp only[HC,Hm]at q1;subst q1;rw[NG,Array.getElem_toList];exact q2.symm
def r6 {x:W}{a:V}{u:GM}{ws:GK W}(hh:X.A.handled=gV)(I:Inv X J Y H s)(so:StoreOk X.w X.K A H S)(rx:Rel X.K A H x a)(ru:RelV a u)(e:dg S x=ba ws):∃vs us,RelL X.K A H ws vs/\Vals vs us/\us.length<=sizeLine/\
  ∀(B:Hy) (hB:B.handled=gV) (E:GM->GQ->Prop) (Q':GK GM->GQ->Prop),(∀h' tk,(∀b o,s.heap.get? b=ba o->h'.get? b=ba o)->s.heap.objs.size<=h'.objs.size->Q' us { s with heap:=h',toks:=tk })->wpAny (model X.prog X.w) B (collect u) Q' E s:=by
 cases rx with
 | tup h1 r1=>
  cases e;obtain⟨its,rv,ht,hz⟩:=I.tuple h1;obtain rfl:u=HM _:=ru;exact#[_,its,r1,rv,by rw[<- L2.Vals.length rv]; exact hz,λB hB E Q' h=>mV ht (by rw[<- L2.Vals.length rv]; exact hz) h]
 | ref ea=>
  dsimp only[dg]at e;split at e
  ·rename_i xs hx;cases e;obtain⟨vs,h1,r1⟩:=aX so hx ea;obtain⟨its,rv,p,hz⟩:=I.list h1;obtain rfl:u=HM _:=ru;show#[_,its,r1,rv,by rw[<- L2.Vals.length rv]; exact hz,λB hB E Q' h=>collect_list p.isList (h _ s.toks (λb o' e=>(Kj _ _ _ _ (Hn (Hb e))).trans (GN _ e)) ?_) (by rw[<- L2.Vals.length rv]; exact hz)]
   rw[NF,size_push'];exact Jy _
  ·rw[GP]at e;obtain⟨U,hk,rfl⟩:=e;obtain⟨xs,rd,kr⟩:=eJ so hk ea;have d:=bO I rd;obtain⟨es,ep,raw,he⟩:=d.raw;obtain rfl:u=HM _:=ru;have hl:es.size=xs.length:=by rw[<- Hg,he,GU]
   show#[_,_,kr.keysL,j5 xs,by rw[GU]; exact d.1,λB hB E Q' h=>mP (qh d.2.1) hB raw (by rw[hl]; exact d.1) λh' tk acc hk' hle ha=>?_]
   rw[jc he ha];exact h h' tk hk' hle
 | _=>cases e
def j6 {h':HQ}{tk c:GX}{D:GZ}{ws:GK W}{vs:GK V}{us:GK GM}(I:Inv X J Y H s)(so:StoreOk X.w X.K A H S)(r:RelL X.K A H ws vs)(rv:Vals vs us)(hz:us.length<=sizeLine)(hk:∀b o,s.heap.get? b=ba o->h'.get? b=ba o)(hD:s.heap.objs.size<=D)
  (ho:h'.get? D=ba { cls:=.type "list",data:=.seq us.toArray c }):PostE X J Y A H (S++[.lst ws]) (.ref S.length) (.ref D) { s with heap:=h',toks:=tk }:=by
 have hn:H D=gV:=I.hok.fresh hD;show#[.ref D,_,A++[D],I.laid (a:=D) (o:=.lst vs) (t':=tk) hk hD #[by rw[L2.Vals.length rv]; exact hz,us,c,rv,ho],rfl,db hn,so.push hn r,.ref ?_]
 rw[<- so.len]; simp
def lB (hh:X.A.handled=gV)(hu:X.A.units+12 < cLine):LCall X (.builtin "sorted") gm:=by
 intro J s Y H A S xs vs us w S' I so rl rv e;cases rl with
 | nil=>cases e
 | cons r t=>
  cases t with
  | cons _ _=>cases e
  | nil=>
   cases rv with
   | cons ru rv2=>
    cases rv2;dsimp only[gm]at e;split at e
    ·rename_i ws hw;split at e
     ·rename_i ks hk;split at e
      ·rename_i hok;cases e;obtain⟨vs',us',r1,rv1,hz,hcol⟩:=r6 hh I so r ru hw
       (dsimp only[lz]at hok; simp only[GV,Hw]at hok)
       obtain⟨⟨h64,hd⟩,hok⟩:=hok;have hws:T.ws ks=ws:=W.ts_w hk;have hT:IsTs s.heap ks us':=eV I ks (hws ▸ r1) rv1;have hl:us'.length=ks.length:=hT.length.symm;have sk:2<=us'.length->(xZ ks).isSome=true/\eE ks=true:=λh2=>by
        rcases Jr _ _ ▸ hok with h|h
        ·simp only[Hw]at h; omega
        ·simpa using h
       show rZ (vs:=us') (lt:=jZ ks) (κ:=ut ((xZ ks).getD 0)) ∅ (λQ' hQ'=>hcol X.A.in1 hh _ Q' hQ') (λh2 h' tk hk' Q hq=>?_) (λh2 h' tk hk' i j hi hj Q hq=>?_) λD h' tk c hk' hD ho=>?_
       ·obtain⟨q1,q2⟩:=sk h2;obtain⟨c,hc⟩:=Ih.mp q1;rw[hc]at hq;exact Bh (s:={ s with heap:=h',toks:=tk }) (hT.kept λb o _ e=>hk' b o e) h2 hc hq
       ·obtain⟨q1,q2⟩:=sk h2;obtain⟨c,hc⟩:=Ih.mp q1;rw[hc];have hi':i < ks.length:=∅
        have hj':j < ks.length:=∅
        have g:=(hT.kept (h':=h') λb o _ e=>hk' b o e)
        have e1:us'.getD i Ic=us'[i]:=by simp[hi]
        have e2:us'.getD j Ic=us'[j]:=by simp[hj]
        rw[e1,e2];have b1:=dc (ks:=ks) i hi';have b2:=dc (ks:=ks) j hj';exact ya (s:={ s with heap:=h',toks:=tk }) (d:=cQ) (c:=c) (by rw[aU,aU]; unfold cQ; omega) ∅ ∅ (g.get i hi' hi) (g.get j hj' hj) (de q2 hi' hj') (yb hc (HP hi') (HP hj')) hq
       ·exact j6 I so (uw r1) (r0 rv1) (by rw[mS]; exact hz) hk' hD ho
      ·cases e
     ·cases e
    ·cases e
def mW (hh:X.A.handled=gV):LCall X (.type "list") j4:=by
 intro J s Y H A S xs vs us w S' I so rl rv e
 by_cases hd:∃i U,xs=[.ref i]/\gU S i=ba U
 ·obtain⟨i,U,rfl,hk⟩:=hd
  (dsimp only[j4]at e; simp only[hk]at e)
  cases e;cases rl with
  | cons r t=>
   cases t;cases rv with
   | cons ru rv2=>
    cases rv2;cases r with
    | ref ea=>
     obtain⟨xs,rd,kr⟩:=eJ so hk ea;have d:=bO I rd;obtain⟨es,ep,raw,he⟩:=d.raw;obtain rfl:_=HM _:=ru;have hl:es.size=xs.length:=by rw[<- Hg,he,GU]
     show PySem.W.kdl_call (qh d.2.1) hh raw (by rw[hl]; exact d.1) λh' tk acc' c' hk' hD ha=>?_
     have ea':=jc he ha;show j6 (us:=acc'.toList) I so kr.keysL (ea' ▸ j5 xs) (by rw[ea',GU]; exact d.1) hk' (G2 _) (c:=c') ?_
     simpa using hD
 ·have:j4 xs S=ga xs S:=by
   unfold j4;split
   ·rename_i i;split
    ·rename_i U hk;exact absurd #[i,U,rfl,hk] hd
    ·rfl
   ·rfl
  rw[this]at e;exact fL J s Y H A S xs vs us w S' I so rl rv e
end
open PySem.W (KasT kas_sort kas_asc kas_desc kas_tail3 kas_descPart kas_count kas_place kas_bin kas_rev)
def c8 {α β:Type}{lt:GX->GX->Hr}{f:α->KasT β}:∀t:KasT α,bm lt (t.bind f)=bm lt (f (bm lt t))
 | .ret _=>rfl
 | .ask i j k=>c8 (k (lt i j))
structure Lin (n:GX)(lt:GX->GX->Hr):Prop where
 tr:∀i j k,i < n->j < n->k < n->lt i j=true->lt j k=true->lt i k=true
 as:∀i j,i < n->j < n->lt i j=true->lt j i=false
 to:∀i j,i < n->j < n->i≠j->lt j i=false->lt i j=true
abbrev gt (p:HD GX)(i:GX):GX:=p.getD i 0
def gZ {p:HD GX}{i:GX}:gt p i=(p[i]?).getD 0:=by unfold gt; simp[Array.getD_eq_getD_getElem?]
def Pm.inj {n:GX}{p:HD GX}(h:Pm n p){i j:GX}(hi:i < n)(hj:j < n)(hne:i≠j):gt p i≠gt p j:=by
 have nd:p.toList.Nodup:=h.nodup_iff.mpr LD;have hi':i < p.toList.length:=by rw[Hg,h.size]; exact hi
 have hj':j < p.toList.length:=by rw[Hg,h.size]; exact hj
 intro e;have e1:gt p i=p.toList[i]:=by unfold gt; simp[LP,h.size,hi]
 have e2:gt p j=p.toList[j]:=by unfold gt; simp[LP,h.size,hj]
 rw[e1,e2]at e;have pw:=Kg.mp nd;rcases M0 hne with h|h
 ·exact pw i j hi' hj' h e
 ·exact pw j i hj' hi' h e.symm
abbrev Up (lt:GX->GX->Hr)(p:HD GX)(m:GX):Prop:=∀i j,i < j->j < m->lt (gt p i) (gt p j)=true
section
variable{n:GX}{lt:GX->GX->Hr}(L:Lin n lt)
include L
def Up.more {p:HD GX}{a:GX}(hp:Pm n p)(ha:1<=a)(han:a < n)(h:Up lt p a)(hl:lt (gt p (a - 1)) (gt p a)=true):Up lt p (a+1):=by
 have hn:0 < n:=∅
 intro i j hij hj
 by_cases e:j=a
 ·subst e
  by_cases e2:i=j - 1
  ·subst e2; exact hl
  ·exact L.tr _ _ _ (hp.lt hn _) (hp.lt hn _) (hp.lt hn _) (h i (j - 1) ∅ ∅) hl
 ·exact h i j hij ∅
def o7 {p:HD GX}(hp:Pm n p):∀(f a:GX),1<=a->a+f=n->Up lt p a->Up lt p (bm lt (kas_asc p f a))/\a<=bm lt (kas_asc p f a)/\bm lt (kas_asc p f a)<=n/\(bm lt (kas_asc p f a) < n->lt (gt p (bm lt (kas_asc p f a))) (gt p (bm lt (kas_asc p f a) - 1))=true)
 | 0,a,h1,h2,h=>#[h,G2 _,by change a<=n; omega,λz=>by have:a < n:=z; omega]
 | f+1,a,h1,h2,h=>by
  have hn:0 < n:=∅
  have e:bm lt (kas_asc p (f+1) a)=bm lt (if lt (gt p a) (gt p (a - 1))=true then .ret a else kas_asc p f (a+1)):=rfl
  rw[e];cases c:lt (gt p a) (gt p (a - 1))with
  | true=>exact#[h,G2 _,by change a<=n; omega,λ_=>c]
  | false=>
   have l:lt (gt p (a - 1)) (gt p a)=true:=L.to _ _ (hp.lt hn (a - 1)) (hp.lt hn a) (hp.inj ∅ ∅ ∅) c
   obtain⟨q1,q2,q3,q4⟩:=o7 hp f (a+1) ∅ ∅ (Up.more L hp h1 ∅ h l)
   exact#[q1,by change a<=bm lt (kas_asc p f (a+1)); omega,q3,q4]
abbrev Dn (lt:GX->GX->Hr)(p:HD GX)(m:GX):Prop:=∀i j,i < j->j < m->lt (gt p j) (gt p i)=true
def qm {p:HD GX}(hp:Pm n p):∀(f a:GX),1<=a->a+f=n->Dn lt p a->∃m,bm lt (kas_desc f p a 0)=(p,m,0)/\a<=m/\m<=n/\Dn lt p m
 | 0,a,h1,h2,h=>#[a,rfl,G2 _,∅,h]
 | f+1,a,h1,h2,h=>by
  have hn:0 < n:=∅
  have e:bm lt (kas_desc (f+1) p a 0)=bm lt (if lt (gt p a) (gt p (a - 1))=true then(if 0 > 0 then kas_desc f (kas_rev p (a - (0+1)) a) (a+1) 0 else kas_desc f p (a+1) 0)else .ask (gt p (a - 1)) (gt p a) λd=>if d=true then .ret (p,a,0)else kas_desc f p (a+1) (0+1)):=rfl
  rw[e];cases c:lt (gt p a) (gt p (a - 1))with
  | true=>
   obtain⟨m,q1,q2,q3,q4⟩:=qm hp f (a+1) ∅ ∅ λi j hij hj=>by
    by_cases e:j=a
    ·subst e
     by_cases e2:i=j - 1
     ·subst e2; exact c
     ·exact L.tr _ _ _ (hp.lt hn _) (hp.lt hn _) (hp.lt hn _) c (h i (j - 1) ∅ ∅)
    ·exact h i j hij ∅
   exact#[m,q1,∅,q3,q4]
  | false=>
   have l:lt (gt p (a - 1)) (gt p a)=true:=L.to _ _ (hp.lt hn (a - 1)) (hp.lt hn a) (hp.inj ∅ ∅ ∅) c
   show#[a,?_,G2 _,∅,h]
   change bm lt (if lt (gt p (a - 1)) (gt p a)=true then .ret (p,a,0)else kas_desc f p (a+1) (0+1))=_
   rw[l]; rfl
omit L in
def Bj {p:HD GX}{m:GX}(hp:Pm n p)(hm:m<=n)(h:Dn lt p m):Up lt (kas_rev p 0 m) m:=by
 intro i j hij hj;have g:∀k,k < m->gt (kas_rev p 0 m) k=gt p (m - 1 - k):=λk hk=>by
  rw[gZ,gZ];show((mirror p 0 m ((m - 0) / 2))[k]?).getD 0=_;rw[getElem?_mirror_all (by rw[hp.size]; exact hm),Hk #[Jj _,hk],Nat.zero_add]
 rw[g i ∅,g j hj]
 exact h _ _ ∅ ∅
def uy {p:HD GX}(hp:Pm n p)(hn:1<=n):∃m p',bm lt (kas_count n p)=(m,p')/\Pm n p'/\1<=m/\m<=n/\Up lt p' m:=by
 unfold kas_count;rw[c8];obtain⟨q1,q2,q3,q4⟩:=o7 L hp (n - 1) 1 (G2 _) ∅ λi j hij hj=>∅
 generalize bm lt (kas_asc p (n - 1) 1)=m at q1 q2 q3 q4
 by_cases hm:m=n
 ·subst hm;rw[Hk (HI _)];exact#[m,p,rfl,hp,q2,G2 _,q1]
 ·rw[Hu (by simp[hm])]
  by_cases h1:m > 1
  ·rw[Hk h1];have l:=q1 0 (m - 1) ∅ ∅
   show#[m,p,?_,hp,q2,q3,q1];change bm lt (if lt (gt p 0) (gt p (m - 1))=true then .ret (m,p)else kas_descPart m n (kas_rev p 0 m))=_
   rw[l]; rfl
  ·rw[Hu h1];obtain rfl:m=1:=∅
   unfold kas_descPart;rw[c8];have l:=q4 ∅
   obtain⟨m,e,r1,r2,r3⟩:=qm L hp (n - (1+1)) (1+1) ∅ ∅ λi j hij hj=>by
    obtain rfl:j=1:=∅
    obtain rfl:i=0:=∅
    exact l
   rw[e];dsimp only;rw[Hu ∅]
   unfold kas_tail3;rw[c8];have hp':Pm n (kas_rev p 0 m):=hp.rev 0 m;obtain⟨z1,z2,z3,z4⟩:=o7 L hp' (n - m) m ∅ ∅ (Bj hp r2 r3)
   exact#[_,_,rfl,hp',∅,z3,z1]
def jd {p:HD GX}{k:GX}(hp:Pm n p)(hk:k < n)(hu:Up lt p k):∀(f l r:GX),l<=r->r<=k->r - l<=f->(∀i,i < l->lt (gt p i) (gt p k)=true)->(∀i,r<=i->i < k->lt (gt p k) (gt p i)=true)->
  ∃m,bm lt (kas_place p k f l r)=m/\m<=k/\(∀i,i < m->lt (gt p i) (gt p k)=true)/\(∀i,m<=i->i < k->lt (gt p k) (gt p i)=true)
 | 0,l,r,h1,h2,h3,ha,hb=>#[l,rfl,∅,ha,λi hi=>hb i ∅]
 | f+1,l,r,h1,h2,h3,ha,hb=>by
  have hn:0 < n:=∅
  unfold kas_place
  by_cases hge:l>=r
  ·rw[Hk hge];exact#[l,rfl,∅,ha,λi hi=>hb i ∅]
  ·rw[Hu hge];change ∃m,bm lt (if lt (gt p k) (gt p ((l+r) / 2))=true then kas_place p k f l ((l+r) / 2)else kas_place p k f ((l+r) / 2+1) r)=m/\_
   cases c:lt (gt p k) (gt p ((l+r) / 2))with
   | true=>
    rw[Hk rfl];show jd hp hk hu f l ((l+r) / 2) ∅ ∅ ∅ ha λi hi hik=>?_
    by_cases e:i=(l+r) / 2
    ·rw[e]; exact c
    ·exact L.tr _ _ _ (hp.lt hn _) (hp.lt hn _) (hp.lt hn _) c (hu _ _ ∅ hik)
   | false=>
    rw[Hu Hh];have l':=L.to _ _ (hp.lt hn ((l+r) / 2)) (hp.lt hn k) (hp.inj ∅ ∅ ∅) c
    show jd hp hk hu f ((l+r) / 2+1) r ∅ h2 ∅ (λi hi=>?_) hb
    by_cases e:i=(l+r) / 2
    ·rw[e]; exact l'
    ·exact L.tr _ _ _ (hp.lt hn _) (hp.lt hn _) (hp.lt hn _) (hu i ((l+r) / 2) ∅ ∅) l'
def uz:∀(f:GX) (p:HD GX) (k:GX),Pm n p->k+f=n->Up lt p k->Pm n (bm lt (kas_bin f p k))/\Up lt (bm lt (kas_bin f p k)) n
 | 0,p,k,hp,h,hu=>by
  have:k=n:=∅
  exact#[hp,this ▸ hu]
 | f+1,p,k,hp,h,hu=>by
  unfold kas_bin;rw[c8];obtain⟨m,e,h1,ha,hb⟩:=jd L hp ∅ hu k 0 k (Jj _) (G2 _) ∅ (λi hi=>∅) λi h1 h2=>∅
  rw[e];show uz f _ (k+1) (hp.bub _ _) ∅ λi j hij hj=>?_
  have g:∀i,gt (bubble p k (k - m)) i=if i=m then gt p k else if m < i/\i<=k then gt p (i - 1)else gt p i:=λi=>by
   rw[gZ,gZ,gZ,gZ,getElem?_bubble (by rw[hp.size]; omega) _ ∅,show k - (k - m)=m by omega]
   split
   ·rfl
   ·split <;> rfl
  rw[g,g]
  repeat' split
  all_goals first
   | (exfalso; omega)
   | exact ha _ ∅
   | exact hb _ ∅ ∅
   | exact hu _ _ ∅ ∅
def yd (hn:1<=n):Pm n (bm lt (kas_sort n))/\Up lt (bm lt (kas_sort n)) n:=by
 unfold kas_sort;rw[c8];obtain⟨m,p',e,h1,h2,h3,h4⟩:=uy L (p:=(HJ n).toArray) (by unfold Pm; simp) hn
 rw[e];dsimp only
 by_cases hm:m < n
 ·rw[Hk hm];have:max m 1=m:=∅
  rw[this];exact uz L _ _ _ h1 ∅ h4
 ·rw[Hu hm];have:m=n:=∅
  exact#[h1,this ▸ h4]
end
end Mi
namespace Mi
open PySem PySem.Spec PyProof.Rows L2
mutual
theorem lC:∀x y:T,gT x=true->d8 x y=ba true->d8 y x=ba false
 | .int a,.int b,_,h=>by
  dsimp only[d8]at h; simp only[Hm,Hw]at h
  dsimp only[d8]; simp only[Hm,LF]
  omega
 | .str _,_,h,_=>by cases h
 | .tup xs,.tup ys,hn,h=>lD xs ys hn h
 | .int _,.str _,_,h|.int _,.tup _,_,h|.tup _,.int _,_,h|.tup _,.str _,_,h=>by cases h
theorem lD:∀xs ys:GK T,dF xs=true->ci xs ys=ba true->ci ys xs=ba false
 | [],[],_,h=>by cases h
 | [],_::_,_,_=>rfl
 | _::_,[],_,h=>by cases h
 | x::xs,y::ys,hn,h=>by
  simp only[dF,GV]at hn;dsimp only[ci]at h ⊢
  by_cases e:x=y
  ·rw[Hk e]at h;rw[Hk e.symm];exact lD xs ys hn.2 h
  ·rw[Hu e]at h;rw[Hu (Ne.symm e)];exact lC x y hn.1 h
end
mutual
theorem lE:∀x y:T,gT x=true->x≠y->d8 y x=ba false->d8 x y=ba true
 | .int a,.int b,_,hne,h=>by
  dsimp only[d8]at h; simp only[Hm,LF]at h
  dsimp only[d8]; simp only[Hm,Hw]
  have:a≠b:=λe=>hne (e ▸ rfl)
  omega
 | .str _,_,h,_,_=>by cases h
 | .tup xs,.tup ys,hn,hne,h=>qo xs ys hn (λe=>hne (e ▸ rfl)) h
 | .int _,.str _,_,_,h|.int _,.tup _,_,_,h|.tup _,.int _,_,_,h|.tup _,.str _,_,_,h=>by cases h
theorem qo:∀xs ys:GK T,dF xs=true->xs≠ys->ci ys xs=ba false->ci xs ys=ba true
 | [],[],_,h,_=>absurd rfl h
 | [],_::_,_,_,_=>rfl
 | _::_,[],_,_,h=>by cases h
 | x::xs,y::ys,hn,hne,h=>by
  simp only[dF,GV]at hn;dsimp only[ci]at h ⊢
  by_cases e:x=y
  ·rw[Hk e.symm]at h;rw[Hk e];exact qo xs ys hn.2 (λz=>hne (by rw[e,z])) h
  ·rw[Hu (Ne.symm e)]at h;rw[Hu e];exact lE x y hn.1 e h
end
mutual
theorem o8:∀x y z:T,gT x=true->gT y=true->d8 x y=ba true->d8 y z=ba true->d8 x z=ba true
 | .int a,.int b,.int c,_,_,h,h'=>by
  dsimp only[d8]at h h' ⊢; simp only[Hm,Hw]at h h' ⊢
  omega
 | .tup xs,.tup ys,.tup zs,hn,hn',h,h'=>qp xs ys zs hn hn' h h'
 | .str _,_,_,h,_,_,_=>by cases h
 | .int _,.str _,_,_,_,h,_|.int _,.tup _,_,_,_,h,_|.tup _,.int _,_,_,_,h,_|.tup _,.str _,_,_,_,h,_=>by cases h
 | .int _,.int _,.str _,_,_,_,h|.int _,.int _,.tup _,_,_,_,h|.tup _,.tup _,.int _,_,_,_,h|.tup _,.tup _,.str _,_,_,_,h=>by cases h
theorem qp:∀xs ys zs:GK T,dF xs=true->dF ys=true->ci xs ys=ba true->ci ys zs=ba true->ci xs zs=ba true
 | [],[],_,_,_,h,_=>by cases h
 | _::_,[],_,_,_,h,_=>by cases h
 | _,_::_,[],_,_,_,h=>by cases h
 | [],_::_,_::_,_,_,_,_=>rfl
 | x::xs,y::ys,z::zs,hn,hn',h,h'=>by
  simp only[dF,GV]at hn hn';dsimp only[ci]at h h' ⊢
  by_cases e:x=y
  ·subst e;rw[Hk rfl]at h
   by_cases e':x=z
   ·rw[Hk e']at h' ⊢;exact qp xs ys zs hn.2 hn'.2 h h'
   ·rw[Hu e']at h' ⊢;exact h'
  ·rw[Hu e]at h
   by_cases e':y=z
   ·subst e';rw[Hu e];exact h
   ·rw[Hu e']at h';have t:=o8 x y z hn.1 hn'.1 h h';have e2:x≠z:=λe2=>by
     subst e2;have:=lC x x hn.1 t;rw[t]at this; cases this
    rw[Hu e2];exact t
end
abbrev Dv (ks:GK T):Prop:=ks.Pairwise λx y=>d8 x y=ba true
abbrev qr (ks:GK T):GK T:=dB (jZ ks) (.int 0) ks
structure Nice (ks:GK T):Prop where
 num:∀x∈ks,gT x=true
 lt:eE ks=true
 nd:ks.Nodup
def Nice.lin {ks:GK T}(h:Nice ks):Lin ks.length (jZ ks):=by
 have nm:∀i (hi:i < ks.length),gT ks[i]=true:=λi hi=>h.num _ (HP hi)
 show#[λi j k hi hj hk a b=>?_,λi j hi hj a=>?_,λi j hi hj hne a=>?_]
 ·have e1:=de h.lt hi hj;have e2:=de h.lt hj hk;have e3:=de h.lt hi hk;rw[a]at e1; rw[b]at e2
  rw[o8 _ _ _ (nm i hi) (nm j hj) e1 e2]at e3;exact(Ij e3).symm
 ·have e1:=de h.lt hi hj;have e2:=de h.lt hj hi;rw[a]at e1;rw[lC _ _ (nm i hi) e1]at e2;exact(Ij e2).symm
 ·have e1:=de h.lt hj hi;have e2:=de h.lt hi hj;rw[a]at e1;have hne':ks[i]≠ks[j]:=λe=>by
   have pw:=Kg.mp h.nd;rcases M0 hne with q|q
   ·exact pw i j hi hj q e
   ·exact pw j i hj hi q e.symm
  rw[lE _ _ (nm i hi) hne' e1]at e2;exact(Ij e2).symm
def uA {α:Type}{lt:GX->GX->Hr}{d:α}{xs:GK α}:(dB lt d xs).Perm xs:=by
 unfold dB;split
 ·exact .refl _
 ·have p:Pm xs.length (bm lt (JV xs.length)):=ly (iP ∅)
  show(PH _ p).trans ?_;have:(HJ xs.length).map (λi=>xs.getD i d)=xs:=by
   apply KM
   ·simp
   ·intro k h1 h2; simp[h2]
  rw[this]
def uB {ks:GK T}(h:Nice ks):Dv (qr ks):=by
 unfold qr dB Dv;split
 ·rename_i hl
  match ks,hl with
  | [],_=>exact .nil
  | [x],_=>simp
  | _::_::_,hl=>simp only[HH]at hl; omega
 ·rename_i hl;obtain⟨p,u⟩:=yd h.lin ∅
  rw[Kg];intro i j hi hj hij;rw[GU,Hg,p.size]at hi hj;have hn:0 < ks.length:=∅
  have l:=u i j hij hj;have e1:=de h.lt (p.lt hn i) (p.lt hn j);have g:∀k (hk:k < ks.length),(bm (jZ ks) (JV ks.length)).getD k 0=(bm (jZ ks) (JV ks.length)).toList[k]'(by rw[Hg,p.size]; exact hk):=λk hk=>by simp[LP,p.size,hk]
  have l':jZ ks ((bm (jZ ks) (JV ks.length)).getD i 0) ((bm (jZ ks) (JV ks.length)).getD j 0)=true:=l;rw[l']at e1;have gd:∀k (hk:k < ks.length),ks.getD k (.int 0)=ks[k]:=λk hk=>by simp[hk]
  simp only[NG];rw[<- g i hi,<- g j hj,gd _ (p.lt hn i),gd _ (p.lt hn j)];exact e1
abbrev je (xs:GK W)(S:aa):GR (W×aa):=match xs with
 | [.ref i]=>match xX S i with
  | some (lo,hi)=>if -(2 ^ 62)<=lo/\lo < 2 ^ 62/\-(2 ^ 62)<=hi/\hi < 2 ^ 62/\(hi - lo).toNat<=sizeLine then ba (.tup (Ds lo (hi - lo).toNat),S)else gV
  | none=>i6 [.ref i] S
 | xs=>i6 xs S
section
variable{prog:Hs}{w:HA}{A:Hy}{E:GM->GQ->Prop}{s:GQ}
def jH {Q:GK GM->GQ->Prop}{r:GZ}{a b c:G7}{t u v:Pq}{n:GX}(hh:A.handled=gV)(hr:Pk s.heap r a b c t u v)(hsmall:K1 a b c=true)
  (hn:IS a b c=n) (hlen:n<=2 ^ 24)
  (hQ:∀h' tk (acc:HD GM),(∀b o,s.heap.get? b=ba o->h'.get? b=ba o)->s.heap.objs.size<=h'.objs.size->LO (λi v=>∃t,v=.int (a+i*c) t) acc n->Q acc.toList { s with heap:=h',toks:=tk }):wpAny (model prog w) A (collect (.ref r)) Q E s:=by
 unfold collect;show GL (La (Ip F.entry_proto_collect ?_));rw[Ii F.plain_proto_collect _];change wpAny _ A.in1 (newList [] >>= λl=>again (.builtin "list.__iadd__" #[[l,.ref r],[]])) _ _ s
 show GL (HY ?_);show GY #[Jz F.plain_list_iadd _,Ip F.entry_list_iadd ?_];rw[Ii F.plain_list_iadd _];change wpAny _ A.in1 (Jv (.ref s.heap.objs.size) (.ref r) (.ref s.heap.objs.size)) _ _ _;have hS:(s.heap.push { cls:=.type "list",data:=.seq ([]:GK GM).toArray }).get? s.heap.objs.size=ba { cls:=.type "list",data:=.seq #[] 0 }:=G4 _ rfl;have fin':∀s',(∃h' tk acc c',s'={ s with heap:=h',toks:=tk }/\(∀b o,s.heap.get? b=ba o->h'.get? b=ba o)/\h'.get? s.heap.objs.size=ba { cls:=.type "list",dict:=gV,data:=.seq acc c',slots:=#[] }/\LO (λi v=>∃t,v=.int (a+i*c) t) acc n)->wpAny (model prog w) A (do
   let o <- load s.heap.objs.size
   match o.data with
   | .seq xs _=>pure xs.toList
   | _=>unsupported "internal:collect") Q E s':=by
  rintro s' ⟨h',tk,acc,c',rfl,hk,hS',hacc⟩;exact GL (MT hS' (GY (hQ h' tk acc hk (Kw (Hb hS')) hacc)))
 show IV (wpAny_extend_range (A:=A) (s:={ s with heap:=s.heap.push { cls:=.type "list",data:=.seq ([]:GK GM).toArray } }) (R:=λr s'=>r=.ok (.ret (.ref s.heap.objs.size))/\∃h' tk acc c',s'={ s with heap:=h',toks:=tk }/\(∀b o,s.heap.get? b=ba o->h'.get? b=ba o)/\h'.get? s.heap.objs.size=ba { cls:=.type "list",dict:=gV,data:=.seq acc c',slots:=#[] }/\LO (λi v=>∃t,v=.int (a+i*c) t) acc n) hh (GN _ hr) hsmall hn hlen _ _ 0 hS λh' tk acc' c' hk hS' hacc=>#[rfl,h',tk,acc',c',rfl,λb o e=>hk b o (Hn (Hb e)) (GN _ e),hS',hacc]) (λfin s' h=>?_) (λe s' h=>?_)
 ·cases fin with
  | done f=>
   obtain⟨e,h⟩:=h;cases e;exact fin' s' h
  | again c'=>exact#[h.1,Kx h.2 λr s'' hr=>by obtain⟨rfl,hr⟩:=hr; exact fin' s'' hr]
 ·exact absurd h.1 (by simp)
def g6 {Q₁:GM->GQ->Prop}{r:GZ}{a b c:G7}{t u v:Pq}{n:GX}(hh:A.handled=gV)(hr:Pk s.heap r a b c t u v)(hsmall:K1 a b c=true)
  (hn:IS a b c=n) (hlen:n<=2 ^ 24)
  (h:∀(h':HQ) (tk:GX) (acc:HD GM),(∀b o,s.heap.get? b=ba o->h'.get? b=ba o)->s.heap.objs.size<=h'.objs.size->LO (λi v=>∃t,v=.int (a+i*c) t) acc n->Q₁ (.ref h'.objs.size) { s with heap:=h'.push { cls:=.type "tuple",data:=.seq acc },toks:=tk }) :
  codeAny (model prog w) A (.call (.builtin "tuple.__new__") #[[.type "tuple",.ref r],[]]) (wants Q₁ E) s:=by
 show LY ?_;change wpAny _ A.in1 (do checkBuiltinCall "tuple.__new__" #[[.type "tuple",.ref r],[]]; again (.builtin "tuple.__new__" #[[.type "tuple",.ref r],[]])) _ _ s
 show GL (Lo (F.newCall_tuple_1 _) (GY #[Jz F.plain_tuple_new _,Ip F.entry_tuple_new ?_]));rw[Ii F.plain_tuple_new _];have hsub:=PySem.sub_tuple_self;have hinit:=PySem.init_tuple_lookup;have hmh:=PySem.madeHere_tuple;have hTI:s.TypeIs (.ref r) "range":=#[_,hr,rfl];have hh1:A.in1.handled=gV:=by simp[hh]
 wp_walk using K2 hTI,jH (A:=A.in1) hh1 hr hsmall hn hlen
 intro h' tk acc hk hle hacc;change wpAny _ _ (IM acc.toList.toArray >>= λv=>ret v) _ _ _
 unfold IM;show GL (HY ?_ (by change acc.toList.toArray.size<=sizeLine; simp only[Array.toArray_toList]; rw[hacc.1,HV]; omega))
 show GY ?_;have e:acc.toList.toArray=acc:=by simp
 rw[e];exact h h' tk acc hk hle hacc
def g9 {Q:GM->GQ->Prop}{r:GZ}{a b c:G7}{t u v:Pq}{n:GX}(hh:A.handled=gV)(hr:Pk s.heap r a b c t u v)(hsmall:K1 a b c=true)
  (hn:IS a b c=n) (hlen:n<=2 ^ 24)
  (hQ:∀(h':HQ) (tk:GX) (acc:HD GM),(∀b o,s.heap.get? b=ba o->h'.get? b=ba o)->s.heap.objs.size<=h'.objs.size->LO (λi v=>∃t,v=.int (a+i*c) t) acc n->Q (.ref h'.objs.size) { s with heap:=h'.push { cls:=.type "tuple",data:=.seq acc },toks:=tk }) :
  wpAny (model prog w) A (call (.type "tuple") [.ref r]) Q E s:=by
 show callType_codes (Q₁:=λobj s₁=>s₁.TypeIs obj "tuple"/\Q obj s₁) F.called_tuple (F.typeCall_tuple_1 _) F.entry_object_init
  (g6 (by simp[hh]) hr hsmall hn hlen λh' tk acc hk hle hacc=>#[#[_,G4 _ rfl,rfl],hQ h' tk acc hk hle hacc]) λobj s₁ h₁=>?_
 exact#[h₁.1,F.args_object_init_2 obj _,object_init_meets F.called_tuple.init.lookup F.called_tuple.made #v[] prog w A.in1 _ s₁ #[h₁.1,rfl,h₁.2]]
end
section
variable{X:Cx}{J:GK (GZ×ID)}{Y:L2.St}{H:Hp}{s:GQ}{A:GK GZ}{S:aa}
def lF (hh:X.A.handled=gV):LCall X (.type "tuple") je:=by
 intro J s Y H A S xs vs us w S' I so rl rv e;unfold je at e;split at e
 ·rename_i i;split at e
  ·rename_i lo hi hr;split at e
   ·rename_i hb;cases e;obtain⟨a,ea,rfl⟩:=iN (xs:=[]) rl rv;obtain⟨b1,b2,b3,b4,b5⟩:=hb;have hH:H a=ba (.rng lo hi):=by
     unfold xX at hr;split at hr
     ·rename_i hx; cases hr; exact so.obj i _ a hx ea
     ·cases hr
    obtain⟨t,u,v,ho⟩:=I.hok a _ hH;have hn:IS lo hi 1=((hi - lo).toNat:GX):=by rw[MG]; split <;> omega
    show g9 hh ho (OF b1 b2 b3 b4) hn b5 λh' tk acc hk hle hacc=>?_
    have hv:Vals ((HJ (hi - lo).toNat).map λ(k:GX)=>V.int (lo+(k:G7))) acc.toList:=by
     show lr (by rw[GU,Iu,Hg,hacc.1]) λi v u e1 e2=>?_
     rw[G1,GP]at e1;obtain⟨k,e1,rfl⟩:=e1;obtain⟨hk,rfl⟩:=G8.mp e1;obtain⟨t,rfl⟩:=hacc.2 i u (by rw[<- Il]; exact e2)
     exact#[t,by simp]
    have hnn:H h'.objs.size=gV:=I.hok.fresh hle;show#[.ref h'.objs.size,_,A,I.laid (a:=h'.objs.size) (o:=.tup ((HJ (hi - lo).toNat).map λ(k:GX)=>V.int (lo+(k:G7)))) (t':=tk) (λb o e=>GN _ (hk b o e)) hle #[by simpa using b5,acc.toList,hv,?_],rfl,bN (.inl hnn),so.lay hnn,.tup (.inl (.inl aI)) (lu _)]
    exact#[_,G4 _ rfl,rfl,0,by simp]
   ·cases e
  ·exact iy J s Y H A S _ vs us w S' I so rl rv e
 ·exact iy J s Y H A S _ vs us w S' I so rl rv e
def r8 (hh:X.A.handled=gV)(hu:X.A.units+12 < cLine):LCall X (.builtin "min") uu:=by
 intro J s Y H A S xs vs us w S' I so rl rv e;cases rl with
 | nil=>cases e
 | cons r t=>
  cases t with
  | cons _ _=>cases r <;> cases e
  | nil=>
   cases rv with
   | cons ru rv2=>
    cases rv2;cases r with
    | ref ea=>
     dsimp only[uu]at e;split at e
     ·rename_i ws hw;split at e
      ·rename_i ks hk;split at e
       ·rename_i hc;rw[GP]at e;obtain⟨w',e1,e2⟩:=e;cases e2;obtain⟨vs',h1,r1⟩:=aX so hw ea;obtain⟨its,rv1,p,hz⟩:=I.list h1;obtain rfl:_=HM _:=ru;have hws:T.ws ks=ws:=W.ts_w hk;have hT:IsTs s.heap ks its:=eV I ks (hws ▸ r1) rv1;have hl:its.length=ks.length:=hT.length.symm;have hlw:ws.length=ks.length:=by rw[r1.length,L2.Vals.length rv1,hl]
        have hn:0 < ks.length:=by
         have:=(G8.mp e1).1;omega
        show uk (items:=its.toArray) (bt:=jZ ks) hh p.isList (by simpa [hl]using hn) (λi j vi vj s' Q E hk' hi hj hq=>?_) λv h' tk hv hk'=>?_
        ·have hi':i < ks.length:=by
          have:=(Ja.mp hi).1
          simpa [hl]using this
         have hj':j < ks.length:=by
          have:=(Ja.mp hj).1
          simpa [hl]using this
         have g:=hT.kept (h':=s'.heap) λb o _ e=>hk' b o e
         have e1:vi=its[i]'∅:=by
          have:=(Ja.mp hi).2
          simpa using this.symm
         have e2:vj=its[j]'∅:=by
          have:=(Ja.mp hj).2
          simpa using this.symm
         subst e1 e2;have b1:=dc (ks:=ks) i hi';have b2:=dc (ks:=ks) j hj';exact Bg cQ _ _ _ _ X.A.in1 s' _ ∅ ∅ (g.get i hi' ∅) (g.get j hj' ∅) (by rw[aU]; unfold cQ; omega) (de hc.2 hi' hj') X.prog X.w _ _ hq
        ·have hv':its[gY ks]?=ba v:=by
          have:its.toArray.size=ks.length:=by simpa using hl
          rw[this]at hv
          simpa [gY]using hv
         obtain⟨v',q1,q2⟩:=r1.get e1;obtain⟨u',q3,q4⟩:=L2.Vals.get rv1 q1;rw[hv']at q3;cases q3;exact#[v',H,A,I.kept hk',q4,.refl,so,q2]
       ·cases e
      ·cases e
     ·cases e
    | _=>cases e
def j7:∀ {ws:GK W} {bs:GK Hr},ec ws=ba bs->ws=bs.map W.bl
 | [],bs,h=>by cases h; rfl
 | .bl b::ws,bs,h=>by
  (dsimp only[ec]at h; simp only[GP]at h)
  obtain⟨r,h1,h2⟩:=h;subst h2;rw[j7 h1]; rfl
 | .non::_,_,h|.int _::_,_,h|.str _::_,_,h|.tup _::_,_,h|.ref _::_,_,h=>by cases h
def o9 {bs:GK Hr}{vs:GK V}{us:GK GM}(r:RelL X.K A H (bs.map W.bl) vs)(rv:Vals vs us):us=bs.map Jp:=by
 induction bs generalizing vs us with
 | nil=>cases r; cases rv; rfl
 | cons b bs ih=>
  cases r with
  | cons r1 r2=>
   cases rv with
   | cons v1 v2=>
    cases r1;obtain rfl:_=Jp b:=v1;rw[ih r2 v2]; rfl
def r9 (bs:GK Hr):(HJ bs.length).all (λi=>bs.getD i false)=bs.all id:=by
 induction bs with
 | nil=>rfl
 | cons b bs ih=>simp[LM,Nk,Np]at ih ⊢; rw[ih]
def Bk {id:Iw}{fb:GK Hr->Hr}{g:GK W->aa->GR (W×aa)}(hg:∀xs S,g xs S=match xs with|[.ref i]=>(match eF S i with|some ws=>(ec ws).map λbs=>(.bl (fb bs),S)|none=>gV)|_=>gV)
  (hcall:∀ {s:GQ} {x:GM} {Q:GM->GQ->Prop} {E:GM->GQ->Prop} {bs:GK Hr},wpAny (model X.prog X.w) X.A.in1 (pyIter x) (λit s₂=>∃I fp wr P St,it=.ref I/\PB X.prog X.w X.A.in1 I fp wr bs.length P St/\St 0 s₂.heap/\TruthOf X.prog X.w X.A.in1 P (λi=>bs.getD i false)/\
   ∀h' tk,(∀b o,b∉wr->s₂.heap.get? b=ba o->h'.get? b=ba o)->Q (.bool (fb bs)) { s₂ with heap:=h',toks:=tk }) E s->wpAny (model X.prog X.w) X.A (call (.builtin id) [x]) Q E s)
  (hh:X.A.handled=gV):LCall X (.builtin id) g:=by
 intro J s Y H A S xs vs us w S' I so rl rv e;rw[hg]at e;cases rl with
 | nil=>cases e
 | cons r t=>
  cases t with
  | cons _ _=>cases r <;> cases e
  | nil=>
   cases rv with
   | cons ru rv2=>
    cases rv2;cases r with
    | @ref ri ad ea=>
     simp only at e;split at e
     ·rename_i ws hw;rw[GP]at e;obtain⟨bs,e1,e2⟩:=e;cases e2;obtain⟨vs',h1,r1⟩:=aX so hw ea;obtain⟨its,rv1,p,hz⟩:=I.list h1;obtain rfl:_=HM _:=ru;rw[j7 e1]at r1;have hits:=o9 r1 rv1;show hcall (bs:=bs) ?_;show J5 p.isList ?_;have hlt:ad < s.heap.objs.size:=by obtain⟨_,ho,_⟩:=p.isList; exact Hb ho
      have W:=Oe (prog:=X.prog) (w:=X.w) (A:=X.A.in1) hh s.heap.objs.size ad (Hn hlt) its.toArray;have hsz:its.toArray.size=bs.length:=by rw[G6,hits,GU]
      rw[hsz]at W;show#[_,_,_,_,_,rfl,W,#[#[_,G4 _ rfl,rfl,rfl],?_],λi v s' Q E hi hq=>?_,λh' tk hk=>?_]
      ·obtain⟨o,ho,hc⟩:=p.isList;exact#[o,GN _ ho,hc]
      ·have hb:bs[i]?.map Jp=ba v:=by rw[<- G1,<- hits]; simpa using hi
       cases q:bs[i]? with
       | none=>rw[q]at hb; cases hb
       | some b=>
        rw[q]at hb;cases hb;have eb:bs.getD i false=b:=by simp[q]
        have hq:Q (bs.getD i false) s':=hq;rw[eb]at hq;exact IC hq
      ·show#[.bl (fb bs),H,A,I.kept (λb o e=>hk b o (λz=>?_) (GN _ e)),rfl,.refl,so,.bl]
       have hb:=Hb e;rw[Hc.mp z]at hb;exact IA _ hb
     ·cases e
    | _=>cases e
def sa (hh:X.A.handled=gV):LCall X (.builtin "all") yc:=
 Bk (fb:=λbs=>bs.all id) (λxs S=>rfl) (λ{s x Q E bs} h=>call_all_walk (IV h (λit s₂ #[I,fp,wr,P,St',a,b,c,d,f]=>#[I,fp,wr,_,P,St',_,a,b,c,d,λh' tk hk=>by rw[r9]; exact f h' tk hk]) λ_ _ e=>e)) hh
end
noncomputable abbrev FA:=Fm->aa->GR (GK W×aa)
noncomputable abbrev FT:=Fm->aa->GR (Hr×aa)
inductive Out where
 | nx (Z:Fm)|rt (w:W)|bk (Z:Fm)|ct (Z:Fm)
noncomputable abbrev FS:=Fm->aa->GR (Out×aa)
section
variable (X:Cx)
inductive tE (f:FE)(Y:L2.St)(H:Hp)(Q:VK):Prop
 | mk (A:GK GZ) (Z:Fm) (S:aa) (w:W) (S':aa) (er:EnvRel X.K A H Z Y) (so:StoreOk X.w X.K A H S) (e:f Z S=ba (w,S')) (q:∀v H',EndV X.w X.K A H S' w v H'->Q v H'):tE f Y H Q
abbrev EndB (A:GK GZ)(H:Hp)(S':aa)(k:Hr):Hr->Hp->Prop:=λb H'=>b=k/\∃A',Ext X.K A H A' H'/\StoreOk X.w X.K A' H' S'
inductive tT (f:FT)(Y:L2.St)(H:Hp)(Q:Hr->Hp->Prop):Prop
 | mk (A:GK GZ) (Z:Fm) (S:aa) (k:Hr) (S':aa) (er:EnvRel X.K A H Z Y) (so:StoreOk X.w X.K A H S) (e:f Z S=ba (k,S')) (q:∀b H',EndB X A H S' k b H'->Q b H'):tT f Y H Q
inductive EndA (A:GK GZ)(H:Hp)(S':aa)(ws:GK W)(vs:GK V)(H':Hp):Prop
 | mk (A':GK GZ) (e:Ext X.K A H A' H') (so:StoreOk X.w X.K A' H' S') (r:RelL X.K A' H' ws vs):EndA A H S' ws vs H'
inductive tA (f:FA)(Y:L2.St)(H:Hp)(Q:GK V->Hp->Prop):Prop
 | mk (A:GK GZ) (Z:Fm) (S:aa) (ws:GK W) (S':aa) (er:EnvRel X.K A H Z Y) (so:StoreOk X.w X.K A H S) (e:f Z S=ba (ws,S')) (q:∀vs H',EndA X A H S' ws vs H'->Q vs H'):tA f Y H Q
inductive EndF (A:GK GZ)(H:Hp)(o:Out)(S':aa)(c:Fm->Out)(Y':L2.St)(H':Hp):Prop
 | mk (Z':Fm) (A':GK GZ) (eo:o=c Z') (e:Ext X.K A H A' H') (so:StoreOk X.w X.K A' H' S') (er:EnvRel X.K A' H' Z' Y'):EndF A H o S' c Y' H'
inductive EndR (A:GK GZ)(H:Hp)(o:Out)(S':aa)(v:V)(H':Hp):Prop
 | mk (w:W) (A':GK GZ) (eo:o=.rt w) (e:Ext X.K A H A' H') (so:StoreOk X.w X.K A' H' S') (r:Rel X.K A' H' w v):EndR A H o S' v H'
abbrev EndS (A:GK GZ)(H:Hp)(o:Out)(S':aa):Ends where
 nx:=EndF X A H o S' .nx
 rt:=EndR X A H o S'
 bk:=EndF X A H o S' .bk
 ct:=EndF X A H o S' .ct
structure Imp (E D:Ends):Prop where
 nx:∀Y H,E.nx Y H->D.nx Y H
 rt:∀v H,E.rt v H->D.rt v H
 bk:∀Y H,E.bk Y H->D.bk Y H
 ct:∀Y H,E.ct Y H->D.ct Y H
inductive tS (f:FS)(D:Ends)(Y:L2.St)(H:Hp):Prop
 | mk (A:GK GZ) (Z:Fm) (S:aa) (o:Out) (S':aa) (er:EnvRel X.K A H Z Y) (so:StoreOk X.w X.K A H S) (e:f Z S=ba (o,S')) (d:Imp (EndS X A H o S') D):tS f D Y H
noncomputable abbrev GE (e:Hi)(f:FE):Prop:=PE X e (tE X f)
noncomputable abbrev GT (e:Hi)(f:FT):Prop:=PT X e (tT X f)
noncomputable abbrev GW (e:Hi)(f:FT):Prop:=PW X e (tT X f)
noncomputable abbrev GA (es:GK Hi)(f:FA):Prop:=PA X es (tA X f)
noncomputable abbrev GS (st:JO)(f:FS):Prop:=PS X st (tS X f)
noncomputable abbrev GSs (sts:GK JO)(f:FS):Prop:=PSs X sts (tS X f)
end
def Imp.trans {E D F:Ends}(a:Imp E D)(b:Imp D F):Imp E F:=#[λ_ _ h=>b.nx _ _ (a.nx _ _ h),λ_ _ h=>b.rt _ _ (a.rt _ _ h),λ_ _ h=>b.bk _ _ (a.bk _ _ h),λ_ _ h=>b.ct _ _ (a.ct _ _ h)]
section
variable{X:Cx}
def GE.of {e:Hi}{t:TE}{f:FE}(h:PE X e t)(hf:∀(Y:L2.St) (H:Hp) (A:GK GZ) (Z:Fm) (S:aa) (w:W) (S':aa),EnvRel X.K A H Z Y->StoreOk X.w X.K A H S->f Z S=ba (w,S')->∀Q:VK,(∀v H',EndV X.w X.K A H S' w v H'->Q v H')->t Y H Q):GE X e f:=
 λJ s Y H Q I #[A,Z,S,w,S',er,so,e1,hq]=>h J s Y H Q I (hf Y H A Z S w S' er so e1 Q hq)
def GT.of {e:Hi}{t:TT}{f:FT}(h:PT X e t)(hf:∀(Y:L2.St) (H:Hp) (A:GK GZ) (Z:Fm) (S:aa) (k:Hr) (S':aa),EnvRel X.K A H Z Y->StoreOk X.w X.K A H S->f Z S=ba (k,S')->∀Q:Hr->Hp->Prop,(∀b H',EndB X A H S' k b H'->Q b H')->t Y H Q):GT X e f:=
 λJ s Y H Q I #[A,Z,S,w,S',er,so,e1,hq]=>h J s Y H Q I (hf Y H A Z S w S' er so e1 Q hq)
def GW.of {e:Hi}{t:TT}{f:FT}(h:PW X e t)(hf:∀(Y:L2.St) (H:Hp) (A:GK GZ) (Z:Fm) (S:aa) (k:Hr) (S':aa),EnvRel X.K A H Z Y->StoreOk X.w X.K A H S->f Z S=ba (k,S')->∀Q:Hr->Hp->Prop,(∀b H',EndB X A H S' k b H'->Q b H')->t Y H Q):GW X e f:=
 λwh J s Y H Q I #[A,Z,S,w,S',er,so,e1,hq]=>h wh J s Y H Q I (hf Y H A Z S w S' er so e1 Q hq)
def GA.of {es:GK Hi}{t:TA}{f:FA}(h:PA X es t)(hf:∀(Y:L2.St) (H:Hp) (A:GK GZ) (Z:Fm) (S:aa) (ws:GK W) (S':aa),EnvRel X.K A H Z Y->StoreOk X.w X.K A H S->f Z S=ba (ws,S')->∀Q:GK V->Hp->Prop,(∀vs H',EndA X A H S' ws vs H'->Q vs H')->t Y H Q):GA X es f:=
 λpos J s Y H Q I #[A,Z,S,w,S',er,so,e1,hq]=>h pos J s Y H Q I (hf Y H A Z S w S' er so e1 Q hq)
def GS.of {st:JO}{t:TS}{f:FS}(h:PS X st t)(hf:∀(Y:L2.St) (H:Hp) (A:GK GZ) (Z:Fm) (S:aa) (o:Out) (S':aa),EnvRel X.K A H Z Y->StoreOk X.w X.K A H S->f Z S=ba (o,S')->∀D:Ends,Imp (EndS X A H o S') D->t D Y H):GS X st f:=
 λJ s Y H D I #[A,Z,S,o,S',er,so,e1,hq]=>h J s Y H D I (hf Y H A Z S o S' er so e1 D hq)
def GSs.of {st:GK JO}{t:TS}{f:FS}(h:PSs X st t)(hf:∀(Y:L2.St) (H:Hp) (A:GK GZ) (Z:Fm) (S:aa) (o:Out) (S':aa),EnvRel X.K A H Z Y->StoreOk X.w X.K A H S->f Z S=ba (o,S')->∀D:Ends,Imp (EndS X A H o S') D->t D Y H):GSs X st f:=
 λJ s Y H D I #[A,Z,S,o,S',er,so,e1,hq]=>h J s Y H D I (hf Y H A Z S o S' er so e1 D hq)
def EndV.after {A A1:GK GZ}{H H1:Hp}{S':aa}{w:W}{v:V}{H':Hp}(e:Ext X.K A H A1 H1)(h:EndV X.w X.K A1 H1 S' w v H'):EndV X.w X.K A H S' w v H':=by
 obtain⟨A',x,y,z⟩:=h;exact#[A',e.trans x,y,z]
def EndB.after {A A1:GK GZ}{H H1:Hp}{S':aa}{k b:Hr}{H':Hp}(e:Ext X.K A H A1 H1)(h:EndB X A1 H1 S' k b H'):EndB X A H S' k b H':=by
 obtain⟨h1,A',x,y⟩:=h;exact#[h1,A',e.trans x,y]
def EndS.after {A A1:GK GZ}{H H1:Hp}{S':aa}{o:Out}(e:Ext X.K A H A1 H1):Imp (EndS X A1 H1 o S') (EndS X A H o S'):=
 #[λ_ _ #[Z',A',a,b,c,d]=>#[Z',A',a,e.trans b,c,d],λ_ _ #[Z',A',a,b,c,d]=>#[Z',A',a,e.trans b,c,d],λ_ _ #[Z',A',a,b,c,d]=>#[Z',A',a,e.trans b,c,d],λ_ _ #[Z',A',a,b,c,d]=>#[Z',A',a,e.trans b,c,d]]
abbrev fC (w:W):FE:=λ_ S=>ba (w,S)
abbrev fV (i:GX):FE:=λZ S=>match Z[i]? with
 | some (ba w)=>ba (w,S)
 | _=>gV
def lG {e:Hi}{v:V}{w:W}(h:PE X e (tC v))(r:∀A H,Rel X.K A H w v):GE X e (fC w):=
 GE.of h λY H A Z S w' S' er so e Q hq=>by cases e; exact hq _ _ (.here so (r A H))
def Fw {i:GX}{e:Hi}(h:PE X e (As i)):GE X e (fV i):=GE.of h λY H A Z S w S' er so e Q hq=>by
 unfold fV at e;split at e
 ·rename_i w' hw;cases e;obtain⟨v,h1,h2⟩:=er.2 i _ hw;exact#[v,h1,hq _ _ (.here so h2)]
 ·cases e
abbrev ye (g:W->W->aa->GR (W×aa))(fa fb:FE):FE:=λZ S=>match fa Z S with
 | some (x,S1)=>match fb Z S1 with
  | some (y,S2)=>g x y S2
  | none=>gV
 | none=>gV
def EO {fa fb:FE}{g:W->W->aa->GR (W×aa)}{Z:Fm}{S:aa}{r:W×aa}(e:ye g fa fb Z S=ba r):∃x S1 y S2,fa Z S=ba (x,S1)/\fb Z S1=ba (y,S2)/\g x y S2=ba r:=by
 unfold ye at e;split at e
 ·rename_i x S1 h1;split at e
  ·rename_i y S2 h2;exact#[x,S1,y,S2,h1,h2,e]
  ·cases e
 ·cases e
def eL {fa fb:FE}{Z:Fm}{S S1 S2:aa}{x y:W}{Y:L2.St}{H:Hp}{A:GK GZ}{R:V->V->Hp->Prop}(er:EnvRel X.K A H Z Y)(so:StoreOk X.w X.K A H S)(h1:fa Z S=ba (x,S1))(h2:fb Z S1=ba (y,S2))
  (h:∀a b H2 A2,Ext X.K A H A2 H2->StoreOk X.w X.K A2 H2 S2->Rel X.K A2 H2 x a->Rel X.K A2 H2 y b->R a b H2):tE X fa Y H λa H1=>tE X fb Y H1 λb H2=>R a b H2:=by
 show#[A,Z,S,x,S1,er,so,h1,λa H1 #[A1,e1,o1,r1]=>?_]
 show#[A1,Z,S1,y,S2,er.mono e1,o1,h2,λb H2 #[A2,e2,o2,r2]=>?_]
 exact h a b H2 A2 (e1.trans e2) o2 (r1.mono e2) r2
inductive rOp (X:Cx)(g:W->W->aa->GR (W×aa))(a b:V)(H:Hp)(Q:VK):Prop
 | mk (A:GK GZ) (S:aa) (x y w:W) (S':aa) (so:StoreOk X.w X.K A H S) (rx:Rel X.K A H x a) (ry:Rel X.K A H y b) (e:g x y S=ba (w,S')) (q:∀v H',EndV X.w X.K A H S' w v H'->Q v H'):rOp X g a b H Q
inductive rCall (X:Cx)(g:GK W->aa->GR (W×aa))(vs:GK V)(H:Hp)(Q:VK):Prop
 | mk (A:GK GZ) (S:aa) (ws:GK W) (w:W) (S':aa) (so:StoreOk X.w X.K A H S) (rl:RelL X.K A H ws vs) (e:g ws S=ba (w,S')) (q:∀v H',EndV X.w X.K A H S' w v H'->Q v H'):rCall X g vs H Q
def LOp.opr {f:GM->GM->OP GM}{g:W->W->aa->GR (W×aa)}(h:LOp X f g):OpR X f (rOp X g):=by
 intro J s Y H a b u v Q I ru rv ⟨A,S,x,y,w,S',so,rx,ry,e,hq⟩;exact aT (h J s Y H A S x y a b u v w S' I so rx ru ry rv e) λu' s' #[v',H',A',I',r',e1,o1,z1]=>#[v',H',I',r',hq v' H' #[A',e1,o1,z1]]
def zQ {a b:Hi}{op:Na}{pos:Jt}{fa fb:FE}{g:W->W->aa->GR (W×aa)}(ho:LOp X (binaryOp op) g)(ha:GE X a fa)(hb:GE X b fb):GE X (.BinOp a op b pos) (ye g fa fb):=
 GE.of (C5 ho.opr ha hb) λY H A Z S w S' er so e Q hq=>by
  obtain⟨x,S1,y,S2,h1,h2,h3⟩:=EO e;exact eL er so h1 h2 λa b H2 A2 e2 o2 r1 r2=>#[A2,S2,x,y,w,S',o2,r1,r2,h3,λv H' z=>hq v H' (z.after e2)]
abbrev uC (fa:FE):FE:=λZ S=>match fa Z S with
 | some (.int i,S1)=>ba (.int (-i),S1)
 | _=>gV
def uD {a:Hi}{pos:Jt}{fa:FE}(ha:GE X a fa):GE X (.UnaryOp .USub a pos) (uC fa):=
 GE.of (C6 AS ha) λY H A Z S w S' er so e Q hq=>by
  unfold uC at e;split at e
  ·rename_i i S1 h1;cases e;show#[A,Z,S,_,_,er,so,h1,λv H1 #[A1,e1,o1,r1]=>?_]
   cases r1;exact#[_,rfl,hq _ _ #[A1,e1,o1,.int]]
  ·cases e
abbrev yf (o:COp)(fa fb:FE):FE:=ye (bS o) fa fb
def Bl {a b:Hi}{o:COp}{pos:Jt}{fa fb:FE}(hu:X.A.units+d7 < cLine)(ha:GE X a fa)(hb:GE X b fb)(hm:behindInMarks o.py b=false):GE X (.Compare a [o.py] [b] pos) (yf o fa fb):=
 GE.of (xt (mQ hu o).opr ha hb hm) λY H A Z S w S' er so e Q hq=>by
  obtain⟨x,S1,y,S2,h1,h2,h3⟩:=EO e;exact eL er so h1 h2 λa b H2 A2 e2 o2 r1 r2=>#[A2,S2,x,y,w,S',o2,r1,r2,h3,λv H' z=>hq v H' (z.after e2)]
abbrev mX (f:FE):FT:=λZ S=>match f Z S with
 | some (.bl k,S')=>ba (k,S')
 | _=>gV
def Bm {a b:Hi}{o:COp}{pos:Jt}{fa fb:FE}(hu:X.A.units+d7 < cLine)(ha:GE X a fa)(hb:GE X b fb)(hm:behindInMarks o.py b=false):GT X (.Compare a [o.py] [b] pos) (mX (yf o fa fb)):=
 GT.of (xu (mQ hu o).opr ha hb hm) λY H A Z S k S' er so e Q hq=>by
  unfold mX at e;split at e
  ·rename_i k' S'' h0;cases e;obtain⟨x,S1,y,S2,h1,h2,h3⟩:=EO h0;show eL er so h1 h2 λa b H2 A2 e2 o2 r1 r2=>#[A2,S2,x,y,_,_,o2,r1,r2,h3,λv H' #[A',z1,z2,z3]=>?_]
   cases z3;exact#[k,rfl,hq _ _ #[rfl,A',e2.trans z1,z2]]
  ·cases e
abbrev eM (o o':COp)(fa fb fc:FE):FE:=λZ S=>match fa Z S with
 | some (x,S1)=>match fb Z S1 with
  | some (y,S2)=>match oE o x y S2 with
   | some true=>match fc Z S2 with
    | some (z,S3)=>cg o' y z S3
    | none=>gV
   | some false=>ba (.bl false,S2)
   | none=>gV
  | none=>gV
 | none=>gV
def jf {o o':COp}{fa fb fc:FE}{Y:L2.St}{H:Hp}{A:GK GZ}{Z:Fm}{S:aa}{w:W}{S':aa}(er:EnvRel X.K A H Z Y)(so:StoreOk X.w X.K A H S)(e:eM o o' fa fb fc Z S=ba (w,S'))(Q:VK)(hq:∀v H',EndV X.w X.K A H S' w v H'->Q v H') :
  oK (rOp X (cg o))
   (rOp X (cg o')) (tE X fa) (tE X fb) (tE X fc) Y H Q:=by
 unfold eM at e;split at e
 ·rename_i x S1 h1;split at e
  ·rename_i y S2 h2;show eL er so h1 h2 λa b H2 A2 e2 o2 r1 r2=>?_
   split at e
   ·rename_i hc;split at e
    ·rename_i z S3 h3;show#[A2,S2,x,y,.bl true,S2,o2,r1,r2,by simp[cg,hc],λv H3 #[A3,z1,z2,z3]=>?_]
     cases z3;show#[true,rfl,?_];rw[Hk rfl];show#[A3,Z,S2,z,S3,er.mono (e2.trans z1),z2,h3,λc H4 #[A4,y1,y2,y3]=>?_]
     exact#[A4,S3,y,z,w,S',y2,(r2.mono z1).mono y1,y3,e,λv H' q=>hq v H' (q.after ((e2.trans z1).trans y1))]
    ·cases e
   ·rename_i hc;cases e;show#[A2,S',x,y,.bl false,S',o2,r1,r2,by simp[cg,hc],λv H3 #[A3,z1,z2,z3]=>?_]
    cases z3;show#[false,rfl,?_];rw[Hu Hh];exact hq _ _ #[A3,e2.trans z1,z2,.bl]
   ·cases e
  ·cases e
 ·cases e
def uE {a b c:Hi}{o o':COp}{pos:Jt}{fa fb fc:FE}(hu:X.A.units+d7 < cLine)(ha:GE X a fa)(hb:GE X b fb)(hc:GE X c fc)(hm:lastMarks [o.py,o'.py] [b,c]=false):GE X (.Compare a [o.py,o'.py] [b,c] pos) (eM o o' fa fb fc):=
 GE.of (sX (fY hu o).opr (fY hu o').opr ha hb hc hm) λY H A Z S w S' er so e Q hq=>jf er so e Q hq
def uF {a b c:Hi}{o o':COp}{pos:Jt}{fa fb fc:FE}(hu:X.A.units+d7 < cLine)(ha:GE X a fa)(hb:GE X b fb)(hc:GE X c fc)(hm:lastMarks [o.py,o'.py] [b,c]=false):GT X (.Compare a [o.py,o'.py] [b,c] pos) (mX (eM o o' fa fb fc)):=
 GT.of (sY (fY hu o).opr (fY hu o').opr ha hb hc hm) λY H A Z S k S' er so e Q hq=>by
  unfold mX at e;split at e
  ·rename_i k' S'' h0;cases e;show jf er so h0 (λx H'=>∃k,x=.bl k/\Q k H') λv H' #[A',z1,z2,z3]=>?_
   cases z3;exact#[_,rfl,hq _ _ #[rfl,A',z1,z2]]
  ·cases e
abbrev fu (f:FE):FT:=λZ S=>match f Z S with
 | some (w,S')=>(dX S' w).map λk=>(k,S')
 | none=>gV
def bI {e:Hi}{f:FE}(h:GE X e f)(he:∀whole,isTrue e X.env whole=(do let v <- whole; standAt e.pos; holding [v] (truthy v))):GT X e (fu f):=by
 intro J s Y H Q I ⟨A,Z,S,k,S',er,so,e1,hq⟩;unfold fu at e1;split at e1
 ·rename_i w S1 h1;rw[GP]at e1;obtain⟨k',ek,e2⟩:=e1;cases e2;show isTrue_plain (aT (h J s Y H (EndV X.w X.K A H _ w) I #[A,Z,S,w,_,er,so,h1,λ_ _ z=>z]) λv s1 #[x,H1,I1,r1,A1,e1,o1,z1]=>?_) (he _)
  exact Fu I1 o1 z1 r1 ek λs' I'=>#[H1,I',hq _ _ #[rfl,A1,e1,o1]]
 ·cases e1
abbrev uG (f g:FT):FT:=λZ S=>match f Z S with
 | some (true,S1)=>g Z S1
 | some (false,S1)=>ba (false,S1)
 | none=>gV
abbrev Dw (f g:FT):FT:=λZ S=>match f Z S with
 | some (true,S1)=>ba (true,S1)
 | some (false,S1)=>g Z S1
 | none=>gV
abbrev yg (f:FT):FT:=λZ S=>match f Z S with
 | some (k,S1)=>ba (!k,S1)
 | none=>gV
def uH {f g:FT}{Y:L2.St}{H:Hp}{A:GK GZ}{Z:Fm}{S:aa}{k:Hr}{S':aa}(er:EnvRel X.K A H Z Y)(so:StoreOk X.w X.K A H S)(e:uG f g Z S=ba (k,S'))(Q:Hr->Hp->Prop)(hq:∀b H',EndB X A H S' k b H'->Q b H') :
  CM (tT X f) (tT X g) Y H Q:=by
 unfold uG at e;split at e
 ·rename_i S1 h1;show#[A,Z,S,true,S1,er,so,h1,λb H1 #[z0,A1,z1,z2]=>?_]
  subst z0;rw[Hk rfl];exact#[A1,Z,S1,k,S',er.mono z1,z2,e,λb H' q=>hq b H' (q.after z1)]
 ·rename_i S1 h1;cases e;show#[A,Z,S,false,_,er,so,h1,λb H1 #[z0,A1,z1,z2]=>?_]
  subst z0;rw[Hu Hh];exact hq _ _ #[rfl,A1,z1,z2]
 ·cases e
def yh {f g:FT}{Y:L2.St}{H:Hp}{A:GK GZ}{Z:Fm}{S:aa}{k:Hr}{S':aa}(er:EnvRel X.K A H Z Y)(so:StoreOk X.w X.K A H S)(e:Dw f g Z S=ba (k,S'))(Q:Hr->Hp->Prop)(hq:∀b H',EndB X A H S' k b H'->Q b H') :
  F9 (tT X f) (tT X g) Y H Q:=by
 unfold Dw at e;split at e
 ·rename_i S1 h1;cases e;show#[A,Z,S,true,_,er,so,h1,λb H1 #[z0,A1,z1,z2]=>?_]
  subst z0;rw[Hk rfl];exact hq _ _ #[rfl,A1,z1,z2]
 ·rename_i S1 h1;show#[A,Z,S,false,S1,er,so,h1,λb H1 #[z0,A1,z1,z2]=>?_]
  subst z0;rw[Hu Hh];exact#[A1,Z,S1,k,S',er.mono z1,z2,e,λb H' q=>hq b H' (q.after z1)]
 ·cases e
def yi {a:Hi}{pos:Jt}{f:FT}(h:GT X a f):GW X (.BoolOp .And [a] pos) f:=xi h
def Bn {a:Hi}{pos:Jt}{f:FT}(h:GT X a f):GW X (.BoolOp .Or [a] pos) f:=At h
def Bo {a b:Hi}{r:GK Hi}{pos:Jt}{f g:FT}(h:GT X a f)(h2:GW X (.BoolOp .And (b::r) pos) g):GW X (.BoolOp .And (a::b::r) pos) (uG f g):=
 GW.of (Au h h2) λY H A Z S k S' er so e Q hq=>uH er so e Q hq
def Dx {a b:Hi}{r:GK Hi}{pos:Jt}{f g:FT}(h:GT X a f)(h2:GW X (.BoolOp .Or (b::r) pos) g):GW X (.BoolOp .Or (a::b::r) pos) (Dw f g):=
 GW.of (CN h h2) λY H A Z S k S' er so e Q hq=>yh er so e Q hq
def Bp {a:Hi}{pos:Jt}{f:FT}(h:GT X a f):GT X (.UnaryOp .Not a pos) (yg f):=
 GT.of (Av h) λY H A Z S k S' er so e Q hq=>by
  unfold yg at e;split at e
  ·rename_i k1 S1 h1;cases e;show#[A,Z,S,k1,_,er,so,h1,λb H1 #[z0,A1,z1,z2]=>?_]
   subst z0;exact hq _ _ #[rfl,A1,z1,z2]
  ·cases e
abbrev qt (f g:FE):FE:=λZ S=>match f Z S with
 | some (.bl true,S1)=>g Z S1
 | some (.bl false,S1)=>ba (.bl false,S1)
 | _=>gV
abbrev yj (f g:FE):FE:=λZ S=>match f Z S with
 | some (.bl true,S1)=>ba (.bl true,S1)
 | some (.bl false,S1)=>g Z S1
 | _=>gV
abbrev qu (f:FE):FE:=λZ S=>match f Z S with
 | some (.bl k,S1)=>ba (.bl (!k),S1)
 | _=>gV
def Bq {a:Hi}{op:Pe}{pos:Jt}{f:FE}(h:GE X a f):GE X (.BoolOp op [a] pos) f:=Aw h
def Br {a b:Hi}{r:GK Hi}{pos:Jt}{f g:FE}(h:GE X a f)(h2:GE X (.BoolOp .And (b::r) pos) g):GE X (.BoolOp .And (a::b::r) pos) (qt f g):=
 GE.of (Ax h h2) λY H A Z S w S' er so e Q hq=>by
  unfold qt at e;split at e
  ·rename_i S1 h1;show#[A,Z,S,_,S1,er,so,h1,λv H1 #[A1,z1,z2,z3]=>?_]
   cases z3;show#[true,rfl,?_];rw[Hk rfl];exact#[A1,Z,S1,w,S',er.mono z1,z2,e,λb H' q=>hq b H' (q.after z1)]
  ·rename_i S1 h1;cases e;show#[A,Z,S,_,_,er,so,h1,λv H1 #[A1,z1,z2,z3]=>?_]
   cases z3;show#[false,rfl,?_];rw[Hu Hh];exact hq _ _ #[A1,z1,z2,.bl]
  ·cases e
def Dy {a b:Hi}{r:GK Hi}{pos:Jt}{f g:FE}(h:GE X a f)(h2:GE X (.BoolOp .Or (b::r) pos) g):GE X (.BoolOp .Or (a::b::r) pos) (yj f g):=
 GE.of (CQ h h2) λY H A Z S w S' er so e Q hq=>by
  unfold yj at e;split at e
  ·rename_i S1 h1;cases e;show#[A,Z,S,_,_,er,so,h1,λv H1 #[A1,z1,z2,z3]=>?_]
   cases z3;show#[true,rfl,?_];rw[Hk rfl];exact hq _ _ #[A1,z1,z2,.bl]
  ·rename_i S1 h1;show#[A,Z,S,_,S1,er,so,h1,λv H1 #[A1,z1,z2,z3]=>?_]
   cases z3;show#[false,rfl,?_];rw[Hu Hh];exact#[A1,Z,S1,w,S',er.mono z1,z2,e,λb H' q=>hq b H' (q.after z1)]
  ·cases e
def Bs {a:Hi}{pos:Jt}{f:FE}(h:GE X a f):GE X (.UnaryOp .Not a pos) (qu f):=
 GE.of (Ay h) λY H A Z S w S' er so e Q hq=>by
  unfold qu at e;split at e
  ·rename_i k1 S1 h1;cases e;show#[A,Z,S,_,_,er,so,h1,λb H1 #[A1,z1,z2,z3]=>?_]
   cases z3;exact#[_,rfl,hq _ _ #[A1,z1,z2,.bl]]
  ·cases e
abbrev yk (c:FT)(f g:FE):FE:=λZ S=>match c Z S with
 | some (true,S1)=>f Z S1
 | some (false,S1)=>g Z S1
 | none=>gV
def Bt {c a b:Hi}{pos:Jt}{fc:FT}{f g:FE}(hc:GT X c fc)(ha:GE X a f)(hb:GE X b g):GE X (.IfExp c a b pos) (yk fc f g):=
 GE.of (sR hc ha hb) λY H A Z S w S' er so e Q hq=>by
  unfold yk at e;split at e
  ·rename_i S1 h1;show#[A,Z,S,_,S1,er,so,h1,λb H1 #[z0,A1,z1,z2]=>?_]
   subst z0;rw[Hk rfl];exact#[A1,Z,S1,w,S',er.mono z1,z2,e,λb H' q=>hq b H' (q.after z1)]
  ·rename_i S1 h1;show#[A,Z,S,_,S1,er,so,h1,λb H1 #[z0,A1,z1,z2]=>?_]
   subst z0;rw[Hu Hh];exact#[A1,Z,S1,w,S',er.mono z1,z2,e,λb H' q=>hq b H' (q.after z1)]
  ·cases e
abbrev fM:FA:=λ_ S=>ba ([],S)
abbrev cG (f:FE)(g:FA):FA:=λZ S=>match f Z S with
 | some (w,S1)=>match g Z S1 with
  | some (ws,S2)=>ba (w::ws,S2)
  | none=>gV
 | none=>gV
def Bu:GA X [] fM:=GA.of tf λY H A Z S ws S' er so e Q hq=>by cases e; exact hq _ _ #[A,.refl,so,.nil]
def ym {e:Hi}{es:GK Hi}{f:FE}{g:FA}(h:GE X e f)(h2:GA X es g)(hs:starEach (e::es) X.env=(false,eval e X.env)::starEach es X.env):GA X (e::es) (cG f g):=
 GA.of (kQ h h2 hs) λY H A Z S ws S' er so e Q hq=>by
  unfold cG at e;split at e
  ·rename_i w S1 h1;split at e
   ·rename_i ws2 S2 h2;cases e;show#[A,Z,S,w,S1,er,so,h1,λv H1 #[A1,z1,z2,z3]=>?_]
    show#[A1,Z,S1,ws2,_,er.mono z1,z2,h2,λvs H2 #[A2,y1,y2,y3]=>?_]
    exact hq _ _ #[A2,z1.trans y1,y2,.cons (z3.mono y1) y3]
   ·cases e
  ·cases e
abbrev uI (f:FA):FE:=λZ S=>match f Z S with
 | some (ws,S1)=>oV S1 ws
 | none=>gV
abbrev uJ (f:FA):FE:=λZ S=>match f Z S with
 | some (ws,S1)=>jG S1 ws
 | none=>gV
def uK {es:GK Hi}{k:GX}{pos:Jt}{f:FA}(h:GA X es f):GE X (.Tuple es k pos) (uI f):=
 GE.of (AV h) λY H A Z S w S' er so e Q hq=>by
  unfold uI at e;split at e
  ·rename_i ws S1 h1;obtain⟨hl,rfl,rfl⟩:=p4 e;show#[A,Z,S,ws,_,er,so,h1,λvs H1 #[A1,z1,z2,z3]=>#[by rw[<- z3.length]; exact hl,λp hp=>?_]]
   exact hq _ _ (EndV.after z1 (.tup z2 z3 hp))
  ·cases e
def uL {es:GK Hi}{pos:Jt}{f:FA}(h:GA X es f):GE X (.List es pos) (uJ f):=
 GE.of (AW h) λY H A Z S w S' er so e Q hq=>by
  unfold uJ at e;split at e
  ·rename_i ws S1 h1;obtain⟨hl,rfl,rfl⟩:=iK e;show#[A,Z,S,ws,_,er,so,h1,λvs H1 #[A1,z1,z2,z3]=>#[by rw[<- z3.length]; exact hl,λp hp=>?_]]
   exact hq _ _ (EndV.after z1 (.lst z2 z3 hp))
  ·cases e
abbrev iC (g:GK W->aa->GR (W×aa))(f:FA):FE:=λZ S=>match f Z S with
 | some (ws,S1)=>g ws S1
 | none=>gV
def LCall.callr {v:GM}{g:GK W->aa->GR (W×aa)}(h:LCall X v g):CallR X v (rCall X g):=by
 intro J s Y H vs us Q I rv ⟨A,S,ws,w,S',so,rl,e,hq⟩;exact aT (h J s Y H A S ws vs us w S' I so rl rv e) λu' s' #[v',H',A',I',r',e1,o1,z1]=>#[v',H',I',r',hq v' H' #[A',e1,o1,z1]]
def j8 {g:GK W->aa->GR (W×aa)}{f:FA}{Y:L2.St}{H:Hp}{A:GK GZ}{Z:Fm}{S:aa}{w:W}{S':aa}(er:EnvRel X.K A H Z Y)(so:StoreOk X.w X.K A H S)(e:iC g f Z S=ba (w,S'))(Q:VK)(hq:∀v H',EndV X.w X.K A H S' w v H'->Q v H') :
  tA X f Y H λvs H1=>rCall X g vs H1 Q:=by
 unfold iC at e;split at e
 ·rename_i ws S1 h1;exact#[A,Z,S,ws,S1,er,so,h1,λvs H1 #[A1,z1,z2,z3]=>#[A1,S1,ws,w,S',z2,z3,e,λv H' q=>hq v H' (q.after z1)]]
 ·cases e
def mY {id:Iw}{x:Ha}{e:Hi}{es:GK Hi}{p pos:Jt}{f:FA}{g:GK W->aa->GR (W×aa)}(hc:LCall X (.builtin id) g)(hg:Gl X x)(hm:X.mg x=gV)(hv:bootBuiltins x=ba (.builtin id))(ha:GA X (e::es) f)
  (hn:x≠"__name__") (hdb:(x==("__debug__" : Ha))=false) (hs:starEach (e::es) X.env=(false,eval e X.env)::starEach es X.env) (hpl:(backTo pos (starEach es X.env)).any (·.1)=false):GE X (.Call (.Name x p) (e::es) [] pos) (iC g f):=
 GE.of (mz hc.callr hg hm hv ha hn hdb hs hpl) λY H A Z S w S' er so e Q hq=>j8 er so e Q hq
def mZ {id:Iw}{x:Ha}{e:Hi}{es:GK Hi}{p pos:Jt}{f:FA}{g:GK W->aa->GR (W×aa)}(hc:LCall X (.type id) g)(hg:Gl X x)(hm:X.mg x=gV)(hv:bootBuiltins x=ba (.type id))(ha:GA X (e::es) f)
  (hn:x≠"__name__") (hdb:(x==("__debug__" : Ha))=false) (hs:starEach (e::es) X.env=(false,eval e X.env)::starEach es X.env) (hpl:(backTo pos (starEach es X.env)).any (·.1)=false):GE X (.Call (.Name x p) (e::es) [] pos) (iC g f):=
 GE.of (rA hc.callr hg hm hv ha hn hdb hs hpl) λY H A Z S w S' er so e Q hq=>j8 er so e Q hq
end
abbrev tyOk (T:Iw)(S:aa):W->Hr
 | .str _=>T == "str"
 | .ref i=>(T == "list" && (eF S i).isSome)||(T == "dict" && (gU S i).isSome)
 | _=>false
abbrev CF (T:Iw)(g:W->GK W->aa->GR (W×aa))(fo:FE)(f:FA):FE:=λZ S=>match fo Z S with
 | some (x,S1)=>if tyOk T S1 x then match f Z S1 with
  | some (ws,S2)=>g x ws S2
  | none=>gV
  else gV
 | none=>gV
abbrev Fx (fa fb:FE):FE:=ye mj fa fb
noncomputable abbrev FO:=Fm->aa->GR (GR G7×aa)
abbrev Bv:FO:=λ_ S=>ba (gV,S)
abbrev qv (f:FE):FO:=λZ S=>match f Z S with
 | some (.int i,S1)=>ba (ba i,S1)
 | _=>gV
abbrev Dz (fa:FE)(fl fh:FO):FE:=λZ S=>match fa Z S with
 | some (x,S1)=>match fl Z S1 with
  | some (lo,S2)=>match fh Z S2 with
   | some (hi,S3)=>oF x lo hi S3
   | none=>gV
  | none=>gV
 | none=>gV
section
variable{X:Cx}
inductive rMeth (X:Cx)(g:W->GK W->aa->GR (W×aa))(a:V)(vs:GK V)(H:Hp)(Q:VK):Prop
 | mk (A:GK GZ) (S:aa) (x:W) (ws:GK W) (w:W) (S':aa) (so:StoreOk X.w X.K A H S) (rx:Rel X.K A H x a) (rl:RelL X.K A H ws vs) (e:g x ws S=ba (w,S')) (q:∀v H',EndV X.w X.K A H S' w v H'->Q v H'):rMeth X g a vs H Q
def LMeth.mtr {id:Iw}{g:W->GK W->aa->GR (W×aa)}(h:LMeth X id g):MtR X id (rMeth X g):=by
 intro J s Y H a vs u us Q I ru rv ⟨A,S,x,ws,w,S',so,rx,rl,e,hq⟩;exact aT (h J s Y H A S x a u ws vs us w S' I so rx ru rl rv e) λu' s' #[v',H',A',I',r',e1,o1,z1]=>#[v',H',I',r',hq v' H' #[A',e1,o1,z1]]
def tyOk.is {J:GK (GZ×ID)}{Y:L2.St}{s:GQ}{A:GK GZ}{H:Hp}{S:aa}{T:Iw}{x:W}{a:V}{v:GM}(I:Inv X J Y H s)(so:StoreOk X.w X.K A H S)(r:Rel X.K A H x a)(rv:RelV a v)(h:tyOk T S x=true) :
  s.TypeIs v T/\∀b,v=.ref b->∃ob,s.heap.get? b=ba ob/\ob.dict=gV:=by
 cases r with
 | str=>exact tF I rv (show Fo X.K T (.str _) H from eq_of_beq h)
 | ref ea=>
  simp only[tyOk,Jr,GV]at h;rcases h with⟨h1,h2⟩|⟨h1,h2⟩
  ·obtain⟨xs,hx⟩:=Ih.mp h2;obtain⟨vs,h3,_⟩:=aX so hx ea;exact tF I rv (show Fo X.K T (.ref _) H from .inl #[eq_of_beq h1,vs,h3])
  ·obtain⟨U,hx⟩:=Ih.mp h2;obtain⟨xs,rd,_⟩:=eJ so hx ea;obtain⟨_,_,_,o,es,ep,q1,q2,q3,q4⟩:=bO I rd;have e:=eq_of_beq h1;subst e;obtain rfl:v=HM _:=rv;exact#[#[o,q1,q2.1],λb e=>by cases e; exact#[o,q1,q2.2.1]]
 | _=>cases h
def nh {o e:Hi}{es:GK Hi}{name:Ha}{apos cpos:Jt}{T id:Iw}{g:W->GK W->aa->GR (W×aa)}{fo:FE}{f:FA}(pa:PlainAttrs T)(slot:Slot T name id)(hty:typeOf (.builtin id)=pure (.type "method_descriptor"))(hm:LMeth X id g)
  (ho:GE X o fo) (ha:GA X (e::es) f) (hbase:attributeBase o name X.env (eval o X.env)=eval o X.env)
  (hfew:((backTo cpos (starEach (e::es) X.env)).all (λx=>!x.1)&&(backToKw cpos (keywordEach [] X.env)).all (λx=>x.1.isSome)
   && decide ((e::es).length+([]:GK N2).length+(if ([]:GK N2).isEmpty then 0 else 1) < 30))=true)
  (hline:(apos.endLine==cpos.line)=true) (hs:starEach (e::es) X.env=(false,eval e X.env)::starEach es X.env) (hplain:(backTo cpos (starEach es X.env)).any (·.1)=false) :
  GE X (.Call (.Attribute o name apos) (e::es) [] cpos) (CF T g fo f):=by
 intro J s Y H Q I ⟨A,Z,S,w,S',er,so,e,hq⟩;unfold CF at e;split at e
 ·rename_i x S1 h1;split at e
  ·rename_i ht;split at e
   ·rename_i ws S2 h2;show wpAny_Call_method_late hbase hfew hline rfl (aT (ho J s Y H (EndV X.w X.K A H S1 x) I #[A,Z,S,_,_,er,so,h1,λ_ _ z=>z]) λv s1 #[a,H1,I1,r1,A1,e1,o1,z1]=>?_)
    obtain⟨t1,t2⟩:=tyOk.is I1 o1 z1 r1 ht;show#[T,id,pa,slot,hty,t1,t2,?_];have hA:=ha cpos J s1 Y H1 (EndA X A1 H1 S2 ws) I1 #[A1,Z,S1,ws,S2,er.mono e1,o1,h2,λ_ _ z=>z]
    rw[hs]at hA ⊢;show Calls.callWith_builtin (by show(false||(backTo cpos (starEach es X.env)).any (·.1))=false; rw[hplain] <;> rfl) (Calls.evalArgs_plain ?_)
    show aT hA λus s2 #[vs,H2,I2,r2,A2,e2,o2,z2]=>?_
    show aT (hm J s2 Y H2 A2 S2 x a v ws vs us w S' I2 o2 (z1.mono e2) r1 z2 r2 e) λu' s' #[v',H',A',I',r',e3,o3,z3]=>?_
    exact#[v',H',I',r',hq v' H' #[A',(e1.trans e2).trans e3,o3,z3]]
   ·cases e
  ·cases e
 ·cases e
def LIx.ixr {g:W->W->aa->GR (W×aa)}(h:LIx X g):IxR X (rOp X g):=by
 intro value slice J s Y H a b u v Q I ru rv ⟨A,S,x,y,w,S',so,rx,ry,e,hq⟩ hs;exact aT (h value slice J s Y H A S x y a b u v w S' I so rx ru ry rv e hs) λu' s' #[v',H',A',I',r',e1,o1,z1]=>#[v',H',I',r',hq v' H' #[A',e1,o1,z1]]
def DA {a b:Hi}{pos:Jt}{fa fb:FE}(hu:X.A.units+10 < cLine)(ha:GE X a fa)(hb:GE X b fb)(hs:kU b):GE X (.Subscript a b pos) (Fx fa fb):=
 GE.of (Dj (Fv hu).ixr ha hb hs) λY H A Z S w S' er so e Q hq=>by
  obtain⟨x,S1,y,S2,h1,h2,h3⟩:=EO e;exact eL er so h1 h2 λa b H2 A2 e2 o2 r1 r2=>#[A2,S2,x,y,w,S',o2,r1,r2,h3,λv H' z=>hq v H' (z.after e2)]
inductive tO (X:Cx)(f:FO)(Y:L2.St)(H:Hp)(Q:GR G7->Hp->Prop):Prop
 | mk (A:GK GZ) (Z:Fm) (S:aa) (k:GR G7) (S':aa) (er:EnvRel X.K A H Z Y) (so:StoreOk X.w X.K A H S) (e:f Z S=ba (k,S')) (q:∀H' A',Ext X.K A H A' H'->StoreOk X.w X.K A' H' S'->Q k H'):tO X f Y H Q
noncomputable abbrev GO (X:Cx)(e:GR Hi)(f:FO):Prop:=PO X e (tO X f)
def yn:GO X gV Bv:=λJ s Y H Q I #[A,Z,S,k,S',er,so,e,hq]=>by
 cases e;exact xy J s Y H Q I (hq H A .refl so)
def yo {e:Hi}{f:FE}(h:GE X e f):GO X (ba e) (qv f):=λJ s Y H Q I #[A,Z,S,k,S',er,so,e,hq]=>by
 unfold qv at e;split at e
 ·rename_i i S1 h1;cases e;show xz h J s Y H Q I #[A,Z,S,_,_,er,so,h1,λv H1 #[A1,z1,z2,z3]=>?_]
  cases z3;exact#[i,rfl,hq H1 A1 z1 z2]
 ·cases e
inductive rSl (X:Cx)(g:W->GR G7->GR G7->aa->GR (W×aa))(a:V)(lo hi:GR G7)(H:Hp)(Q:VK):Prop
 | mk (A:GK GZ) (S:aa) (x w:W) (S':aa) (so:StoreOk X.w X.K A H S) (rx:Rel X.K A H x a) (e:g x lo hi S=ba (w,S')) (q:∀v H',EndV X.w X.K A H S' w v H'->Q v H'):rSl X g a lo hi H Q
def LSl.slr {g:W->GR G7->GR G7->aa->GR (W×aa)}(h:LSl X g):Di X (rSl X g):=by
 intro J s Y H a v vl vu lo hi sl Q I rv hs pl pu ⟨A,S,x,w,S',so,rx,e,hq⟩;obtain⟨T,id,h1,h2,h3⟩:=h J s Y H A S x a v vl vu lo hi sl w S' I so rx rv hs pl pu e;exact#[T,id,h1,h2,aT h3 λu' s' #[v',H',A',I',r',e1,o1,z1]=>#[v',H',I',r',hq v' H' #[A',e1,o1,z1]]]
def DB {a:Hi}{lo hi:GR Hi}{p2 pos:Jt}{fa:FE}{fl fh:FO}(ha:GE X a fa)(hl:GO X lo fl)(hh:GO X hi fh):GE X (.Subscript a (.Slice lo hi gV p2) pos) (Dz fa fl fh):=
 GE.of (tz Gy.slr ha hl hh) λY H A Z S w S' er so e Q hq=>by
  unfold Dz at e;split at e
  ·rename_i x S1 h1;split at e
   ·rename_i l S2 h2;split at e
    ·rename_i h S3 h3;show#[A,Z,S,x,S1,er,so,h1,λv H1 #[A1,z1,z2,z3]=>?_]
     show#[A1,Z,S1,l,S2,er.mono z1,z2,h2,λH2 A2 y1 y2=>?_]
     show#[A2,Z,S2,h,S3,er.mono (z1.trans y1),y2,h3,λH3 A3 x1 x2=>?_]
     exact#[A3,S3,x,w,S',x2,(z3.mono y1).mono x1,e,λv H' q=>hq v H' (q.after ((z1.trans y1).trans x1))]
    ·cases e
   ·cases e
  ·cases e
noncomputable abbrev FF:=GK W->aa->GR (W×aa)
inductive spF (wd:HA)(K:G0)(n:GX)(g:FF)(vs:GK V)(H:Hp)(Q:VK)(E:XK):Prop
 | mk (A:GK GZ) (S:aa) (ws:GK W) (w:W) (S':aa) (so:StoreOk wd K A H S) (rl:RelL K A H ws vs) (hl:ws.length=n) (e:g ws S=ba (w,S')) (q:∀v H',EndV wd K A H S' w v H'->Q v H'):spF wd K n g vs H Q E
abbrev ni (n:GX)(g:FF)(f:FA):FE:=λZ S=>match f Z S with
 | some (ws,S1)=>if ws.length=n then g ws S1 else gV
 | none=>gV
def nj {n:GX}{g:FF}{f:FA}{Y:L2.St}{H:Hp}{A:GK GZ}{Z:Fm}{S:aa}{w:W}{S':aa}{E:XK}(er:EnvRel X.K A H Z Y)(so:StoreOk X.w X.K A H S)(e:ni n g f Z S=ba (w,S'))(Q:VK)(hq:∀v H',EndV X.w X.K A H S' w v H'->Q v H') :
  tm (spF X.w X.K n g) [] E (tA X f) Y H Q:=by
 unfold ni at e;split at e
 ·rename_i ws S1 h1;split at e
  ·rename_i hl;show#[A,Z,S,ws,S1,er,so,h1,λvs H1 #[A1,z1,z2,z3]=>?_]
   change spF X.w X.K n g (vs++[]) H1 Q E;rw[Jq];exact#[A1,S1,ws,w,S',z2,z3,hl,e,λv H' q=>hq v H' (q.after z1)]
  ·cases e
 ·cases e
def Bw {k n:GX}{fa:GZ}{fd:JB}{ps:GK Ha}{g:FF}{x:Ha}{e:Hi}{es:GK Hi}{p pos:Jt}{f:FA}(F:FnOk X.prog X.w X.K X.mg X.base sL k fa fd ps (spF X.w X.K n g))(hr:Room k X.A)(hg:Gl X x)(hm:X.mg x=ba (.ref fa))(hk:Iz X.K (.ref fa)=true)
  (hb:Binds X.K fd ps []) (ha:GA X (e::es) f) (hdb:(x==("__debug__" : Ha))=false) (he:starEach (e::es) X.env=(false,eval e X.env)::starEach es X.env) (hpl:(backTo pos (starEach es X.env)).any (·.1)=false) :
  GE X (.Call (.Name x p) (e::es) [] pos) (ni n g f):=
 GE.of (xv F hr hg hm hk hb .nil zN ha hdb he hpl) λY H A Z S w S' er so e Q hq=>nj er so e Q hq
def yp {k n:GX}{fa:GZ}{fd:JB}{ps:GK Ha}{g:FF}{x:Ha}{p pos:Jt}(F:FnOk X.prog X.w X.K X.mg X.base sL k fa fd ps (spF X.w X.K n g))(hr:Room k X.A)(hg:Gl X x)(hm:X.mg x=ba (.ref fa))(hk:Iz X.K (.ref fa)=true)
  (hb:Binds X.K fd ps []) (hdb:(x==("__debug__" : Ha))=false):GE X (.Call (.Name x p) [] [] pos) (ni n g fM):=
 GE.of (tt F hr hg hm hk hb .nil zN hdb) λY H A Z S w S' er so e Q hq=>by
  obtain⟨A1,S1,ws,w1,S1',a1,a2,a3,a4,a5⟩:=nj (f:=fM) (E:=E0) er so e Q hq |> λ#[A,Z,S,ws,S',b1,b2,b3,b4]=>b4 [] H (by cases b3; exact#[A,.refl,b2,.nil])
  exact#[A1,S1,ws,w1,S1',a1,a2,a3,a4,a5]
def yq:GSs X [] (λZ S=>ba (.nx Z,S)):=GSs.of xk λY H A Z S o S' er so e D hd=>by cases e; exact hd.nx _ _ #[Z,A,rfl,.refl,so,er]
abbrev yr (f g:FS):FS:=λZ S=>match f Z S with
 | some (.nx Z',S1)=>g Z' S1
 | some (.rt w,S1)=>ba (.rt w,S1)
 | some (.bk Z',S1)=>ba (.bk Z',S1)
 | some (.ct Z',S1)=>ba (.ct Z',S1)
 | none=>gV
def uM {st:JO}{sts:GK JO}{f g:FS}(h:GS X st f)(h2:GSs X sts g):GSs X (st::sts) (yr f g):=GSs.of (sT h h2) λY H A Z S o S' er so e D hd=>by
 unfold yr at e;split at e
 ·rename_i Z1 S1 h1;show#[A,Z,S,_,_,er,so,h1,#[λY' H' #[Z',A',e1,e2,e3,e4]=>?_,λv H' #[w,A',e1,_,_,_]=>(by cases e1),λv H' #[w,A',e1,_,_,_]=>(by cases e1),λv H' #[w,A',e1,_,_,_]=>(by cases e1)]]
  cases e1;exact#[A',_,S1,o,S',e4,e3,e,(EndS.after e2).trans hd]
 ·rename_i w S1 h1;cases e;exact#[A,Z,S,_,_,er,so,h1,#[λY' H' #[w,A',e1,_,_,_]=>(by cases e1),hd.rt,hd.bk,hd.ct]]
 ·rename_i w S1 h1;cases e;exact#[A,Z,S,_,_,er,so,h1,#[λY' H' #[w,A',e1,_,_,_]=>(by cases e1),hd.rt,hd.bk,hd.ct]]
 ·rename_i w S1 h1;cases e;exact#[A,Z,S,_,_,er,so,h1,#[λY' H' #[w,A',e1,_,_,_]=>(by cases e1),hd.rt,hd.bk,hd.ct]]
 ·cases e
abbrev yt (f:FE):FS:=λZ S=>match f Z S with
 | some (_,S1)=>ba (.nx Z,S1)
 | none=>gV
def DC {e:Hi}{pos:Jt}{f:FE}(h:GE X e f)(hs:swapsWith e gV pos.line X.env=pure false):GS X (.Expr e pos) (yt f):=GS.of (xm h hs) λY H A Z S o S' er so e D hd=>by
 unfold yt at e;split at e
 ·rename_i w S1 h1;cases e;exact#[A,Z,S,w,_,er,so,h1,λv H1 #[A1,z1,z2,z3]=>hd.nx _ _ #[Z,A1,rfl,z1,z2,er.mono z1]]
 ·cases e
abbrev uN:FS:=λZ S=>ba (.nx Z,S)
def Bx {x:Ha}{j:GX}{pos pos':Jt}:GS X (.Expr (.Constant (.str x) j pos) pos') uN:=GS.of AA λY H A Z S o S' er so e D hd=>by cases e; exact hd.nx _ _ #[Z,A,rfl,.refl,so,er]
def yu {pos:Jt}:GS X (.Pass pos) uN:=GS.of xl λY H A Z S o S' er so e D hd=>by cases e; exact hd.nx _ _ #[Z,A,rfl,.refl,so,er]
def uO {pos:Jt}:GS X (.Break pos) (λZ S=>ba (.bk Z,S)):=GS.of sU λY H A Z S o S' er so e D hd=>by cases e; exact hd.bk _ _ #[Z,A,rfl,.refl,so,er]
def yv {pos:Jt}:GS X (.Continue pos) (λZ S=>ba (.ct Z,S)):=GS.of mr λY H A Z S o S' er so e D hd=>by cases e; exact hd.ct _ _ #[Z,A,rfl,.refl,so,er]
abbrev yw (f:FE):FS:=λZ S=>match f Z S with
 | some (w,S1)=>ba (.rt w,S1)
 | none=>gV
def By {e:Hi}{pos:Jt}{f:FE}(h:GE X e f):GS X (.Return (ba e) pos) (yw f):=GS.of (AB h) λY H A Z S o S' er so e D hd=>by
 unfold yw at e;split at e
 ·rename_i w S1 h1;cases e;exact#[A,Z,S,w,_,er,so,h1,λv H1 #[A1,z1,z2,z3]=>hd.rt _ _ #[w,A1,rfl,z1,z2,z3]]
 ·cases e
def yy {pos:Jt}:GS X (.Return gV pos) (λZ S=>ba (.rt .non,S)):=GS.of xn λY H A Z S o S' er so e D hd=>by cases e; exact hd.rt _ _ #[_,A,rfl,.refl,so,.non]
abbrev yz (c:FT)(f g:FS):FS:=λZ S=>match c Z S with
 | some (true,S1)=>f Z S1
 | some (false,S1)=>g Z S1
 | none=>gV
def DD {c:Hi}{a b:GK JO}{pos:Jt}{fc:FT}{f g:FS}(hc:GT X c fc)(ha:GSs X a f)(hb:GSs X b g):GS X (.If c a b pos) (yz fc f g):=GS.of (CV hc ha hb) λY H A Z S o S' er so e D hd=>by
 unfold yz at e;split at e
 ·rename_i S1 h1;show#[A,Z,S,_,S1,er,so,h1,λb H1 #[z0,A1,z1,z2]=>?_]
  subst z0;rw[Hk rfl];exact#[A1,Z,S1,o,S',er.mono z1,z2,e,(EndS.after z1).trans hd]
 ·rename_i S1 h1;show#[A,Z,S,_,S1,er,so,h1,λb H1 #[z0,A1,z1,z2]=>?_]
  subst z0;rw[Hu Hh];exact#[A1,Z,S1,o,S',er.mono z1,z2,e,(EndS.after z1).trans hd]
 ·cases e
noncomputable abbrev FG:=W->Fm->aa->GR (Fm×aa)
inductive tG (X:Cx)(f:FG)(v:V)(Y:L2.St)(H:Hp)(Q:L2.St->Hp->Prop):Prop
 | mk (A:GK GZ) (Z:Fm) (S:aa) (w:W) (Z':Fm) (S':aa) (er:EnvRel X.K A H Z Y) (so:StoreOk X.w X.K A H S) (r:Rel X.K A H w v) (e:f w Z S=ba (Z',S')) (q:∀Y' H' A',Ext X.K A H A' H'->StoreOk X.w X.K A' H' S'->EnvRel X.K A' H' Z' Y'->Q Y' H'):tG X f v Y H Q
noncomputable abbrev GG (X:Cx)(tg:Hi)(f:FG):Prop:=PG X tg (tG X f)
abbrev zR (i:GX):FG:=λw Z S=>ba (Z.set i (ba w),S)
def qw {i:GX}{x:Ha}{pos:Jt}(hN:X.N.Nodup)(hi:X.N[i]?=ba x)(hx:xf X.env.scope x)(hf:X.fn x=true\/X.env.scope.names.lookup x=ba .local):GG X (.Name x pos) (zR i):=by
 intro J s Y H v u Q I r ⟨A,Z,S,w,Z',S',er,so,rw',e,hq⟩;cases e;exact pT hN hi hx hf J s Y H v u Q I r (hq _ _ A .refl so (er.set rw' i))
abbrev dh:GK GX->GK W->Fm->GR Fm
 | [],[],Z=>ba Z
 | i::is,w::ws,Z=>dh is ws (Z.set i (ba w))
 | _,_,_=>gV
abbrev CG (is:GK GX):FG:=λw Z S=>match w with
 | .tup ws=>(dh is ws Z).map λZ'=>(Z',S)
 | _=>gV
def sd:∀ {ts:GK Hi} {is:GK GX},(∀x∈ts,∃y p,x=.Name y p)->LJ (λ(t:Hi) (i:GX)=>∃x p,t=MA x p/\X.N[i]?=ba x/\xf X.env.scope x/\(X.fn x=true\/X.env.scope.names.lookup x=ba .local)) ts is->X.N.Nodup->
  CW X ts (λvs Y H Q=>∃A Z ws Z' S,EnvRel X.K A H Z Y/\StoreOk X.w X.K A H S/\RelL X.K A H ws vs/\dh is ws Z=ba Z'/\∀Y',EnvRel X.K A H Z' Y'->Q Y' H):=by
 intro ts
 induction ts with
 | nil=>
  intro is _ h hN;cases h;intro J s Y H vs us Q I r ⟨A,Z,ws,Z',S,er,so,rl,e,hq⟩;cases rl with
  | nil=>cases e; exact xo J s Y H [] us Q I r #[rfl,hq _ er]
  | cons _ _=>cases e
 | cons t ts ih=>
  intro is hs h hN;cases h with
  | cons h1 h2=>
   obtain⟨x,p,rfl,hi,hl,hf⟩:=h1;have:=ih (λy hy=>hs y (HS _ hy)) h2 hN
   intro J s Y H vs us Q I r ⟨A,Z,ws,Z',S,er,so,rl,e,hq⟩;cases rl with
   | nil=>cases e
   | cons r1 r2=>
    show sV (pT hN hi hl hf) this rfl J s Y H _ us Q I r #[_,_,rfl,?_];exact#[A,_,_,Z',S,er.set r1 _,so,r2,e,hq]
def Bz {ts:GK Hi}{is:GK GX}{k:GX}{pos:Jt}(hc:X.calm=true)(hs:∀x∈ts,∃y p,x=.Name y p)(h:LJ (λ(t:Hi) (i:GX)=>∃x p,t=MA x p/\X.N[i]?=ba x/\xf X.env.scope x/\(X.fn x=true\/X.env.scope.names.lookup x=ba .local)) ts is)(hN:X.N.Nodup)
  (hn:(assignEach ts X.env).length=ts.length) (hst:(assignEach ts X.env).findIdx? (·.1)=gV):GG X (.Tuple ts k pos) (CG is):=by
 intro J s Y H v u Q I r ⟨A,Z,S,w,Z',S',er,so,rw',e,hq⟩;unfold CG at e;split at e
 ·rw[GP]at e;obtain⟨Z1,e1,e2⟩:=e;cases e2;cases rw' with
  | tup h1 r1=>
   have hl:∀(is:GK GX) (ws:GK W) (Z Z':Fm),dh is ws Z=ba Z'->is.length=ws.length:=by
    intro is
    induction is with
    | nil=>intro ws Z Z' e; cases ws <;> first|rfl|cases e
    | cons i is ih=>intro ws Z Z' e; cases ws <;> first|cases e|(simp; exact ih _ _ _ e)
   exact AF hc (sd hs h hN) hn hst J s Y H _ u Q I r #[_,_,rfl,h1,by rw[<- r1.length,<- hl _ _ _ _ e1,<- Lr h],A,Z,_,_,_,er,so,r1,e1,λY' z=>hq _ _ A .refl so z]
 ·cases e
abbrev yA (fo fi:FE):FG:=λw Z S=>match fo Z S with
 | some (o,S1)=>match fi Z S1 with
  | some (i,S2)=>match gk o i w S2 with
   | some S3=>ba (Z,S3)
   | none=>gV
  | none=>gV
 | none=>gV
inductive rSet (X:Cx)(g:W->W->W->aa->GR aa)(ao ai av:V)(H:Hp)(Q:Hp->Prop):Prop
 | mk (A:GK GZ) (S:aa) (o i w:W) (S':aa) (so:StoreOk X.w X.K A H S) (r1:Rel X.K A H o ao) (r2:Rel X.K A H i ai) (r3:Rel X.K A H w av) (e:g o i w S=ba S') (q:∀H' A',Ext X.K A H A' H'->StoreOk X.w X.K A' H' S'->Q H'):rSet X g ao ai av H Q
def LSet.pset {g:W->W->W->aa->GR aa}(h:LSet X g):AE X (rSet X g):=by
 intro J s Y H ao ai av uo ui uv Q I ro ri rv ⟨A,S,o,i,w,S',so,r1,r2,r3,e,hq⟩;exact aT (h J s Y H A S o i w ao ai av uo ui uv S' I so r1 ro r2 ri r3 rv e) λ_ s' #[H',A',I',e1,o1]=>#[H',I',hq H' A' e1 o1]
def BA {o i:Hi}{pos:Jt}{fo fi:FE}(hu:X.A.units+10 < cLine)(ho:GE X o fo)(hi:GE X i fi)(ha:∀v,assign (.Subscript o i pos) X.env v=(do
   let ov <- holding [v] (eval o X.env)
   let iv <- holding [v,ov] (eval i X.env)
   standAt pos
   holding [v,ov,iv] (setItem ov iv v)
   release [v,ov,iv] [])):GG X (.Subscript o i pos) (yA fo fi):=by
 intro J s Y H v u Q I r ⟨A,Z,S,w,Z',S',er,so,rw',e,hq⟩;unfold yA at e;split at e
 ·rename_i o' S1 h1;split at e
  ·rename_i i' S2 h2;split at e
   ·rename_i S3 h3;cases e;show AG ho hi (Dt hu).pset ha J s Y H v u Q I r ?_;show#[A,Z,S,o',S1,er,so,h1,λa H1 #[A1,e1,o1,r1]=>?_]
    show#[A1,Z,S1,i',S2,er.mono e1,o1,h2,λb H2 #[A2,e2,o2,r2]=>?_]
    exact#[A2,S2,o',i',w,_,o2,r1.mono e2,r2,rw'.mono (e1.trans e2),h3,λH' A' z1 z2=>hq Y H' A' ((e1.trans e2).trans z1) z2 (er.mono ((e1.trans e2).trans z1))]
   ·cases e
  ·cases e
 ·cases e
abbrev jg (f:FE)(g:FG):FS:=λZ S=>match f Z S with
 | some (w,S1)=>match g w Z S1 with
  | some (Z',S2)=>ba (.nx Z',S2)
  | none=>gV
 | none=>gV
def pb {tg e:Hi}{pos:Jt}{f:FE}{g:FG}(h:GE X e f)(hg:GG X tg g)(hs:swapsWithSole [tg] e pos.line X.env=pure false)(hw:swappedStores [tg] e X.env=pure gV)(h1:(assignEach [tg] X.env).map (·.2)=[assign tg X.env]) :
  GS X (.Assign [tg] e pos) (jg f g):=GS.of (AH h hg hs hw h1) λY H A Z S o S' er so e D hd=>by
 unfold jg at e;split at e
 ·rename_i w S1 h1;split at e
  ·rename_i Z1 S2 h2;cases e;show#[A,Z,S,w,S1,er,so,h1,λv H1 #[A1,z1,z2,z3]=>?_]
   exact#[A1,Z,S1,w,Z1,_,er.mono z1,z2,z3,h2,λY' H' A' y1 y2 y3=>hd.nx _ _ #[Z1,A',rfl,z1.trans y1,y2,y3]]
  ·cases e
 ·cases e
abbrev yB (i j:GX)(f:FA):FS:=λZ S=>match f Z S with
 | some ([x,y],S1)=>ba (.nx ((Z.set i (ba x)).set j (ba y)),S1)
 | _=>gV
def BB {i j:GX}{x y:Ha}{a b:Hi}{f:FA}{px py pt pos:Jt}{kt k2:GX}{pt2:Jt}(hc:X.calm=true)(hN:X.N.Nodup)(hi:X.N[i]?=ba x)(hj:X.N[j]?=ba y)(hij:i≠j)
  (hx:X.env.scope.names.lookup x=ba .local) (hy:X.env.scope.names.lookup y=ba .local) (ha:GA X [a,b] f)
  (hw:swappedStores [.Tuple [.Name x px,.Name y py] kt pt] (.Tuple [a,b] k2 pt2) X.env=pure (ba [x,y]))
  (hs:swapsWithSole [.Tuple [.Name x px,.Name y py] kt pt] (.Tuple [a,b] k2 pt2) pos.line X.env=pure false) :
  GS X (.Assign [.Tuple [.Name x px,.Name y py] kt pt] (.Tuple [a,b] k2 pt2) pos) (yB i j f):=GS.of (AI hc hN hi hj hij hx hy ha hw hs) λY H A Z S o S' er so e D hd=>by
 unfold yB at e;split at e
 ·rename_i x y S1 h1;cases e;show#[A,Z,S,_,_,er,so,h1,λvs H1 #[A1,z1,z2,z3]=>?_]
  cases z3 with
  | cons r1 t=>
   cases t with
   | cons r2 t=>
    cases t;exact#[_,_,rfl,hd.nx _ _ #[_,A1,rfl,z1,z2,((er.mono z1).set r1 i).set r2 j]]
 ·cases e
abbrev lH (c:FT)(b:FS):GX->FS
 | 0,_,_=>gV
 | n+1,Z,S=>match c Z S with
  | some (true,S1)=>match b Z S1 with
   | some (.nx Z',S2)=>lH c b n Z' S2
   | some (.ct Z',S2)=>lH c b n Z' S2
   | some (.bk Z',S2)=>ba (.nx Z',S2)
   | some (.rt w,S2)=>ba (.rt w,S2)
   | none=>gV
  | some (false,S1)=>ba (.nx Z,S1)
  | none=>gV
def uP {c:Hi}{body:GK JO}{pos:Jt}{fc:FT}{fb:FS}(n:GX)(hp:Mz (model X.prog X.w) X.A X.env X.xe)(hc:GT X c fc)(hb:GSs X body fb):GS X (.While c body [] pos) (lH fc fb n):=GS.of (sW hp hc hb) λY H A Z S o S' er so e D hd=>by
 show#[λm Y1 H1=>∃A1 Z1 S1,Ext X.K A H A1 H1/\EnvRel X.K A1 H1 Z1 Y1/\StoreOk X.w X.K A1 H1 S1/\lH fc fb m Z1 S1=ba (o,S'),#[n,A,Z,S,.refl,er,so,e],?_]
 rintro m Y1 H1 ⟨A1,Z1,S1,e1,er1,so1,w1⟩;cases m with
 | zero=>cases w1
 | succ m=>
  dsimp only[lH]at w1;split at w1
  ·rename_i S2 h1;show#[A1,Z1,S1,_,S2,er1,so1,h1,λb H2 #[z0,A2,z1,z2]=>?_]
   subst z0;rw[Hk rfl];show#[λY3 H3=>∃A3 Z3 S3,Ext X.K A H A3 H3/\EnvRel X.K A3 H3 Z3 Y3/\StoreOk X.w X.K A3 H3 S3/\lH fc fb m Z3 S3=ba (o,S'),λY' H' h=>#[m,Kc _,h],?_]
   split at w1
   ·rename_i Z3 S3 h3;show#[A2,Z1,S2,_,S3,er1.mono z1,z2,h3,#[λY' H' #[Z',A',y0,y1,y2,y3]=>?_,λv H' #[w,A',y0,_,_,_]=>(by cases y0),λv H' #[w,A',y0,_,_,_]=>(by cases y0),λv H' #[w,A',y0,_,_,_]=>(by cases y0)]]
    cases y0;exact#[A',_,S3,(e1.trans z1).trans y1,y3,y2,w1]
   ·rename_i Z3 S3 h3;show#[A2,Z1,S2,_,S3,er1.mono z1,z2,h3,#[λv H' #[w,A',y0,_,_,_]=>(by cases y0),λv H' #[w,A',y0,_,_,_]=>(by cases y0),λv H' #[w,A',y0,_,_,_]=>(by cases y0),λY' H' #[Z',A',y0,y1,y2,y3]=>?_]]
    cases y0;exact#[A',_,S3,(e1.trans z1).trans y1,y3,y2,w1]
   ·rename_i Z3 S3 h3;cases w1;show#[A2,Z1,S2,_,_,er1.mono z1,z2,h3,#[λv H' #[w,A',y0,_,_,_]=>(by cases y0),λv H' #[w,A',y0,_,_,_]=>(by cases y0),λY' H' #[Z',A',y0,y1,y2,y3]=>?_,λv H' #[w,A',y0,_,_,_]=>(by cases y0)]]
    cases y0;exact hd.nx _ _ #[_,A',rfl,(e1.trans z1).trans y1,y2,y3]
   ·rename_i w3 S3 h3;cases w1;show#[A2,Z1,S2,_,_,er1.mono z1,z2,h3,#[λv H' #[w,A',y0,_,_,_]=>(by cases y0),λv H' #[w,A',y0,y1,y2,y3]=>?_,λv H' #[w,A',y0,_,_,_]=>(by cases y0),λv H' #[w,A',y0,_,_,_]=>(by cases y0)]]
    cases y0;exact hd.rt _ _ #[_,A',rfl,(e1.trans z1).trans y1,y2,y3]
   ·cases w1
  ·rename_i S2 h1;cases w1;show#[A1,Z1,S1,_,_,er1,so1,h1,λb H2 #[z0,A2,z1,z2]=>?_]
   subst z0;rw[Hu Hh];exact hd.nx _ _ #[_,A2,rfl,e1.trans z1,z2,er1.mono z1]
  ·cases w1
end
inductive MI where
 | its (ws:GK W)
 | live (r:GX)
 | zl (r q:GX)
abbrev gp (xs ys:GK W):GK W:=Hd (λx y=>.tup [x,y]) xs ys
abbrev MI.at (S:aa)(i:GX):MI->GR (GR W)
 | .its ws=>ba ws[i]?
 | .live r=>match eF S r with
  | some xs=>ba xs[i]?
  | none=>gV
 | .zl r q=>match eF S r,eF S q with
  | some xs,ba ys=>ba (gp xs ys)[i]?
  | _,_=>gV
abbrev MI.len (S:aa):MI->GR GX
 | .its ws=>ba ws.length
 | .live r=>(eF S r).map (·.length)
 | .zl r q=>match eF S r,eF S q with
  | some xs,ba ys=>ba (gp xs ys).length
  | _,_=>gV
noncomputable abbrev FI:=Fm->aa->GR (MI×aa)
structure MIt (wd:HA)(K:G0)(mi:MI)(td:It)(A0:GK GZ)(H0:Hp):Prop where
 go:∀A H S i w,Ext K A0 H0 A H->StoreOk wd K A H S->mi.at S i=ba (ba w)->td.go i H/\∀x H',td.yld i H x H'->Ext K A H A H'/\StoreOk wd K A H' S/\Rel K A H' w x
 stop:∀A H S i,Ext K A0 H0 A H->StoreOk wd K A H S->mi.at S i=ba gV->td.stop i H
inductive tI (X:Cx)(f:FI)(Y:L2.St)(H:Hp)(R:It->Hp->Prop):Prop
 | mk (A:GK GZ) (Z:Fm) (S:aa) (mi:MI) (S':aa) (er:EnvRel X.K A H Z Y) (so:StoreOk X.w X.K A H S) (e:f Z S=ba (mi,S')) (q:∀td H' A',Ext X.K A H A' H'->StoreOk X.w X.K A' H' S'->MIt X.w X.K mi td A' H'->R td H'):tI X f Y H R
noncomputable abbrev GI (X:Cx)(tg iter:Hi)(f:FI):Prop:=PI X tg iter (tI X f)
abbrev yC (f:FE):FI:=λZ S=>match f Z S with
 | some (.tup ws,S1)=>ba (.its ws,S1)
 | some (.ref r,S1)=>match eF S1 r with
  | some _=>ba (.live r,S1)
  | none=>gV
 | _=>gV
abbrev cj (lo:G7)(n:GX):GK W:=(HJ n).map λ(k:GX)=>.int (lo+(k:G7))
abbrev pc (f:FA):FI:=λZ S=>match f Z S with
 | some ([.int j],S1)=>if -(2 ^ 62)<=j/\j < 2 ^ 62 then ba (.its (cj 0 j.toNat),S1)else gV
 | _=>gV
abbrev iRng2 (f:FA):FI:=λZ S=>match f Z S with
 | some ([.int i,.int j],S1)=>if -(2 ^ 62)<=i/\i < 2 ^ 62/\-(2 ^ 62)<=j/\j < 2 ^ 62 then ba (.its (cj i (j - i).toNat),S1)else gV
 | _=>gV
abbrev eN (mi:MI)(g:FG)(b:FS):GX->GX->FS
 | 0,i,Z,S=>match mi.at S i with
  | some gV=>ba (.nx Z,S)
  | _=>gV
 | n+1,i,Z,S=>match mi.at S i with
  | some (ba w)=>match g w Z S with
   | some (Z1,S1)=>match b Z1 S1 with
    | some (.nx Z2,S2)=>eN mi g b n (i+1) Z2 S2
    | some (.ct Z2,S2)=>eN mi g b n (i+1) Z2 S2
    | some (.bk Z2,S2)=>ba (.nx Z2,S2)
    | some (.rt w,S2)=>ba (.rt w,S2)
    | none=>gV
   | none=>gV
  | _=>gV
abbrev uQ (fi:FI)(g:FG)(b:FS):FS:=λZ S=>match fi Z S with
 | some (mi,S1)=>match mi.len S1 with
  | some n=>eN mi g b n 0 Z S1
  | none=>gV
 | none=>gV
section
variable{X:Cx}
def yD {A:GK GZ}{H:Hp}{ws:GK W}{a:GZ}{vs:GK V}(h:SqT X.K H a vs)(r:RelL X.K A H ws vs):MIt X.w X.K (.its ws) (E6 X.K a) A H:=by
 show#[λA' H' S i w e so hi=>?_,λA' H' S i e so hi=>?_]
 ·simp only[MI.at,Hm]at hi;obtain⟨v,h1,h2⟩:=(r.mono e).get hi;show#[#[vs,v,e.tp _ _ h,h1],λx H2 #[z1,z2]=>?_]
  subst z1;have:=z2 vs (e.tp _ _ h);rw[h1]at this; cases this
  exact#[.refl,so,h2]
 ·simp only[MI.at,Hm]at hi;show#[vs,e.tp _ _ h,?_];rw[<- r.length];exact Iv.mp hi
def yE {A:GK GZ}{H:Hp}{r:GX}{a:GZ}(ea:A[r]?=ba a):MIt X.w X.K (.live r) (E5 X.K a) A H:=by
 show#[λA' H' S i w e so hi=>?_,λA' H' S i e so hi=>?_]
 ·simp only[MI.at]at hi;split at hi
  ·rename_i xs hx;simp only[Hm]at hi;obtain⟨vs,h1,r1⟩:=aX so hx (e.ad _ _ ea);obtain⟨v,h2,h3⟩:=r1.get hi;show#[#[vs,v,h1,h2],λx H2 #[z1,z2]=>?_]
   subst z1;have:=z2 vs h1;rw[h2]at this; cases this
   exact#[.refl,so,h3]
  ·cases hi
 ·simp only[MI.at]at hi;split at hi
  ·rename_i xs hx;simp only[Hm]at hi;obtain⟨vs,h1,r1⟩:=aX so hx (e.ad _ _ ea);show#[vs,h1,?_];rw[<- r1.length];exact Iv.mp hi
  ·cases hi
def di {lo:G7}{n i:GX}:(cj lo n)[i]?=if i < n then ba (.int (lo+i))else gV:=by
 unfold cj;rw[G1]
 by_cases h:i < n
 ·rw[Hk h,Kk h]; rfl
 ·rw[Hu h,Iv.mpr (by simp; omega)]; rfl
def qx {A:GK GZ}{H:Hp}{lo:G7}{n:GX}:MIt X.w X.K (.its (cj lo n)) (C3 lo n) A H:=by
 show#[λA' H' S i w e so hi=>?_,λA' H' S i e so hi=>?_]
 ·simp only[MI.at,Hm]at hi;rw[di]at hi;split at hi
  ·cases hi;show#[by assumption,λx H2 #[z1,z2]=>?_]
   subst z1 z2;exact#[.refl,so,.int]
  ·cases hi
 ·simp only[MI.at,Hm]at hi;rw[di]at hi;split at hi
  ·cases hi
  ·change n<=i;omega
def nk {tg:Hi}{J:GK (GZ×ID)}{Y:L2.St}{H1:Hp}{s1:GQ}{R:It->Hp->Prop}{a:GZ}{xs:GK V}{v:GM}(I1:Inv X J Y H1 s1)(r1:RelV (.ref a) v)(hq:SqL X.K H1 a xs)(q:R (E5 X.K a) H1) :
  wpAny (model X.prog X.w) X.A (pyIter v) (C0 X J Y tg R) X.xe s1:=by
 cases r1;obtain⟨its,rv,p,hz⟩:=I1.list hq;show J5 p.isList ?_;show#[s1.heap.objs.size,[s1.heap.objs.size],_,_,H1,rfl,I1.kept (t':=s1.toks) λb o e=>GN _ e,rj a _,#[_,G4 _ rfl,rfl,rfl],λb hb=>?_,q]
 have e:b=s1.heap.objs.size:=by simpa using hb
 subst e;exact I1.fpOk (G2 _) (I1.hok.fresh (G2 _))
def pd {tg:Hi}{J:GK (GZ×ID)}{Y:L2.St}{H1:Hp}{s1:GQ}{R:It->Hp->Prop}{a:GZ}{xs:GK V}{v:GM}(I1:Inv X J Y H1 s1)(r1:RelV (.ref a) v)(hq:SqT X.K H1 a xs)(q:R (E6 X.K a) H1) :
  wpAny (model X.prog X.w) X.A (pyIter v) (C0 X J Y tg R) X.xe s1:=by
 cases r1;obtain⟨its,rv,p,hz⟩:=I1.tuple hq;show M1 (show s1.heap.IsTuple a its.toArray from p) ?_
 show#[s1.heap.objs.size,[s1.heap.objs.size],_,_,H1,rfl,I1.kept (t':=s1.toks) λb o e=>GN _ e,oH a _,#[_,G4 _ rfl,rfl,rfl],λb hb=>?_,q]
 have e:b=s1.heap.objs.size:=by simpa using hb
 subst e;exact I1.fpOk (G2 _) (I1.hok.fresh (G2 _))
def yF {tg a:Hi}{f:FA}{p pos:Jt}(hg:Gl X "range")(hm:X.mg "range" = gV)(ha:GA X [a] f)(hs:starEach [a] X.env=[(false,eval a X.env)]):GI X tg (.Call (.Name "range" p) [a] [] pos) (pc f):=by
 intro J s Y H R I ⟨A,Z,S,mi,S',er,so,e,hq⟩;unfold pc at e;split at e
 ·rename_i j S1 h1;split at e
  ·rename_i hj;cases e;show rm hg hm ha hs J s Y H R I #[A,Z,S,_,_,er,so,h1,λvs H1 #[A1,z1,z2,z3]=>?_]
   cases z3 with
   | cons r1 t=>
    cases t;cases r1;exact#[j,rfl,hj.1,hj.2,hq _ _ A1 z1 z2 qx]
  ·cases e
 ·cases e
def yG {tg a b:Hi}{f:FA}{p pos:Jt}(hg:Gl X "range")(hm:X.mg "range" = gV)(ha:GA X [a,b] f)(hs:starEach [a,b] X.env=[(false,eval a X.env),(false,eval b X.env)])(hs2:starEach [b] X.env=[(false,eval b X.env)]):GI X tg (.Call (.Name "range" p) [a,b] [] pos) (iRng2 f):=by
 intro J s Y H R I ⟨A,Z,S,mi,S',er,so,e,hq⟩;unfold iRng2 at e;split at e
 ·rename_i i j S1 h1;split at e
  ·rename_i hj;cases e;show rn hg hm ha hs hs2 J s Y H R I #[A,Z,S,_,_,er,so,h1,λvs H1 #[A1,z1,z2,z3]=>?_]
   cases z3 with
   | cons r1 t=>
    cases t with
    | cons r2 t=>
     cases t;cases r1;cases r2;exact#[i,j,rfl,hj,hq _ _ A1 z1 z2 qx]
  ·cases e
 ·cases e
def BC {tg l:Hi}{f:FE}(h:GE X l f):GI X tg l (yC f):=by
 intro J s Y H R I ⟨A,Z,S,mi,S',er,so,e,hq⟩;unfold yC at e;split at e
 ·rename_i ws S1 h1;cases e;show aT (h J s Y H (EndV X.w X.K A H _ (.tup ws)) I #[A,Z,S,_,_,er,so,h1,λ_ _ z=>z]) λv s1 #[x,H1,I1,r1,A1,e1,o1,z1]=>?_
  cases z1 with
  | tup hq1 rl=>
   show pd I1 r1 hq1 (hq _ _ A1 e1 o1 (yD hq1 rl))
 ·rename_i r S1 h1;split at e
  ·rename_i ys hy;cases e;show aT (h J s Y H (EndV X.w X.K A H _ (.ref r)) I #[A,Z,S,_,_,er,so,h1,λ_ _ z=>z]) λv s1 #[x,H1,I1,r1,A1,e1,o1,z1]=>?_
   cases z1 with
   | ref ea=>
    obtain⟨vs,hl,_⟩:=aX o1 hy ea;exact nk I1 r1 hl (hq _ _ A1 e1 o1 (yE ea))
  ·cases e
 ·cases e
def BE {tg iter:Hi}{body:GK JO}{pos:Jt}{fi:FI}{g:FG}{fb:FS}(hp:Mz (model X.prog X.w) X.A X.env X.xe)(hc:X.calm=true)(hi:GI X tg iter fi)(hg:GG X tg g)(hb:GSs X body fb)
  (hs:∀x,foldedSetIterable iter X.env x=pure x):GS X (.For tg iter body [] pos) (uQ fi g fb):=GS.of (AK hp hc hi hg hb hs) λY H A Z S o S' er so e D hd=>by
 unfold uQ at e;split at e
 ·rename_i mi S1 h1;split at e
  ·rename_i n hn;show#[A,Z,S,mi,S1,er,so,h1,λtd H1 A1 z1 z2 mit=>?_]
   show#[λi m Y2 H2=>∃A2 Z2 S2,Ext X.K A1 H1 A2 H2/\EnvRel X.K A2 H2 Z2 Y2/\StoreOk X.w X.K A2 H2 S2/\eN mi g fb m i Z2 S2=ba (o,S'),#[n,A1,Z,S1,.refl,er.mono z1,z2,e],?_]
   rintro i m Y2 H2 ⟨A2,Z2,S2,e2,er2,so2,w2⟩;cases m with
   | zero=>
    dsimp only[eN]at w2;split at w2
    ·rename_i hs;cases w2;exact .inl #[mit.stop A2 H2 _ i e2 so2 hs,hd.nx _ _ #[_,A2,rfl,z1.trans e2,so2,er2]]
    ·cases w2
   | succ m=>
    dsimp only[eN]at w2;split at w2
    ·rename_i w hw;obtain⟨go,yl⟩:=mit.go A2 H2 S2 i w e2 so2 hw;show .inr #[go,λY3 H3=>∃A3 Z3 S3,Ext X.K A1 H1 A3 H3/\EnvRel X.K A3 H3 Z3 Y3/\StoreOk X.w X.K A3 H3 S3/\eN mi g fb m (i+1) Z3 S3=ba (o,S'),λY' H' h=>#[m,Kc _,h],λx H3 hy=>?_]
     obtain⟨x1,x2,x3⟩:=yl x H3 hy;split at w2
     ·rename_i Z3 S3 h3;show#[A2,Z2,S2,w,Z3,S3,er2.mono x1,x2,x3,h3,λY4 H4 A4 y1 y2 y3=>?_]
      have ex:Ext X.K A1 H1 A4 H4:=(e2.trans x1).trans y1;split at w2
      ·rename_i Z5 S5 h5;show#[A4,Z3,S3,_,S5,y3,y2,h5,#[λY' H' #[Z',A',u0,u1,u2,u3]=>?_,λv H' #[w,A',y0,_,_,_]=>(by cases y0),λv H' #[w,A',y0,_,_,_]=>(by cases y0),λv H' #[w,A',y0,_,_,_]=>(by cases y0)]]
       cases u0;exact#[A',_,S5,ex.trans u1,u3,u2,w2]
      ·rename_i Z5 S5 h5;show#[A4,Z3,S3,_,S5,y3,y2,h5,#[λv H' #[w,A',y0,_,_,_]=>(by cases y0),λv H' #[w,A',y0,_,_,_]=>(by cases y0),λv H' #[w,A',y0,_,_,_]=>(by cases y0),λY' H' #[Z',A',u0,u1,u2,u3]=>?_]]
       cases u0;exact#[A',_,S5,ex.trans u1,u3,u2,w2]
      ·rename_i Z5 S5 h5;cases w2;show#[A4,Z3,S3,_,_,y3,y2,h5,#[λv H' #[w,A',y0,_,_,_]=>(by cases y0),λv H' #[w,A',y0,_,_,_]=>(by cases y0),λY' H' #[Z',A',u0,u1,u2,u3]=>?_,λv H' #[w,A',y0,_,_,_]=>(by cases y0)]]
       cases u0;exact hd.nx _ _ #[_,A',rfl,(z1.trans ex).trans u1,u2,u3]
      ·rename_i w5 S5 h5;cases w2;show#[A4,Z3,S3,_,_,y3,y2,h5,#[λv H' #[w,A',y0,_,_,_]=>(by cases y0),λv H' #[w,A',u0,u1,u2,u3]=>?_,λv H' #[w,A',y0,_,_,_]=>(by cases y0),λv H' #[w,A',y0,_,_,_]=>(by cases y0)]]
       cases u0;exact hd.rt _ _ #[_,A',rfl,(z1.trans ex).trans u1,u2,u3]
      ·cases w2
     ·cases w2
    ·cases w2
  ·cases e
 ·cases e
end
section
variable{prog:Hs}{w:HA}{B:Hy}{E:GM->GQ->Prop}{s:GQ}
def yH {d:GZ}{es:HD Jm}{ep:GX}{Q:GM->GQ->Prop}(hd:(d==sysModules)=false)(hm:RawD d es ep s.heap)(hfit:(es.size:G7) < 2 ^ 63)
  (h:Q (.int es.size (s.toks+1)) { s with toks:=s.toks+1+1 }):wpAny (model prog w) B (call (.builtin "len") [.ref d]) Q E s:=by
 have hT:=hm.type;obtain⟨o,ho,hc,hdat⟩:=id hm;show Lk kind_len plain_len entry_len (args_len1 _) ?_;unfold KS.«len»;show GL (m:=oneArg "len" _) (GY ?_);show GL (m:=callSpecial? (.ref d) (IW "__len__")) (HW (name:=IW "__len__") hT F.slot_dict_len (Io F.slot_dict_len hT F.entry_dict_len ?_ (F.args_dict_len_1 _)));change wpAny _ _ (dictSize d >>= _) _ _ s;unfold dictSize;show GL (GL (KC ho hdat (GY ?_)));change wpAny _ _ (Oo d >>= _) _ _ s;show GL (wpAny_pendingCount_other hd ?_);show wpAny_ret_mkInt ?_;rw[Nat.add_zero];change wpAny _ _ _ _ _ { s with toks:=s.toks+1 }
 show GL (Ir (GY ?_));show GL (J8 ?_);change wpAny _ _ (if ((es.size:GX):G7) < 0 then _ else _) _ _ _
 rw[Hu ∅]
 change wpAny _ _ (if ((es.size:GX):G7)>=2 ^ 63 then _ else _) _ _ _
 rw[Hu ∅]
 exact GL (NR (GY #[_,rfl,h]))
end
section
variable{X:Cx}{J:GK (GZ×ID)}{Y:L2.St}{H:Hp}{s:GQ}{A:GK GZ}{S:aa}
def pe:LCall X (.builtin "len") mU:=by
 intro J s Y H A S xs vs us w S' I so rl rv e
 by_cases hd:∃i U,xs=[.ref i]/\gU S i=ba U
 ·obtain⟨i,U,rfl,hk⟩:=hd
  (dsimp only[mU]at e; simp only[hk]at e)
  cases e;cases rl with
  | cons r t=>
   cases t;cases rv with
   | cons ru rv2=>
    cases rv2;cases r with
    | ref ea=>
     obtain⟨xs,rd,kr⟩:=eJ so hk ea;have d:=bO I rd;obtain⟨es,ep,raw,he⟩:=d.raw;obtain rfl:_=HM _:=ru;have hl:es.size=xs.length:=by rw[<- Hg,he,GU]
     have hz:=d.1;have hs:sizeLine=16777216:=HV;show yH d.2.1 raw ∅ #[.int U.length,H,A,I.tok _,#[_,by rw[kr.length,hl]],.refl,so,.int]
 ·have:mU xs S=lg xs S:=by
   unfold mU;split
   ·rename_i i;split
    ·rename_i U hk;exact absurd #[i,U,rfl,hk] hd
    ·rfl
   ·rfl
  rw[this]at e;exact rN J s Y H A S xs vs us w S' I so rl rv e
abbrev Gd (S:aa):W->GR Iw
 | .non=>ba "NoneType"|.bl _=>ba "bool"|.int _=>ba "int"|.str _=>ba "str"|.tup _=>ba "tuple"
 | .ref i=>match eF S i with
  | some _=>ba "list"
  | none=>(gU S i).map λ_=>"dict"
abbrev qy:GK Iw:=["bool","int","str","tuple","list","dict"]
abbrev nq (S:aa)(x:W)(c:Iw):GR Hr:=match Gd S x with
 | some t=>if qy.contains c then ba (t==c||(t == "bool" && c == "int"))else gV
 | none=>gV
def fN {K:G0}{t c:Iw}(ht:t∈["NoneType","bool","int","str","tuple","list","dict"])(hc:c∈qy):PySem.W.kitOne K (.type t) (.type c)=ba (t==c||(t == "bool" && c == "int")):=by
 simp only[qy,Hj,HE,IY]at ht hc;rcases ht with rfl|rfl|rfl|rfl|rfl|rfl|rfl <;> rcases hc with rfl|rfl|rfl|rfl|rfl|rfl <;> rfl
def uR:CallR X (.builtin "isinstance") (λvs H Q=>∃A S x v c b,vs=[v,.ty c]/\StoreOk X.w X.K A H S/\Rel X.K A H x v/\nq S x c=ba b/\Q (.bl b) H):=by
 intro J s Y H vs us Q I rv ⟨A,S,x,v,c,b,e1,so,rx,e2,hq⟩;subst e1;cases rv with
 | cons r1 rv2=>cases rv2 with
  | cons r2 rv3=>
   cases rv3;obtain rfl:_=JL c:=r2;unfold nq at e2;split at e2
   ·rename_i t ht;split at e2
    ·rename_i hc;cases e2;have hc':c∈qy:=by simpa using hc
     have fin:∀tk,EP X J Y Q (.bool (t==c||(t == "bool" && c == "int"))) { s with toks:=tk }:=λtk=>#[.bl _,H,I.tok _,rfl,hq]
     cases rx with
     | non=>cases ht; cases(show _=Ic from r1); exact JI PySem.W.kitx_none I.kIn KO (fN (by simp) hc') (λz=>nomatch z) fin
     | bl=>cases ht; cases(show _=Jp _ from r1); exact JI PySem.W.kitx_bool I.kIn KO (fN (by simp) hc') (λz=>nomatch z) fin
     | int=>cases ht; obtain⟨t',q⟩:=(show ∃t,_=Lz _ t from r1); cases q; exact JI PySem.W.kitx_int I.kIn KO (fN (by simp) hc') (λz=>nomatch z) fin
     | str=>cases ht; obtain⟨t',q⟩:=(show ∃t,_=Kr _ t from r1); cases q; exact JI PySem.W.kitx_str I.kIn KO (fN (by simp) hc') (λz=>nomatch z) fin
     | tup h1 r1'=>
      cases ht;obtain⟨its,rv,⟨o,q1,q2,_⟩,hz⟩:=I.tuple h1;cases(show _=HM _ from r1)
      exact JI PySem.W.kitx_tuple I.kIn #[o,q1,q2] (fN (by simp) hc') (λz=>nomatch z) fin
     | ref ea=>
      cases(show _=HM _ from r1)
      dsimp only[Gd]at ht;split at ht
      ·rename_i ws hw;cases ht;obtain⟨vs,h1,_⟩:=aX so hw ea;obtain⟨its,rv,p,hz⟩:=I.list h1;obtain⟨o,q1,q2,_⟩:=p.isList;exact JI PySem.W.kitx_list I.kIn #[o,q1,q2] (fN (by simp) hc') (λz=>nomatch z) fin
      ·rw[GP]at ht;obtain⟨U,hk,rfl⟩:=ht;obtain⟨xs,rd,kr⟩:=eJ so hk ea;obtain⟨es,ep,⟨o,q1,q2,_⟩,he⟩:=(bO I rd).raw;exact JI PySem.W.kitx_dict I.kIn #[o,q1,q2.1] (fN (by simp) hc') (λz=>nomatch z) fin
    ·cases e2
   ·cases e2
abbrev uS (c:Iw)(f:FE):FE:=λZ S=>match f Z S with
 | some (x,S1)=>(nq S1 x c).map λb=>(.bl b,S1)
 | none=>gV
def BF {cn:Ha}{c:Iw}{e:Hi}{p p2 pos:Jt}{f:FE}(hg:Gl X "isinstance")(hm:X.mg "isinstance" = gV)(hg2:Gl X cn)(hm2:X.mg cn=gV)(hv2:bootBuiltins cn=ba (.type c))(hn2:cn≠"__name__")(hd2:(cn==("__debug__" : Ha))=false)
  (he:GE X e f) (hs:starEach [e,.Name cn p2] X.env=(false,eval e X.env)::starEach [.Name cn p2] X.env):GE X (.Call (.Name "isinstance" p) [e,.Name cn p2] [] pos) (uS c f):=
 GE.of (mz (uR) hg hm rfl (kQ he (kQ (xh (v:=.ty c) hg2 hm2 hv2 rfl hn2 hd2) tf) hs) #v[] #v[] hs rfl) λY H A Z S w S' er so e Q hq=>by
  unfold uS at e;split at e
  ·rename_i x1 S1 h1;rw[GP]at e;obtain⟨b,e1,e2⟩:=e;cases e2;exact#[A,Z,S,x1,_,er,so,h1,λv H1 #[A1,z1,z2,z3]=>#[A1,_,x1,v,c,b,rfl,z2,z3,e1,hq _ _ #[A1,z1,z2,.bl]]]
  ·cases e
end
abbrev cM:GK (T×W)->GK W->GR (GK (T×W))
 | U,[]=>ba U
 | U,k::v::ws=>match ft k with
  | some t=>cM (dP U t v) ws
  | none=>gV
 | _,[_]=>gV
abbrev zS:FE:=λ_ S=>ba (.ref S.length,S++[.dic []])
abbrev nr (f:FA):FE:=λZ S=>match f Z (S++[.dic []])with
 | some (ws,S1)=>match S1[S.length]? with
  | some (.dic [])=>match cM [] ws with
   | some U=>ba (.ref S.length,S1.set S.length (.dic U))
   | none=>gV
  | _=>gV
 | none=>gV
section
variable (K:G0) (A:GK GZ) (H:Hp)
inductive RelP:GK W->GK (V×V)->Prop
 | nil:RelP [] []
 | cons {k v:W} {a b:V} {ws:GK W} {ps:GK (V×V)}:Rel K A H k a->Rel K A H v b->RelP ws ps->RelP (k::v::ws) ((a,b)::ps)
end
def RelP.mono {K:G0}{A A':GK GZ}{H H':Hp}(e:Ext K A H A' H'){ws:GK W}{ps:GK (V×V)}(h:RelP K A H ws ps):RelP K A' H' ws ps:=by
 induction h with
 | nil=>exact .nil
 | cons a b c ih=>exact .cons (a.mono e) (b.mono e) ih
section
variable{X:Cx}{J:GK (GZ×ID)}{Y:L2.St}{H:Hp}{s:GQ}{A:GK GZ}{S:aa}
abbrev Fy (X:Cx)(A:GK GZ)(H:Hp)(S':aa)(ws:GK W):GK (V×V)->Hp->Prop:=λps H'=>∃A',Ext X.K A H A' H'/\StoreOk X.w X.K A' H' S'/\RelP X.K A' H' ws ps
abbrev DE (X:Cx)(pos:Jt)(keys:GK (GR Hi))(values:GK Hi)(f:FA):Prop:=
 ∀(J:GK (GZ×ID)) (s:GQ) (Y:L2.St) (H:Hp) (A:GK GZ) (Z:Fm) (S:aa) (ws:GK W) (S':aa),Inv X J Y H s->EnvRel X.K A H Z Y->StoreOk X.w X.K A H S->f Z S=ba (ws,S')->
  wpAny (model X.prog X.w) X.A (evalPairs (pairTrees keys values X.env pos)) (λvs s'=>∃ps H',Inv X J Y H' s'/\VV ps vs/\Fy X A H S' ws ps H') X.xe s
def yI {pos:Jt}:DE X pos [] [] fM:=λJ s Y H A Z S ws S' I er so e=>by
 cases e;exact pairTrees_nil_walk #[[],H,I,.nil,A,.refl,so,.nil]
def uT {pos:Jt}{k v:Hi}{ks:GK (GR Hi)}{vs:GK Hi}{fk fv:FE}{f:FA}(hk:GE X k fk)(hv:GE X v fv)(hr:DE X pos ks vs f):DE X pos (ba k::ks) (v::vs) (cG fk (cG fv f)):=λJ s Y H A Z S ws S' I er so e=>by
 unfold cG at e;split at e
 ·rename_i w1 S1 h1;split at e
  ·rename_i w2 S2 h2;cases e;split at h2
   ·rename_i w3 S3 h3;split at h2
    ·rename_i w4 S4 h4;cases h2;show pairTrees_cons_walk (aT (hk J s Y H (EndV X.w X.K A H S1 w1) I #[A,Z,S,_,_,er,so,h1,λ_ _ z=>z]) λu s1 #[x,H1,I1,r1,A1,e1,o1,z1]=>
      aT (hv J s1 Y H1 (EndV X.w X.K A1 H1 S3 w3) I1 #[A1,Z,S1,_,_,er.mono e1,o1,h3,λ_ _ z=>z]) λu2 s2 #[x2,H2,I2,r2,A2,e2,o2,z2]=>
      aT (hr J s2 Y H2 A2 Z S3 _ _ I2 (er.mono (e1.trans e2)) o2 h4) λvs' s3 #[ps,H3,I3,rel,A3,e3,o3,z3]=>?_)
     exact#[(x,x2)::ps,H3,I3,.cons #[r1,r2] rel,A3,e1.trans (e2.trans e3),o3,.cons (z1.mono (e2.trans e3)) (z2.mono e3) z3]
    ·cases h2
   ·cases h2
  ·cases e
 ·cases e
def j9 {r:GX}{d:GZ}{E:GM->GQ->Prop}(hu:X.A.units+10 < cLine):∀(vs:GK (GM×GM)) (ps:GK (V×V)) (ws:GK W) (U U':GK (T×W)) (s:GQ) (H:Hp) (S:aa) (Q:PUnit->GQ->Prop),
  Inv X J Y H s->StoreOk X.w X.K A H S->lv S r=ba U->A[r]?=ba d->RelP X.K A H ws ps->VV ps vs->cM U ws=ba U'->U.length+vs.length<=30->
  (∀s' H',Inv X J Y H' s'->Ext X.K A H A H'->StoreOk X.w X.K A H' (S.set r (.dic U'))->Q MZ s')->
  wpAny (model X.prog X.w) X.A (forIn vs MZ λ(x:GM×GM) (_:PUnit)=>(do dictSet d x.1 x.2; pure (IQ MZ):OP (ForInStep PUnit))) Q E s
 | [],_,_,U,U',s,H,S,Q,I,so,hr,ea,rp,vv,e,hl,hq=>by
  cases vv;cases rp;cases e;rw[Mp];show GY (hq s H I .refl ?_);have hS:=gh hr;have:S.set r (.dic U)=S:=by
   apply Nq;intro j;rw[IX];split
   ·rename_i e; subst e
    split
    ·exact hS.symm
    ·rename_i h; exact absurd (G8.mp hS).1 h
   ·rfl
  rw[this]; exact so
 | (ku,vu)::vs,_,_,U,U',s,H,S,Q,I,so,hr,ea,rp,vv,e,hl,hq=>by
  cases vv with
  | cons hv vv2=>
   cases rp with
   | @cons wk wv va vb ws2 ps2 rk rv' rp2=>
    dsimp only[cM]at e;split at e
    ·rename_i t ht;rw[KW];obtain⟨xs,hH,kr⟩:=qd so hr ea;have dd0:=bO I (.inl hH);have dd:=dd0.dict I kr;obtain⟨bk,e1,e2,rkk⟩:=gg ht rk hv.1;have e2:ku=HM bk:=e2;subst e2;obtain⟨q1,q2,q3⟩:=c7 ht;rw[HH]at hl;have hz:xs.length<=sizeLine:=dd0.1;show GL (GL (wpAny_dictSet_heap (hsz:=hz) (show X.A.units+aJ < cLine by unfold aJ; omega) (gX I rkk q3) dd λh' dd' hs=>GY ?_))
     have kr':=kr.put q2 q3 rkk rv' hv.2;have hz':(storedH xs t bk vu).length<=sizeLine:=by
      rw[<- kr'.length];have h2:=cF U t wv;rw[HV];omega
     have dn:DicAt X.w d (storedH xs t bk vu) h':=.of hz' dd0.2.1 dd';obtain⟨so',ex⟩:=so.writeO (gh hr) rfl ea (u:=da X.w d (storedH xs t bk vu)) (n:=.dic (dP U t wv)) #[_,aI,kr'.mono (bN (.ext hH))];have I':Inv X J Y (be H d (da X.w d (storedH xs t bk vu))) { s with heap:=h',toks:=s.toks+(bZ X.prog X.w).draws t }:=kZ I (by rw[hH]; exact KO) hs (let ⟨q,_,_,hq,_⟩:=dd'; #[q,hq]) dn.ok
     have hl':(S.set r (.dic (dP U t wv)))[r]?=ba (.dic (dP U t wv)):=by
      rw[IX,Hk rfl,Hk (G8.mp (gh hr)).1]
     show j9 hu vs _ _ (dP U t wv) U' _ _ _ Q I' so' (by unfold lv; rw[hl']) ea (rp2.mono ex) vv2 e (by have:=cF U t wv; omega) λs' H' I2 ex2 so2=>?_
     rw[List.set_set]at so2;exact hq s' H' I2 (ex.trans ex2) so2
    ·cases e
def yJ {pos:Jt}:GE X (.Dict [] [] pos) zS:=λJ s Y H Q I #[A,Z,S,w,S',er,so,e,hq]=>by
 cases e;have hn:=I.hok.fresh (G2 s.heap.objs.size);have dn:DicAt X.w s.heap.objs.size [] (s.heap.push { cls:=.type "dict",data:=.dict #[] }):=#[Jj _,KZ.mpr (Ne.symm (Hn I.big)),Mq,_,#[],0,G4 _ rfl,#[rfl,rfl,rfl],rfl,rfl];show wpAny_Dict_empty #[.ref s.heap.objs.size,_,I.laid (a:=s.heap.objs.size) (o:=da X.w s.heap.objs.size []) (t':=s.toks) (λ_ _ q=>GN _ q) (G2 _) dn.ok,rfl,hq _ _ #[A++[s.heap.objs.size],db hn,so.pushO hn #[[],aI,.nil],.ref ?_]]
 rw[<- so.len]; simp
def yK {pos:Jt}{keys:GK (GR Hi)}{values:GK Hi}{f:FA}(hu:X.A.units+10 < cLine)(h:DE X pos keys values f)(hall:keys.all (·.isSome)=true)(hl:keys.length=values.length)(h0:keys≠[])(h15:keys.length<=15):GE X (.Dict keys values pos) (nr f):=by
 intro J s Y H Q I ⟨A,Z,S,w,S',er,so,e,hq⟩;unfold nr at e;split at e
 ·rename_i ws S1 h1;split at e
  ·rename_i hS1;split at e
   ·rename_i U hp;cases e;have hn:=I.hok.fresh (G2 s.heap.objs.size);have dn:DicAt X.w s.heap.objs.size [] (s.heap.push { cls:=.type "dict",data:=.dict #[] }):=#[Jj _,KZ.mpr (Ne.symm (Hn I.big)),Mq,_,#[],0,G4 _ rfl,#[rfl,rfl,rfl],rfl,rfl];have I1:=I.laid (a:=s.heap.objs.size) (o:=da X.w s.heap.objs.size []) (h':=s.heap.push { cls:=.type "dict",data:=.dict #[] }) (t':=s.toks) (λ_ _ q=>GN _ q) (G2 _) dn.ok
    have ex0:Ext X.K A H (A++[s.heap.objs.size]) (be H s.heap.objs.size (da X.w s.heap.objs.size [])):=db hn;have so0:StoreOk X.w X.K (A++[s.heap.objs.size]) (be H s.heap.objs.size (da X.w s.heap.objs.size [])) (S++[.dic []]):=so.pushO hn #[[],aI,.nil];have hlen:=pairTrees_length keys values X.env pos hall hl;have hne:pairTrees keys values X.env pos≠[]:=λhe=>by
     rw[he]at hlen;exact h0 (JW.mp hlen.symm)
    rw[arm_eval_Dict,zip_pairTrees keys values X.env pos hall hl,dictDisplay_pairs _ hne ∅]
    show GL (KR (GL ?_));unfold subDict;show GL (OX ?_);show GL (Ir ?_);rw[Hk ∅]
    show GL (IV (wpAny_evalPairs_len (h J _ Y _ _ Z _ _ _ I1 (er.mono ex0) so0 h1)) (λvs s₁ h₁=>?_) λ_ _ e=>e)
    obtain⟨hvl,ps,H2,I2,vv,A2,ex2,so2,rp⟩:=h₁;show Ir ?_;have ea:A2[S.length]?=ba s.heap.objs.size:=ex2.ad _ _ (by rw[<- so.len]; simp)
    show GL (j9 hu vs ps ws [] U s₁ H2 S1 _ I2 so2 (by unfold lv; rw[hS1]) ea rp vv hp (by rw[IP]; omega) λs' H' I3 ex3 so3=>?_)
    exact GY (GY (GY #[.ref s.heap.objs.size,H',I3,rfl,hq _ _ #[A2,ex0.trans (ex2.trans ex3),so3,.ref ea]]))
   ·cases e
  ·cases e
 ·cases e
end
abbrev Ge (wd:HA)(a:GZ)(o:ID)(xs:GK (T×GZ×GM)):It:=
 #[λi H=>H a=ba (.frz o (da wd a xs))/\i < xs.length,λi H x H'=>H'=H/\∃q,xs[i]?=ba q/\x=.ref q.2.1,λi H=>H a=ba (.frz o (da wd a xs))/\xs.length<=i]
def se {P:Hs}{w:HA}{K:G0}{tg:Hi}(a it:GZ){o:ID}{es:HD Jm}{ep:GX}{xs:GK (T×GZ×GM)}(hx:o.ExactDict)(hd:o.data=.dict es ep)(he:es.toList=xs.map (tM w)) :
  Turn P w K tg (Ge w a o xs) [it] it (λi h=>h.IsKeyIter it a i es.size ep) where
 mem:=by simp
 obj:=λi h st b hb=>by
  have e:b=it:=by simpa using hb
  subst e;obtain⟨o,e,c,d⟩:=st;exact#[o,e,λv z=>by rw[d]at z; cases z]
 keep:=λi h h' st k=>st.at λo e=>k it (by simp) o e
 item:=by
  intro X hP hw hK hc i J s Y H E I hf st hg;subst hP hw hK;obtain⟨hH,hi⟩:=hg;have ho:s.heap.get? a=ba o:=(show ObjOk X.prog X.w H s.heap a (.frz o (da X.w a xs))from I.hok a _ hH).1
  have hl:es.size=xs.length:=by rw[<- Hg,he,GU]
  have hi':i < es.size:=∅
  obtain⟨f0,f1,f2,f3,f4,f5⟩:=hf it (by simp)
  have hk:es[i].key=.ref (xs[i]).2.1:=by
   have:es.toList[i]?=ba (tM X.w xs[i]):=by rw[he,G1,G5 hi]; rfl
   rw[Il,Kf hi']at this;have:=Ij this;rw[this]; rfl
  show mO st #[o,ho,hx,hd] hi' λh' st' sb=>?_
  have I1:Inv X J Y H { s with heap:=h' }:=I.turned (t':=s.toks) (λb o hb e=>(sb.2 b hb).trans e) f0 f1 f3 f4 f5
  obtain⟨o',e,c,d⟩:=id st';exact#[_,rfl,mw (s:={ s with heap:=h' }) e c d #v[] #[.ref (xs[i]).2.1,H,I1,hk,#[rfl,xs[i],G5 hi,rfl],st',λb hb=>(hf b hb).1]]
 done:=by
  intro X hP hw hK hc i J s Y H E I hf st hg;subst hP hw hK;obtain⟨hH,hi⟩:=hg;have ho:s.heap.get? a=ba o:=(show ObjOk X.prog X.w H s.heap a (.frz o (da X.w a xs))from I.hok a _ hH).1
  have hl:es.size=xs.length:=by rw[<- Hg,he,GU]
  obtain⟨f0,f1,f2,f3,f4,f5⟩:=hf it (by simp)
  exact qf (I.ok.hd hc) st #[o,ho,hx,hd] ∅ λh' eb=>#[rfl,I.turned (t':=s.toks) (λb o hb e=>eb b o hb e) f0 f1 f3 f4 f5]
 self:=λ_ _ _ _ _ st h=>Mm st h
abbrev cN (f:FE):FI:=λZ S=>match f Z S with
 | some (.tup ws,S1)=>ba (.its ws,S1)
 | some (.str x,S1)=>if (x.cps.all λc=>decide (c < 128))=true then ba (.its (x.cps.toList.map λc=>.str #[[c].toArray]),S1)else gV
 | some (.ref r,S1)=>match eF S1 r with
  | some _=>ba (.live r,S1)
  | none=>match gU S1 r with
   | some U=>ba (.its (U.map λp=>p.1.w),S1.set r (.frd U))
   | none=>gV
 | _=>gV
section
variable{X:Cx}{J:GK (GZ×ID)}{Y:L2.St}{H:Hp}{s:GQ}{A:GK GZ}{S:aa}
def uU {a:GZ}{o:ID}{U:GK (T×W)}{xs:GK (T×GZ×GM)}(hH:H a=ba (.frz o (da X.w a xs)))(kr:KRel X.K A H U xs):MIt X.w X.K (.its (U.map λp=>p.1.w)) (Ge X.w a o xs) A H:=by
 show#[λA' H' S i w e so hi=>?_,λA' H' S i e so hi=>?_]
 ·simp only[MI.at,Hm]at hi;obtain⟨v,h1,h2⟩:=((kr.mono e).keysL).get hi;rw[G1,GP]at h1;obtain⟨q,q1,q2⟩:=h1;show#[#[e.fz _ _ _ hH,(G8.mp q1).1],λx H2 #[z1,q',z2,z3]=>?_]
  subst z1 z3;rw[q1]at z2; cases z2
  exact#[.refl,so,by rw[q2]; exact h2]
 ·simp only[MI.at,Hm]at hi;show#[e.fz _ _ _ hH,?_];have:=Iv.mp hi;rw[GU,kr.length]at this;exact this
def yL {x:Ha}:MIt X.w X.K (.its (x.cps.toList.map λc=>.str #[[c].toArray])) (Gb x) A H:=by
 show#[λA' H' S i w e so hi=>?_,λA' H' S i e so hi=>?_]
 ·simp only[MI.at,Hm]at hi;rw[G1,GP]at hi;obtain⟨c,hc,rfl⟩:=hi;rw[Il]at hc;show#[(Ja.mp hc).1,λv H2 #[z1,c',z2,z3]=>?_]
  subst z1 z3;rw[hc]at z2; cases z2
  exact#[.refl,so,.str]
 ·simp only[MI.at,Hm]at hi;rw[G1,Option.map_eq_none_iff,Il]at hi;exact Array.getElem?_eq_none_iff.mp hi
def yM {tg l:Hi}{f:FE}(h:GE X l f):GI X tg l (cN f):=by
 intro J s Y H R I ⟨A,Z,S,mi,S',er,so,e,hq⟩
 by_cases hs:∃x S1,f Z S=ba (.str x,S1)
 ·obtain⟨x,S1,h1⟩:=hs;simp only[cN,h1]at e;split at e
  ·rename_i ha;cases e;show aT (h J s Y H (EndV X.w X.K A H _ (.str x)) I #[A,Z,S,_,_,er,so,h1,λ_ _ z=>z]) λv s1 #[x',H1,I1,r1,A1,e1,o1,z1]=>?_
   cases z1;obtain⟨tk,rfl⟩:=r1;show M2 ha ?_;show#[s1.heap.objs.size,[s1.heap.objs.size],_,_,H1,rfl,I1.kept (t':=s1.toks) λb o e=>GN _ e,um x tk _,#[_,G4 _ rfl,rfl,rfl],λb hb=>?_,hq _ _ A1 e1 o1 yL]
   have e:b=s1.heap.objs.size:=by simpa using hb
   subst e;exact I1.fpOk (G2 _) (I1.hok.fresh (G2 _))
  ·cases e
 by_cases hd:∃r S1 U,f Z S=ba (.ref r,S1)/\eF S1 r=gV/\gU S1 r=ba U
 ·obtain⟨r,S1,U,h1,h2,h3⟩:=hd;simp only[cN,h1,h2,h3]at e;cases e;show aT (h J s Y H (EndV X.w X.K A H S1 (.ref r)) I #[A,Z,S,_,_,er,so,h1,λ_ _ z=>z]) λv s1 #[x,H1,I1,r1,A1,e1,o1,z1]=>?_
  cases z1 with
  | @ref _ a ea=>
   obtain rfl:v=HM a:=r1;have fz:∃o xs H2,Inv X J Y H2 s1/\Ext X.K A1 H1 A1 H2/\StoreOk X.w X.K A1 H2 (S1.set r (.frd U))/\H2 a=ba (.frz o (da X.w a xs))/\KRel X.K A1 H2 U xs:=by
    unfold gU at h3;split at h3
    ·rename_i k hk;cases h3;obtain⟨xs,hH,kr⟩:=o1.obj r _ a hk ea;have d:=bO I1 (.inl hH);obtain⟨_,_,_,o,es,ep,q1,q2,q3,q4⟩:=id d;obtain⟨so',ex⟩:=o1.writeO hk rfl ea (u:=.frz o (da X.w a xs)) (n:=.frd U) #[o,xs,aI,kr.mono (bN (.ext hH))];exact#[o,xs,_,kZ (h':=s1.heap) (t':=s1.toks) (ob:=.frz o (da X.w a xs)) I1 (by rw[hH]; exact KO) (Nj _ _) #[o,q1] #[q1,d.ok],ex,so',aI,kr.mono ex]
    ·rename_i k hk;cases h3;obtain⟨o,xs,hH,kr⟩:=o1.obj r _ a hk ea;have:S1.set r (.frd U)=S1:=by
      apply Nq;intro j;rw[IX];split
      ·rename_i e; subst e
       split
       ·exact hk.symm
       ·rename_i h; exact absurd (G8.mp hk).1 h
      ·rfl
     rw[this];exact#[o,xs,H1,I1,.refl,o1,hH,kr]
    ·cases h3
   obtain⟨o,xs,H2,I2,ex,so2,hH,kr⟩:=fz;have d:=bO I2 (.inr #[o,hH]);have ho:s1.heap.get? a=ba o:=(show ObjOk X.prog X.w H2 s1.heap a (.frz o (da X.w a xs))from I2.hok a _ hH).1
   obtain⟨_,hsm,_,o',es,ep,q1,q2,q3,q4⟩:=id d;rw[ho]at q1;cases q1;show mN hsm #[o,ho,q2,q3] ?_;show#[s1.heap.objs.size,[s1.heap.objs.size],_,_,H2,rfl,I2.kept (t':=s1.toks) λb o e=>GN _ e,se a _ q2 q3 q4,#[_,G4 _ rfl,rfl,rfl],λb hb=>?_,hq _ _ A1 (e1.trans ex) so2 (uU hH kr)]
   have e:b=s1.heap.objs.size:=by simpa using hb
   subst e;exact I2.fpOk (G2 _) (I2.hok.fresh (G2 _))
 ·have:cN f Z S=yC f Z S:=by
   unfold cN yC;cases hf:f Z S with
   | none=>rfl
   | some p=>
    obtain⟨w,S1⟩:=p;cases w with
    | ref r=>
     cases h2:eF S1 r with
     | some _=>simp only[h2]
     | none=>
      cases h3:gU S1 r with
      | none=>simp only[h2,h3]
      | some U=>exact absurd #[r,S1,U,hf,h2,h3] hd
    | str x=>exact absurd #[x,S1,hf] hs
    | _=>rfl
  rw[this]at e;exact BC h J s Y H R I #[A,Z,S,mi,S',er,so,e,hq]
end
abbrev yN (xs:GK W)(S:aa):GR (W×aa):=match xs with
 | [.ref i]=>match Dr S i with
  | some ss=>ba (.int ss.length,S)
  | none=>gV
 | _=>gV
section
variable{X:Cx}
def pf:LCall X (.builtin "len") yN:=by
 intro J s Y H A S xs vs us w S' I so rl rv e;unfold yN at e;split at e
 ·rename_i i;obtain⟨a,ea,rfl⟩:=iN (xs:=[]) rl rv;split at e
  ·rename_i ss hs;cases e;obtain⟨o,ho,hex,es,ep,t,hd,tb⟩:=Be I so hs ea;have hz:es.size=ss.length:=by
    have:=tb.pm.length_eq
    rwa [GU,Hg]at this
   have hf:=tb.few;exact call_len_set ho hex hd tb.fit (by rw[hz]; have h2:scanBound<=2 ^ 40:=#v[]; omega) #[.int ss.length,H,A,I.tok _,#[_,by rw[hz]],.refl,so,.int]
  ·cases e
 ·cases e
end
abbrev a9 (mi:MI)(g:FG)(c:FT)(f:FE):GX->GX->Fm->aa->GR (GK W×aa)
 | 0,i,_,S=>match mi.at S i with
  | some gV=>ba ([],S)
  | _=>gV
 | n+1,i,Z,S=>match mi.at S i with
  | some (ba w)=>match g w Z S with
   | some (Z1,S1)=>match c Z1 S1 with
    | some (true,S2)=>match f Z1 S2 with
     | some (y,S3)=>match a9 mi g c f n (i+1) Z1 S3 with
      | some (ys,S4)=>ba (y::ys,S4)
      | none=>gV
     | none=>gV
    | some (false,S2)=>a9 mi g c f n (i+1) Z1 S2
    | none=>gV
   | none=>gV
  | _=>gV
abbrev cH (cap:GK (GR GX))(Z:Fm):Fm:=cap.map λo=>match o with
 | some j=>(Z[j]?).join
 | none=>gV
abbrev jh (fi:FI)(g:FG)(c:FT)(f:FE)(cap:GK (GR GX)):FE:=λZ S=>match fi Z S with
 | some (mi,S1)=>match mi.len S1 with
  | some n=>match a9 mi g c f n 0 (cH cap Z) S1 with
   | some (ys,S2)=>jG S2 ys
   | none=>gV
  | none=>gV
 | none=>gV
abbrev zT:FT:=λ_ S=>ba (true,S)
abbrev jE (X:Cx)(scope:J4)(cl:GK (Ha×GZ))(C:GZ)(N:GK Ha)(s0:GQ)(H0:Hp)(ex:GK GZ):Cx:=
 { X with env:=compEnvC scope cl C X.env,N:=N,s₀:=s0,H₀:=H0,outer:=X.stack,stack:=X.stack,ex:=ex,fn:=λ_=>false,pn:=[],xe:=λ_ _=>Iq }
structure CompOk (X:Cx)(scope:J4)(cl:GK (Ha×GZ))(N:GK Ha)(cap:GK (GR GX)):Prop where
 clos:closureFor scope X.env=pure cl
 kind:scope.kind=.function
 names:∀y∈scope.names,y.2=.local->scope.names.lookup y.1=ba .local
 nocell:∀y∈scope.names,y.2≠.cell
 sub:∀x c,cl.lookup x=ba c->X.env.cells.lookup x=ba c
 has:∀x,((relabel scope X.env).names.lookup x=ba .cell\/(relabel scope X.env).names.lookup x=ba .free)->∃c,cl.lookup x=ba c
 len:cap.length=N.length
 cap:∀(i j:GX) (x:Ha),cap[i]?=ba (ba j)->N[i]?=ba x->X.N[j]?=ba x/\(X.env.kindOf x=ba .cell\/X.env.kindOf x=ba .free)/\((relabel scope X.env).names.lookup x=ba .cell\/(relabel scope X.env).names.lookup x=ba .free)
def fw {prog:Hs}{w:HA}{A:Hy}{R:Nx->GQ->Prop}{s:GQ}{elt target iter:Hi}{ifs:GK Hi}{scope:J4}{pos:Jt}{it acc:GM}{env:M7}(I:GX->GQ->Prop)
    (turn:∀n s,I n s->wpAny (model prog w) A (pyNext it) (λr s₁=>match r with
      | none=>R (.ok .next) s₁
      | some v=>wpAny (model prog w) A (letOwnedTupleGo target it v) (λ_ s₁=>wpAny (model prog w) A (assign target env v) (λ_ s₂=>
          wpAny (model prog w) A (forIn ifs true λc r=>if r=true then do let ok <- isTrue c env (eval c env); pure (IQ ok)else pure (IQ r)) (λok s₃=>
            if ok=true then wpAny (model prog w) A (eval elt env) (λx s₄=>
              wpAny (model prog w) A (call (.builtin "list.append") [acc,x]) (λ_ s₅=>∃m,m < n/\I m s₅) (λ_ _=>Iq) s₄) (λ_ _=>Iq) s₃
            else ∃m,m < n/\I m s₃) (λ_ _=>Iq) s₂) (λ_ _=>Iq) s₁) (λ_ _=>Iq) s₁) (λ_ _=>Iq) s)
    (n:GX) (h:I n s) :
    codeAny (model prog w) A (.compLoop (.ListComp elt [#[target,iter,ifs,0]] scope pos) 0 it acc env) R s:=by
  show codeAny_loop rfl I (λn s hI=>?_) n h
  change wpAny _ A ((compTurn (.ListComp elt [#[target,iter,ifs,0]] scope pos) 0 it acc env).onRaise (λx=>do noteFrame x env; theTreesLotGoes x)) _ _ s
  show wpAny_noted ?_;rw[compTurn_list];show GL (KR (GL (IV (turn n s hI) (λr s₁ h₁=>?_) λ_ _ h'=>h'.elim)))
  cases r with
  | none=>exact GY h₁
  | some v=>
    show GL (IV h₁ (λ_ s₁ h₁=>?_) λ_ _ h'=>h'.elim)
    show GL (IV h₁ (λ_ s₂ h₂=>GL (IV h₂ (λok s₃ h₃=>?_) λ_ _ h'=>h'.elim)) λ_ _ h'=>h'.elim)
    cases ok with
    | false=>exact GY #[rfl,h₃]
    | true=>
      exact GL (GL (IV h₃ (λx s₄ h₄=>GL (IV h₄ (λ_ s₅ h₅=>GY (GY #[rfl,h₅])) λ_ _ h'=>h'.elim)) λ_ _ h'=>h'.elim))
section
variable{X:Cx}{J:GK (GZ×ID)}{Y:L2.St}{H:Hp}{s:GQ}
def Inv.adopt {D:GZ}{o:HO}(I:Inv X J Y H s)(hn:H D=gV)(h1:D∈X.ex\/X.s₀.heap.objs.size<=D)(hL:D≠X.env.locals)(h2:∀x c,X.env.cells.lookup x=ba c->c≠D)(h3:∀p∈X.pn++J,p.1≠D)
  (new:ObjOk X.prog X.w (be H D o) s.heap D o):Inv X J Y (be H D o) s:=by
 have nit:∀b u,H b=ba u->b≠D:=λb u e z=>by rw[z,hn]at e; cases e
 have key:Inv X J Y (be H D o) { s with heap:=s.heap,gens:=s.gens,drawn:=s.drawn,toks:=s.toks }:=by
  show I.step (g':=s.gens) (d':=s.drawn) (t':=s.toks) (h':=s.heap) (ch:=[D]) (λb hb=>?_) (λb o _ _ hc e _=>e) (λb o _ _ hc e _=>#[o.slots,e]) (λb o hc e n=>?_)
   (λb o hc e=>#[o,e]) (λb xs e=>?_) (λb o xs e=>?_) (λb ps e=>#[#[],?_]) (λm hm=>hm) (λb u e=>?_) I.bare
  ·have e:b=D:=by simpa using hb
   subst e;exact#[h1,hL,h2,h3]
  ·rw[az (λz=>hc (by simp[z]))]; exact n
  ·rw[az (nit b _ e)]; exact e
  ·rw[az (nit b _ e)]; exact e
  ·rw[az (nit b _ e),e]; simp
  ·by_cases hb:b=D
   ·subst hb; rw[aI]at e; cases e; exact new
   ·rw[az hb]at e;show(I.hok b u e).stay (λc v hc q=>q) (λc q=>?_) λc xs q=>?_
    ·rw[az (nit c _ q)]; exact q
    ·rw[az (nit c _ q)]; exact q
 exact key
def BG {scope:J4}{cl:GK (Ha×GZ)}{N:GK Ha}{cap:GK (GR GX)}{C:GZ}{s0:GQ}{ex:GK GZ}(I:Inv X J Y H s)(ck:CompOk X scope cl N cap)(hs:s.heap.objs.size<=s0.heap.objs.size)(hC:s0.heap.objs.size<=C)
  (hk:∀b o,s.heap.get? b=ba o->s0.heap.get? b=ba o) (hex:∀b∈ex,(b≠C)/\(∀x c,X.env.cells.lookup x=ba c->c≠b)/\(∀o,X.base.get? b≠ba o)/\b∉oG X.stack) :
  (jE X scope cl C N s0 H ex).Ok where
 mod:=I.ok.mod
 kind:=ck.kind
 glob:=I.ok.glob
 blt:=I.ok.blt
 above:=hC
 inj:=λx y c h1 h2=>I.ok.inj x y c (ck.sub x c h1) (ck.sub y c h2)
 has:=λx h=>ck.has x h
 cab:=λx c h=>by cases h
 hd:=I.ok.hd
 frames:=I.ok.frames
 stk:=.inl rfl
 exf:=λb hb=>#[(hex b hb).1,λx c h=>(hex b hb).2.1 x c (ck.sub x c h)]
 bs:=λb o e=>#[hk b o (I.bk b o e),(I.bs b o e).2]
 bsz:=Hz (Hz I.ok.bsz I.sz) hs
 noex:=λb o e hb=>(hex b hb).2.2.1 o e
 exfs:=λb hb=>(hex b hb).2.2.2
 funs:=I.stack.of_keeps λb o e _=>#[o,hk b o e,rfl]
 frf:=I.stkFree
structure BlockOk (X:Cx)(scope:J4)(cl:GK (Ha×GZ))(N:GK Ha)(tg elt:Hi)(ifs:GK Hi)(g:FG)(c:FT)(f:FE):Prop where
 tgt:∀C s0 H0 ex,GG (jE X scope cl C N s0 H0 ex) tg g
 tst:∀C s0 H0 ex J s Y H Q,Inv (jE X scope cl C N s0 H0 ex) J Y H s->tT (jE X scope cl C N s0 H0 ex) c Y H Q->
  wpAny (model X.prog X.w) X.A (forIn ifs true λc r=>if r=true then do let ok <- isTrue c (compEnvC scope cl C X.env) (eval c (compEnvC scope cl C X.env)); pure (IQ ok)else pure (IQ r)) (TP (jE X scope cl C N s0 H0 ex) J Y Q) (λ_ _=>Iq) s
 elt:∀C s0 H0 ex,GE (jE X scope cl C N s0 H0 ex) elt f
def lI {prog:Hs}{w:HA}{B:Hy}{s:GQ}{E:GM->GQ->Prop}{Q:GM->GQ->Prop}{D:GZ}{its:GK GM}{n:GX}{u:GM}(e:s.heap.get? D=ba { cls:=.type "list",data:=.seq its.toArray n })(hz:its.length < sizeLine)
  (h:∀h' n',h'.get? D=ba { cls:=.type "list",data:=.seq (its++[u]).toArray n' }->(∀b o,b≠D->s.heap.get? b=ba o->h'.get? b=ba o)->Q .none { s with heap:=h' }) :
  wpAny (model prog w) B (call (.builtin "list.append") [.ref D,u]) Q E s:=by
 show K9 F.slot_list_append #[_,e,rfl] F.entry_list_append (F.args_list_append_2 _ _) (Nh D its.toArray n u (by rw[G6]; omega)) #[e,?_]
 have q:=NB e (λa=>a.push u)
 have e2:its.toArray.push u=(its++[u]).toArray:=by simp
 rw[e2]at q;exact h _ _ q (λb o hb ho=>(Ig s.heap (IF λa=>a.push u) (Ne.symm hb)).trans ho)
def ke {scope:J4}{cl:GK (Ha×GZ)}{N:GK Ha}{cap:GK (GR GX)}{tg elt iter:Hi}{ifs:GK Hi}{g:FG}{c:FT}{f:FE}{pos:Jt}{A:GK GZ}{Z:Fm}{S S':aa}{mi:MI}{n:GX}{ws:GK W}{E:GM->GQ->Prop}
  {it:GZ} {fp:GK GZ} {tn:GX->HQ->Prop} {td:It} {RR:GM->GZ->Nx->GQ->Prop}
  (I:Inv X J Y H s) (hc:X.calm=true) (er:EnvRel X.K A H Z Y) (so:StoreOk X.w X.K A H S) (ck:CompOk X scope cl N cap) (bk:BlockOk X scope cl N tg elt ifs g c f)
  (T:Turn X.prog X.w X.K tg td fp it tn) (t0:tn 0 s.heap) (hfp:∀b∈fp,fJ X J H b) (mit:MIt X.w X.K mi td A H) (e:a9 mi g c f n 0 (cH cap Z) S=ba (ws,S')) (hz:ws.length<=sizeLine)
  (fin:∀D C s' H' A' vs m,s'.heap.Ns C m->H' D=gV->D≠C->C≠X.env.locals->C∉X.fs->H' C=gV->X.s₀.heap.objs.size<=C->(∀x c,X.env.cells.lookup x=ba c->c≠C)->(∀p∈X.pn++J,p.1≠C)->
   Inv X J Y (be H' D (.lst vs)) s'->Ext X.K A H A' H'->StoreOk X.w X.K A' H' S'->RelL X.K A' H' ws vs->RR (.ref D) C (.ok .next) s') :
  wpAny (model X.prog X.w) X.A (newList []) (λacc s₃=>wpAny (model X.prog X.w) X.A (newFunctionEnv scope X.env.globals cl [] X.env.qual gV .none (ba X.env)) (λcenv s₄=>
   codeAny (model X.prog X.w) X.A (.compStart (.ListComp elt [#[tg,iter,ifs,0]] scope pos) 0 (.ref it) acc { cenv with scope:=relabel scope X.env }) (RR acc cenv.locals) s₄) E s₃) E s:=by
 show HY (wpAny_newFunctionEnv ck.nocell (by intro y hy; simp at hy) (λh₁ hns₁ hsb₁=>?_) ck.kind)
 dsimp only at hns₁ hsb₁ ⊢;generalize hH2:s.heap.push { cls:=.type "list",dict:=gV,data:=.seq ([]:GK GM).toArray }=h2 at hns₁ hsb₁ ⊢;have hCs:h2.objs.size=s.heap.objs.size+1:=by rw[<- hH2,JD]
 have k2:∀b o,s.heap.get? b=ba o->h2.get? b=ba o:=λb o z=>hH2 ▸ GN _ z
 have lt2:∀b o,h2.get? b=ba o->b < h2.objs.size:=λb o z=>Hb z
 have k1:∀b o,h2.get? b=ba o->h₁.get? b=ba o:=λb o z=>hsb₁.extBut b o (Hn (lt2 b o z)) (GN _ z)
 have hD2:h2.get? s.heap.objs.size=ba { cls:=.type "list",data:=.seq ([]:GK GM).toArray }:=hH2 ▸ G4 _ rfl;have hDC:s.heap.objs.size≠h2.objs.size:=by rw[hCs]; omega
 have fresh:∀a,s.heap.objs.size<=a->H a=gV:=λa ha=>I.hok.fresh ha
 have cellLt:∀x c,X.env.cells.lookup x=ba c->c < s.heap.objs.size:=λx c z=>let ⟨_,q⟩:=I.cell x c z; q.lt
 have fpLt:∀b∈fp,b < s.heap.objs.size:=λb hb=>let ⟨_,q,_⟩:=T.obj 0 s.heap t0 b hb; Hb q
 have stkLt:∀b∈oG X.stack,b < s.heap.objs.size:=λb hb=>let ⟨_,o,q,_⟩:=I.stack.mem hb; Hb q
 have baseLt:∀b o,X.base.get? b=ba o->b < s.heap.objs.size:=λb o z=>Hb (I.bk b o z)
 have fpStk:∀b∈fp,b∉oG X.stack:=λb hb z=>by
  rcases Hj.mp (I.stkSub b z)with q|q
  ·exact(hfp b hb).2.1 q
  ·exact(hfp b hb).2.2.1 q
 have fpBase:∀b∈fp,∀o,X.base.get? b≠ba o:=λb hb o z=>by
  rcases(hfp b hb).2.2.2.1 with q|q
  ·exact I.ok.noex b o z q
  ·exact absurd (Ht (Hb (I.ok.bs b o z).1) q) (IA _)
 have ltC:∀ {b:GZ},b < s.heap.objs.size->b≠h2.objs.size:=λhb=>by rw[hCs]; exact Hn (Lp hb)
 let s3:GQ:={ s with heap:=h2 }
 have ok':(jE X scope cl h2.objs.size N s3 H (fp++[s.heap.objs.size])).Ok:=by
  show BG I ck (show s.heap.objs.size<=h2.objs.size by rw[hCs]; omega) (G2 _) k2 λb hb=>?_
  rcases HU.mp hb with hb|hb
  ·exact#[ltC (fpLt b hb),(hfp b hb).2.2.2.2.1,fpBase b hb,fpStk b hb]
  ·have eb:b=s.heap.objs.size:=by simpa using hb
   subst eb;exact#[hDC,λx c z=>Hn (cellLt x c z),λo z=>IA _ (baseLt _ o z),λz=>IA _ (stkLt _ z)]
 obtain⟨m0,hn0,hl0⟩:=I.loc;have I0:Inv (jE X scope cl h2.objs.size N s3 H (fp++[s.heap.objs.size])) [] (cap.map λo=>match o with|some j=>(Y[j]?).join|none=>gV) H { s3 with heap:=h₁,toks:=s3.toks+([]:GK (Ha×GM)).length }:=by
  show#[ok',rfl,I.bare,Un.kept k1,#[_,hns₁,λi x v e1 e2 e3=>?_],λx cc z=>?_,fresh _ (show s.heap.objs.size<=h2.objs.size by rw[hCs]; exact Jy _),λx cc z=>I.freeC x cc (ck.sub x cc z),λp hp=>absurd hp (by simp[jE]),(I.hok.kept k2).kept k1,by rw[GU]; exact ck.len]
  ·rw[G1]at e2;cases q:cap[i]? with
   | none=>rw[q]at e2; cases e2
   | some oj=>
    rw[q]at e2;cases oj with
    | none=>cases e2
    | some j=>
     obtain⟨z1,z2,z3⟩:=ck.cap i j x q e1;have e2':(Y[j]?).join=ba v:=by simpa using e2
     have e2'':Y[j]?=ba (ba v):=by
      cases r:Y[j]? with
      | none=>rw[r]at e2'; cases e2'
      | some y=>rw[r]at e2'; exact congrArg ba e2'
     obtain⟨u,ru,lk⟩:=hl0 j x v z1 e2'' (by
      rcases z2 with z|z
      ·exact .inr (.inl z)
      ·exact .inr (.inr z))
     show#[u,ru,?_];rcases lk with⟨zk,_⟩|⟨_,cc,zc,zi⟩
     ·rcases z2 with z|z <;> (rw[zk]at z; cases z)
     ·obtain⟨c2,hc2⟩:=ck.has x z3;have:=ck.sub x c2 hc2;rw[zc]at this; cases this
      show .inr #[z3,cc,hc2,?_];obtain⟨o,ho,hd⟩:=zi;exact#[o,k1 _ _ (k2 _ _ ho),hd]
  ·obtain⟨v,o,ho,hd⟩:=I.cell x cc (ck.sub x cc z);exact#[v,o,k1 _ _ (k2 _ _ ho),hd]
 have er0:EnvRel X.K A H (cH cap Z) (cap.map λo=>match o with|some j=>(Y[j]?).join|none=>gV):=by
  show#[by simp[cH],λi w q=>?_]
  unfold cH at q;rw[G1]at q ⊢;cases r:cap[i]? with
  | none=>rw[r]at q; cases q
  | some oj=>
   rw[r]at q;cases oj with
   | none=>cases q
   | some j=>
    have q':(Z[j]?).join=ba w:=by simpa using q
    have q'':Z[j]?=ba (ba w):=by
     cases z:Z[j]? with
     | none=>rw[z]at q'; cases q'
     | some y=>rw[z]at q'; exact congrArg ba q'
    obtain⟨v,z1,z2⟩:=er.2 j w q'';exact#[v,by simp[z1],z2]
 have t1:tn 0 h₁:=T.keep 0 s.heap h₁ t0 λb hb o z=>k1 b o (k2 b o z)
 have fpOk':∀ {H':Hp} {pp:GK (GZ×ID)},(∀b∈fp,H' b=gV)->(∀p∈pp,p.1=s.heap.objs.size)->∀b∈fp,fJ (jE X scope cl h2.objs.size N s3 H (fp++[s.heap.objs.size])) pp H' b:=λhn hp b hb=>
  #[hn b hb,ltC (fpLt b hb),fpStk b hb,.inl (Ji _ hb),λx cc z=>(hfp b hb).2.2.2.2.1 x cc (ck.sub x cc z),λp hpp=>by
   rw[hp p (by simpa [jE]using hpp)]
   exact(Hn (fpLt b hb)).symm]
 have DinEx:s.heap.objs.size∈fp++[s.heap.objs.size]:=Hx _ (by simp)
 have cellD:∀x c,cl.lookup x=ba c->c≠s.heap.objs.size:=λx cc z=>Hn (cellLt x cc (ck.sub x cc z))
 have fpD:∀b∈fp,b≠s.heap.objs.size:=λb hb=>Hn (fpLt b hb)
 have theEnd:∀s' Y' H' A' vs its nn,Inv (jE X scope cl h2.objs.size N s3 H (fp++[s.heap.objs.size])) [] Y' H' s'->s'.heap.get? s.heap.objs.size=ba { cls:=.type "list",data:=.seq its nn }->∀(hits:∃l:GK GM,its=l.toArray/\Vals vs l),H' s.heap.objs.size=gV->Ext X.K A H A' H'->StoreOk X.w X.K A' H' S'->RelL X.K A' H' ws vs->
   RR (.ref s.heap.objs.size) h2.objs.size (.ok .next) s':=by
  intro s' Y' H' A' vs its nn I' hD hits hDn ex so' rl;obtain⟨l,rfl,rv⟩:=hits;obtain⟨m,hn,_⟩:=id I'.loc;have un:Un (oG X.stack) (fp++[s.heap.objs.size]) H H' s.heap s'.heap:=(Un.kept k2).trans I'.base;have hch:∀b∈fp++[s.heap.objs.size],(b∈X.ex\/X.s₀.heap.objs.size<=b)/\b≠X.env.locals/\(∀x c,X.env.cells.lookup x=ba c->c≠b)/\∀p∈X.pn++J,p.1≠b:=λb hb=>by
   rcases HU.mp hb with hb|hb
   ·exact#[(hfp b hb).2.2.2.1,(hfp b hb).2.1,(hfp b hb).2.2.2.2.1,(hfp b hb).2.2.2.2.2]
   ·have eb:b=s.heap.objs.size:=by simpa using hb
    subst eb;exact#[.inr I.sz,(Hn I.lt).symm,λx cc z=>Hn (cellLt x cc z),λp hp=>Hn (Hb (I.pin p hp).1)]
  have I2:Inv X J Y H' s':=I.call' (show s'.os=s.os from I'.os) un I'.hok I'.bare hch
  have I3:Inv X J Y (be H' s.heap.objs.size (.lst vs)) s':=Inv.adopt I2 hDn (hch _ DinEx).1 (hch _ DinEx).2.1 (hch _ DinEx).2.2.1 (hch _ DinEx).2.2.2 #[by rw[<- rl.length]; exact hz,l,nn,rv,hD]
  have hCle:s.heap.objs.size<=h2.objs.size:=by rw[hCs]; exact Jy _
  exact fin _ _ s' H' A' vs m hn hDn hDC (IH (Ht I.lt hCle)) (I.nofs hCle) I'.free (Hz I.sz hCle) (λx cc z=>Hn (Ht (cellLt x cc z) hCle))
   (λp hp=>Hn (Ht (Hb (I.pin p hp).1) hCle)) I3 ex so' rl
 have loop:∀s4:GQ,s4={ s3 with heap:=h₁,toks:=s3.toks+([]:GK (Ha×GM)).length }->
   codeAny (model X.prog X.w) X.A (.compLoop (.ListComp elt [#[tg,iter,ifs,0]] scope pos) 0 (.ref it) (.ref s.heap.objs.size) (compEnvC scope cl h2.objs.size X.env)) (RR (.ref s.heap.objs.size) h2.objs.size) s4:=by
  rintro s4 rfl;show fw (λk s5=>∃i Y5 H5 A5 Z5 S5 done its nn vs ys,Inv (jE X scope cl h2.objs.size N s3 H (fp++[s.heap.objs.size])) [] Y5 H5 s5/\tn i s5.heap/\(∀b∈fp,H5 b=gV)/\s5.heap.get? s.heap.objs.size=ba { cls:=.type "list",data:=.seq (its:GK GM).toArray nn }/\H5 s.heap.objs.size=gV/\Vals vs its/\
   Ext X.K A H A5 H5/\EnvRel X.K A5 H5 Z5 Y5/\StoreOk X.w X.K A5 H5 S5/\RelL X.K A5 H5 done vs/\ws=done++ys/\a9 mi g c f k i Z5 S5=ba (ys,S')) ?_ n
   #[0,_,H,A,_,S,[],[],0,[],ws,I0,t1,λb hb=>(hfp b hb).1,k1 _ _ hD2,fresh _ (G2 _),.nil,.refl,er0,so,.nil,rfl,e]
  rintro k s5 ⟨i,Y5,H5,A5,Z5,S5,done,its,nn,vs,ys,I5,t5,f5,d5,n5,v5,e5,er5,so5,rl5,hw5,w5⟩;have pinD:Inv (jE X scope cl h2.objs.size N s3 H (fp++[s.heap.objs.size])) [(s.heap.objs.size,{ cls:=.type "list",data:=.seq its.toArray nn })] Y5 H5 s5:=I5.pins_of λp hp=>by
   have hp':p=(s.heap.objs.size,{ cls:=.type "list",data:=.seq its.toArray nn }):=by simpa using hp
   subst hp';exact#[d5,n5,hDC,λz=>IA _ (stkLt _ z),λv z=>by cases z]
  have oneD:∀p∈[(s.heap.objs.size,({ cls:=.type "list",data:=.seq its.toArray nn }:ID))],p.1=s.heap.objs.size:=λp hp=>by
   have hp':p=(s.heap.objs.size,{ cls:=.type "list",data:=.seq its.toArray nn }):=by simpa using hp
   rw[hp']
  cases k with
  | zero=>
   dsimp only[a9]at w5;split at w5
   ·rename_i hst;cases w5;rw[Jq]at hw5;subst hw5;show aT (T.done (jE X scope cl h2.objs.size N s3 H (fp++[s.heap.objs.size])) rfl rfl rfl hc i _ s5 Y5 H5 _ pinD (fpOk' f5 oneD) t5 (mit.stop A5 H5 _ i e5 so5 hst)) λr s6 #[hr,I6]=>?_
    subst hr;have p6:=I6.pin _ (Hx _ (Hc.mpr rfl));exact theEnd s6 Y5 H5 A5 vs _ nn (I6.pins_of λp hp=>absurd hp (by simp)) p6.1 #[its,rfl,v5] n5 e5 so5 rl5
   ·cases w5
  | succ k=>
   dsimp only[a9]at w5;split at w5
   ·rename_i w hw;obtain⟨go,yl⟩:=mit.go A5 H5 S5 i w e5 so5 hw;show aT (T.item (jE X scope cl h2.objs.size N s3 H (fp++[s.heap.objs.size])) rfl rfl rfl hc i _ s5 Y5 H5 _ pinD (fpOk' f5 oneD) t5 go) λr s6 #[u,hr,h6]=>?_
    subst hr;show aT h6 λ_ s7 #[x,H7,I7,r7,y7,t7,f7]=>?_
    obtain⟨x1,x2,x3⟩:=yl x H7 y7;have I7':=I7.pinned (fpOk' f7 oneD) (T.obj _ _ t7);split at w5
    ·rename_i Z8 S8 h8;show aT (bk.tgt _ _ _ _ _ s7 Y5 H7 x u (λY' H'=>∃A',Ext X.K A5 H5 A' H'/\StoreOk X.w X.K A' H' S8/\EnvRel X.K A' H' Z8 Y') I7' r7 #[A5,Z5,S5,w,Z8,S8,er5.mono x1,x2,x3,h8,λY' H' A' q1 q2 q3=>#[A',x1.trans q1,q2,q3]]) λ_ s8 #[Y8,H8,I8,A8,e58,so8,er8]=>?_
     have e8:Ext X.K A H A8 H8:=e5.trans e58;have pD:∀ {Y':L2.St} {H':Hp} {s':GQ},Inv (jE X scope cl h2.objs.size N s3 H (fp++[s.heap.objs.size])) ([(s.heap.objs.size,{ cls:=.type "list",data:=.seq its.toArray nn })]++gP fp s7.heap) Y' H' s'->s'.heap.get? s.heap.objs.size=ba { cls:=.type "list",data:=.seq its.toArray nn }/\H' s.heap.objs.size=gV:=λI'=>
      let q:=I'.pin _ (Hx _ (Ji _ (Hc.mpr rfl)))
      #[q.1,q.2.1]
     have pF:∀ {Y':L2.St} {H':Hp} {s':GQ},Inv (jE X scope cl h2.objs.size N s3 H (fp++[s.heap.objs.size])) ([(s.heap.objs.size,{ cls:=.type "list",data:=.seq its.toArray nn })]++gP fp s7.heap) Y' H' s'->(∀b∈fp,H' b=gV)/\∀b∈fp,∀o,s7.heap.get? b=ba o->s'.heap.get? b=ba o:=λI'=>
      #[λb hb=>by
       obtain⟨o,eo,_⟩:=T.obj _ _ t7 b hb;exact(I'.pin (b,o) (Hx _ (Hx _ (d6 hb eo)))).2.1,
       λb hb o eo=>(I'.pin (b,o) (Hx _ (Hx _ (d6 hb eo)))).1]
     split at w5
     ·rename_i S9 h9;show aT (bk.tst _ _ _ _ _ s8 Y8 H8 (λb H'=>b=true/\∃A',Ext X.K A8 H8 A' H'/\StoreOk X.w X.K A' H' S9) I8 #[A8,Z8,S8,true,S9,er8,so8,h9,λb H' #[z0,A',z1,z2]=>#[z0,A',z1,z2]]) λb s9 #[H9,I9,z0,A9,e9,so9]=>?_
      subst z0;rw[Hk rfl];split at w5
      ·rename_i y S10 h10;split at w5
       ·rename_i ys' S4 h11;cases w5;show aT (bk.elt _ _ _ _ _ s9 Y8 H9 (EndV X.w X.K A9 H9 S10 y) I9 #[A9,Z8,S9,y,S10,er8.mono e9,so9,h10,λ_ _ z=>z]) λu10 s10 #[v10,H10,I10,r10,A10,e10,so10,rl10]=>?_
        obtain⟨d10,n10⟩:=pD I10;obtain⟨f10,k10⟩:=pF I10;have hlen:its.length < sizeLine:=by
         have l1:=v5.length;have l2:=rl5.length;rw[hw5,G3,HH]at hz;omega
        show lI d10 hlen λh' n' hd' hk'=>?_
        have Ib:Inv (jE X scope cl h2.objs.size N s3 H (fp++[s.heap.objs.size])) [] Y8 H10 { s10 with heap:=h' }:=by
         have Ia:Inv (jE X scope cl h2.objs.size N s3 H (fp++[s.heap.objs.size])) [] Y8 H10 s10:=I10.pins_of λp hp=>absurd hp (by simp)
         exact Ia.turned (t':=s10.toks) (it:=s.heap.objs.size) hk' n10 hDC (.inl DinEx) cellD (λp hp=>absurd hp (by simp[jE]))
        show#[k,Kc k,i+1,Y8,H10,A10,Z8,S10,done++[y],its++[u10],n',vs++[v10],ys',Ib,?_,f10,hd',n10,v5.append #v[r10],(e8.trans e9).trans e10,(er8.mono e9).mono e10,so10,?_,?_,h11]
        ·exact T.keep (i+1) s7.heap h' t7 λb hb o eo=>hk' b o (fpD b hb) (k10 b hb o eo)
        ·exact(rl5.mono ((e58.trans e9).trans e10)).append #v[rl10]
        ·rw[hw5,Jl]; rfl
       ·cases w5
      ·cases w5
     ·rename_i S9 h9;show aT (bk.tst _ _ _ _ _ s8 Y8 H8 (λb H'=>b=false/\∃A',Ext X.K A8 H8 A' H'/\StoreOk X.w X.K A' H' S9) I8 #[A8,Z8,S8,false,S9,er8,so8,h9,λb H' #[z0,A',z1,z2]=>#[z0,A',z1,z2]]) λb s9 #[H9,I9,z0,A9,e9,so9]=>?_
      subst z0;rw[Hu Hh];obtain⟨d9,n9⟩:=pD I9;obtain⟨f9,k9⟩:=pF I9;show#[k,Kc k,i+1,Y8,H9,A9,Z8,S9,done,its,nn,vs,ys,I9.pins_of λp hp=>absurd hp (by simp),T.keep (i+1) s7.heap _ t7 k9,f9,d9,n9,v5,e8.trans e9,er8.mono e9,so9,rl5.mono (e58.trans e9),hw5,w5]
     ·cases w5
    ·cases w5
   ·cases w5
 exact codeAny_compStart_list (loop _ rfl) (T.self X.A 0 _ _ _ t1 (loop _ rfl))
def nu {fi:FI}{g:FG}{c:FT}{f:FE}{cap:GK (GR GX)}{Z:Fm}{S:aa}{w:W}{S':aa}(e:jh fi g c f cap Z S=ba (w,S')) :
  ∃mi S1 n ys S2,fi Z S=ba (mi,S1)/\mi.len S1=ba n/\a9 mi g c f n 0 (cH cap Z) S1=ba (ys,S2)/\ys.length<=sizeLine/\w=.ref S2.length/\S'=S2++[.lst ys]:=by
 unfold jh at e;split at e
 ·rename_i mi S1 h1;split at e
  ·rename_i n h2;split at e
   ·rename_i ys S2 h3;obtain⟨h4,h5,h6⟩:=iK e;exact#[mi,S1,n,ys,S2,h1,h2,h3,h4,h5,h6]
   ·cases e
  ·cases e
 ·cases e
def yO {scope:J4}{N:GK Ha}{cap:GK (GR GX)}{tg elt iter:Hi}{ifs:GK Hi}{fi:FI}{g:FG}{c:FT}{f:FE}{pos:Jt}(hc:X.calm=true)(hi:GI X tg iter fi)(hck:X.Ok->∃cl,CompOk X scope cl N cap/\BlockOk X scope cl N tg elt ifs g c f)
  (hs:∀x,foldedSetIterable iter X.env x=pure x):GE X (.ListComp elt [#[tg,iter,ifs,0]] scope pos) (jh fi g c f cap):=by
 intro J s Y H Q I ⟨A,Z,S,w,S',er,so,e,hq⟩;obtain⟨mi,S1,n,ys,S2,h1,h2,h3,h4,rfl,rfl⟩:=nu e;obtain⟨cl,ck,bk⟩:=hck I.ok;rw[eval_ListComp];show Lw (use:=gV) rfl hs ck.clos ck.kind ck.names (aT (hi J s Y H (λtd H'=>∃A',Ext X.K A H A' H'/\StoreOk X.w X.K A' H' S1/\MIt X.w X.K mi td A' H') I #[A,Z,S,mi,S1,er,so,h1,λtd H' A' z1 z2 z3=>#[A',z1,z2,z3]]) λv s1 q1=>aT q1 λitv s2 q2=>?_)
 obtain⟨it,fp,tn,td,H2,rfl,I2,T,t0,hfp,A2,e2,so2,mit⟩:=q2;show ke (RR:=λacc C=>compPost (model X.prog X.w) X.A X.xe gV (EP X J Y Q) acc C) I2 hc (er.mono e2) so2 ck bk T t0 hfp mit h3 h4 ?_
 intro D C s' H' A' vs m hn hDn hDC hCL hCf hCn hCs hCc hCp I3 ex so3 rl;show#[m,hn,λh' hs'=>?_]
 have I4:Inv X J Y (be H' D (.lst vs)) { s' with heap:=h' }:=I3.turned (t':=s'.toks) (it:=C) (λb o hb eo=>hs'.extBut b o hb eo) (by rw[az (Ne.symm hDC)]; exact hCn) hCL (.inr hCs) hCc hCp
 exact#[.ref D,_,I4,rfl,hq _ _ (EndV.after (e2.trans ex) (.lst so3 rl hDn))]
def pg {scope:J4}{N:GK Ha}{cap:GK (GR GX)}{tg elt iter:Hi}{ifs:GK Hi}{fi:FI}{g:FG}{c:FT}{f:FE}{pos py spos:Jt}{y:Ha}{i:GX}(hc:X.calm=true)(hi:GI X tg iter fi)(hck:X.Ok->∃cl,CompOk X scope cl N cap/\BlockOk X scope cl N tg elt ifs g c f)
  (hs:∀x,foldedSetIterable iter X.env x=pure x) (hsw:swapsWith (.ListComp elt [#[tg,iter,ifs,0]] scope pos) (ba (.Name y py)) spos.line X.env=pure true) (hN:X.N.Nodup) (hy:X.N[i]?=ba y) (hl:X.env.scope.names.lookup y=ba .local) :
  GS X (.Assign [.Name y py] (.ListComp elt [#[tg,iter,ifs,0]] scope pos) spos) (jg (jh fi g c f cap) (zR i)):=by
 intro J s Y H Dd I ⟨A,Z,S,o,S',er,so,e,hd⟩;unfold jg at e;split at e
 ·rename_i w S0 h0;simp only[zR]at e;cases e;obtain⟨mi,S1,n,ys,S2,h1,h2,h3,h4,rfl,rfl⟩:=nu h0;obtain⟨cl,ck,bk⟩:=hck I.ok;rw[exec_Assign_Name_used _ _ _ _ hsw];show GL (KR (GL ?_));change wpAny _ X.A (do let _ <- comprehension (.ListComp elt [⟨tg,iter,ifs,0⟩] scope pos) scope X.env _ (newList []) false (eval iter X.env) (ba (assign (.Name y py) X.env))) _ _ s
  show GL (IV (Lw (use:=ba (assign (.Name y py) X.env)) (Q:=λ_ s'=>SP X J Dd .next s') rfl hs ck.clos ck.kind ck.names
   (aT (hi J s Y H (λtd H'=>∃A',Ext X.K A H A' H'/\StoreOk X.w X.K A' H' S1/\MIt X.w X.K mi td A' H') I #[A,Z,S,mi,S1,er,so,h1,λtd H' A' z1 z2 z3=>#[A',z1,z2,z3]]) λv s1 q1=>aT q1 λitv s2 q2=>?_)) (λ_ s' hq=>GY (GY hq)) λ_ _ e=>e)
  obtain⟨it,fp,tn,td,H2,rfl,I2,T,t0,hfp,A2,e2,so2,mit⟩:=q2;show ke (RR:=λacc C=>compPost (model X.prog X.w) X.A X.xe (ba (assign (.Name y py) X.env)) (λ_ s'=>SP X J Dd .next s') acc C) I2 hc (er.mono e2) so2 ck bk T t0 hfp mit h3 h4 ?_
  intro D C s' H' A' vs m hn hDn hDC hCL hCf hCn hCs hCc hCp I3 ex so3 rl;obtain⟨oC,esC,epC,hoC,hdC,hrC⟩:=id hn;have I3':Inv X (J++[(C,oC)]) Y (be H' D (.lst vs)) s':=I3.pins_of λp hp=>by
   rcases HU.mp hp with hp|hp
   ·exact I3.pin p (Hx _ hp)
   ·have hp':p=(C,oC):=by simpa using hp
    subst hp';exact#[hoC,by rw[az (Ne.symm hDC)]; exact hCn,hCL,hCf,λv z=>by rw[hdC]at z; cases z]
  change wpAny _ X.A (assign (.Name y py) X.env (.ref D)) _ _ _;show M8 (fU I3' hN hy (.inl hl) (v:=.ref D) rfl (λs4 I4=>?_) (.inr hl))
  have pC:=I4.pin (C,oC) (Hx _ (Hx _ (Hc.mpr rfl)));show#[m,#[oC,esC,epC,pC.1,hdC,hrC],λh' hs'=>?_]
  have I5:Inv X J (Y.set i (ba (.ref D))) (be H' D (.lst vs)) s4:=I4.pins_of λp hp=>I4.pin p (Hx _ (Ji _ hp))
  have I6:Inv X J (Y.set i (ba (.ref D))) (be H' D (.lst vs)) { s4 with heap:=h' }:=I5.turned (t':=s4.toks) (it:=C) (λb o hb eo=>hs'.extBut b o hb eo) (by rw[az (Ne.symm hDC)]; exact hCn) hCL (.inr hCs) hCc hCp
  obtain⟨Af,f1,f2,f3⟩:=EndV.after (e2.trans ex) (EndV.lst so3 rl hDn);exact#[_,_,I6,hd.nx _ _ #[_,Af,rfl,f1,f2,(er.mono f1).set f3 i]]
 ·cases e
end
open PySem.Builtin.SmallTypes (nextOf)
structure Zap (z p q i j:GZ):Prop where
 pz:p≠z
 qz:q≠z
 iz:i≠z
 jz:j≠z
 pq:p≠q
 pi:p≠i
 pj:p≠j
 qi:q≠i
 qj:q≠j
 ij:i≠j
section
variable{prog:Hs}{w:HA}
structure Zit (prog:Hs)(w:HA)(it:GZ)(T:GX->HQ->Prop)(C:HQ->Prop)(i:GX)(Uq:GR (GM->Prop)):Prop where
 keep:∀j h h',T j h->(∀o,h.get? it=ba o->h'.get? it=ba o)->T j h'
 next:∀V,Uq=ba V->∀(B:Hy) (s:GQ) (Q:GM->GQ->Prop) (E:GM->GQ->Prop),T i s.heap->C s.heap->(∀u h' tk,V u->T (i+1) h'->Je it s.heap h'->Q u { s with heap:=h',toks:=tk })->wpAny (model prog w) B (nextOf (.ref it)) Q E s
 stop:Uq=gV->∀(B:Hy) (s:GQ) (Q:GM->GQ->Prop) (E:GM->GQ->Prop),B.handled=gV->T i s.heap->C s.heap->(∀h' e,Mk it s.heap h'->(∃o,h'.get? e=ba o/\o.cls=.type "StopIteration")->E (.ref e) { s with heap:=h' })->wpAny (model prog w) B (nextOf (.ref it)) Q E s
variable{B:Hy}{E:GM->GQ->Prop}{s:GQ}{z p q i1 i2:GZ}{T1 T2:GX->HQ->Prop}{C1 C2:HQ->Prop}{i:GX}{a b:GM}
abbrev Zc (z q i1 i2:GZ)(C:HQ->Prop):Prop:=∀h h',C h->(∀c o,c≠z->c≠q->c≠i1->c≠i2->h.get? c=ba o->h'.get? c=ba o)->C h'
def ji {U1 U2:GR (GM->Prop)}{Q:GM->GQ->Prop}(D:Zap z p q i1 i2)(Zz:Zit prog w i1 T1 C1 i U1)(Z2':∀V1,U1=ba V1->Zit prog w i2 T2 C2 i U2)(k1:Zc z q i1 i2 C1)(k2:Zc z q i1 i2 C2)(hh:B.handled=gV)
  (hz:MM s.heap z p q .none) (hp:KP s.heap p (.ref i1) (.ref i2)) (hq:KP s.heap q a b) (t1:T1 i s.heap) (t2:T2 i s.heap) (c1:C1 s.heap) (c2:C2 s.heap)
  (hI:∀V1 V2,U1=ba V1->U2=ba V2->∀u v h' tk,V1 u->V2 v->MM h' z p q (rawInt s.heap.objs.size)->KP h' q u v->T1 (i+1) h'->T2 (i+1) h'->KP h' s.heap.objs.size u v->
   (∀c o,c≠z->c≠q->c≠i1->c≠i2->s.heap.get? c=ba o->h'.get? c=ba o)->Q (.ref s.heap.objs.size) { s with heap:=h',toks:=tk })
  (hE:U1=gV\/U2=gV->∀h' tk e,(∀c o,c≠z->c≠q->c≠i1->c≠i2->s.heap.get? c=ba o->h'.get? c=ba o)->(∃o,h'.get? e=ba o/\o.cls=.type "StopIteration")->E (.ref e) { s with heap:=h',toks:=tk }) :
  wpAny (model prog w) B (KS.«zip.__next__» #[[.ref z],[]]) (λfin s'=>∃v,fin=.done (.ret v)/\Q v s') E s:=by
 change wpAny _ _ (field (.ref z) 2 >>= _) _ _ s;show GL (IE hz rfl (x:=.bool false) rfl ?_);change wpAny _ _ (field (.ref z) 3 >>= _) _ _ s;show GL (IE hz rfl (x:=.ref p) rfl (GL (IZ hp rfl ?_)));change wpAny _ _ (IN (.ref z) >>= _) _ _ s;unfold IN;show GL (GL (IE hz rfl (x:=.none) rfl (GY ?_)));simp only[JQ];show GL (KI (GL (IE hz rfl (x:=.ref q) rfl ?_)));show GL (J0 hz (by simp) λg1 zz1 s1=>?_)
 replace zz1:MM g1 z p q .ellipsis:=zz1;show GL ?_;simp only[List.zipIdx_cons,List.zipIdx_nil,KW,Mp];show GL (GL (OB ?_));change wpAny _ _ (nextOf (.ref i1) >>= _) _ _ _;have up1:∀c o,c≠z->s.heap.get? c=ba o->g1.get? c=ba o:=λc o hc e=>s1.extBut c o hc e
 have t1':T1 i g1:=Zz.keep _ _ _ t1 λo e=>up1 _ _ D.iz e
 have c1':C1 g1:=k1 _ _ c1 λc o hc _ _ _ e=>up1 c o hc e
 have fin:∀(g:HQ) (tk:GX) (it e:GZ),(it=i1\/it=i2)->U1=gV\/U2=gV->MM g z p q .ellipsis->(∀c o,c≠z->c≠q->c≠i1->c≠i2->s.heap.get? c=ba o->g.get? c=ba o)->(∃o,g.get? e=ba o/\o.cls=.type "StopIteration")->
   wpAny (model prog w) B (setField (.ref z) 0 .none) (λ_ s''=>E (.ref e) s'') E { s with heap:=g,toks:=tk }:=λg tk it e _ hu gz kg #[oe,he,hc]=>by
  have ne:e≠z:=λx=>by subst x; rw[gz]at he; cases he; simp at hc
  exact J0 gz (by simp) λg' _ sb=>hE hu g' tk e (λc o a1 a2 a3 a4 x=>sb.extBut _ _ a1 (kg c o a1 a2 a3 a4 x)) #[oe,sb.extBut _ _ ne he,hc]
 cases hu1:U1 with
 | none=>
  show GL (Zz.stop hu1 _ _ _ _ hh t1' c1' λg2 e eb he=>?_)
  exact fin g2 s.toks i1 e (.inl rfl) (.inl hu1) (eb _ _ D.iz.symm zz1) (λc o a1 _ a3 _ x=>eb _ _ a3 (up1 c o a1 x)) he
 | some V1=>
  have Zq:=Z2' V1 hu1;show GL (Zz.next V1 hu1 _ _ _ _ t1' c1' λu g2 tk2 hu t12 s2=>GY ?_)
  have q2:KP g2 q a b:=s2.extBut _ _ D.qi (up1 _ _ D.qz hq);show GL (IZ q2 rfl (GL (Mr q2 λg3 q3 s3=>?_)))
  replace q3:KP g3 q u b:=q3;show GL (J8 (GY ?_));show GL (GL (OB ?_));change wpAny _ _ (nextOf (.ref i2) >>= _) _ _ _;have up3:∀c o,c≠z->c≠q->c≠i1->s.heap.get? c=ba o->g3.get? c=ba o:=λc o a1 a2 a3 x=>s3.extBut _ _ a2 (s2.extBut _ _ a3 (up1 c o a1 x))
  have zz3:MM g3 z p q .ellipsis:=s3.extBut _ _ D.qz.symm (s2.extBut _ _ D.iz.symm zz1);have t2':T2 i g3:=Zq.keep _ _ _ t2 λo e=>up3 _ _ D.jz D.qj.symm D.ij.symm e
  have c2':C2 g3:=k2 _ _ c2 λc o a1 a2 a3 _ e=>up3 c o a1 a2 a3 e
  cases hu2:U2 with
  | none=>
   show GL (Zq.stop hu2 _ _ _ _ hh t2' c2' λg4 e eb he=>?_)
   exact fin g4 tk2 i2 e (.inr rfl) (.inr hu2) (eb _ _ D.jz.symm zz3) (λc o a1 a2 a3 a4 x=>eb _ _ a4 (up3 c o a1 a2 a3 x)) he
  | some V2=>
   show GL (Zq.next V2 hu2 _ _ _ _ t2' c2' λv g4 tk4 hv t24 s4=>GY ?_)
   have q4:KP g4 q u b:=s4.extBut _ _ D.qj q3;show GL (IZ q4 rfl (GL (Mr q4 λg5 q5 s5=>?_)))
   replace q5:KP g5 q u v:=q5;show GL (J8 (GY (GY ?_)));show GL (IZ q5 rfl (GL (Mo ?_)));have sz:g5.objs.size=s.heap.objs.size:=by rw[s5.1,s4.1,s3.1,s2.1,s1.1]
   have zz5:MM g5 z p q .ellipsis:=s5.extBut _ _ D.qz.symm (s4.extBut _ _ D.jz.symm zz3);have t15:T1 (i+1) g5:=Zz.keep _ _ _ t12 λo e=>s5.extBut _ _ D.qi.symm (s4.extBut _ _ D.ij (s3.extBut _ _ D.qi.symm e))
   have t25:T2 (i+1) g5:=Zq.keep _ _ _ t24 λo e=>s5.extBut _ _ D.qj.symm e
   have zlt:z < g5.objs.size:=Hb zz5;change wpAny _ _ (Ju (.ref z) (.ref g5.objs.size) >>= _) _ _ _;show GL ?_;unfold Ju;have zz6:MM (g5.push { cls:=.type "tuple",data:=.seq [u,v].toArray }) z p q .ellipsis:=GN _ zz5;show GL (J0 zz6 (by simp) λg7 zz7 s7=>?_)
   replace zz7:MM g7 z p q (rawInt g5.objs.size):=zz7;show J0 zz7 (by simp) λg8 zz8 s8=>?_
   replace zz8:MM g8 z p q (rawInt g5.objs.size):=zz8;have up8:∀c o,c≠z->g5.get? c=ba o->g8.get? c=ba o:=λc o hc e=>s8.extBut _ _ hc (s7.extBut _ _ hc (GN _ e))
   have n8:KP g8 g5.objs.size u v:=s8.extBut _ _ (IH zlt) (s7.extBut _ _ (IH zlt) (G4 _ rfl));rw[sz]at zz8 n8;show GY #[_,rfl,?_];change Q (.ref g5.objs.size) _;rw[sz];exact hI V1 V2 hu1 hu2 u v g8 tk4 hu hv zz8 (up8 _ _ D.qz q5) (Zz.keep _ _ _ t15 λo e=>up8 _ _ D.iz e) (Zq.keep _ _ _ t25 λo e=>up8 _ _ D.jz e) n8 λc o a1 a2 a3 a4 e=>up8 c o a1 (s5.extBut _ _ a2 (s4.extBut _ _ a4 (up3 c o a1 a2 a3 e)))
end
end Mi
namespace Mi
open PySem PySem.Spec PyProof.Rows L2
open PySem.Builtin.SmallTypes (nextOf)
abbrev dQ (prog:Hs)(w:HA)(v:GM)(o:ID)(C:HQ->Prop):Prop:=∀(B:Hy) (s:GQ) (Q:GM->GQ->Prop) (E:GM->GQ->Prop),C s.heap->Q (.ref s.heap.objs.size) { s with heap:=s.heap.push o }->wpAny (model prog w) B (pyIter v) Q E s
abbrev DF (h:HQ)(o1 o2:ID):HQ:=(h.push o1).push o2
abbrev DH (h:HQ)(o1 o2:ID):HQ:=(DF h o1 o2).push { cls:=.type "tuple",data:=.seq [.ref h.objs.size,.ref (h.push o1).objs.size].toArray }
abbrev DI (h:HQ)(o1 o2:ID):HQ:=(DH h o1 o2).push { cls:=.type "tuple",data:=.seq [.none,.none].toArray }
abbrev zU (h:HQ)(o1 o2:ID):HQ:=(DI h o1 o2).push { cls:=.type "zip",data:=.fields [.none,.bool false,.bool false,.ref (DF h o1 o2).objs.size,.ref (DH h o1 o2).objs.size].toArray }
section
variable{prog:Hs}{w:HA}{B:Hy}{E:GM->GQ->Prop}{s:GQ}{v1 v2:GM}{o1 o2:ID}{C1 C2:HQ->Prop}
def ph (h1:dQ prog w v1 o1 C1)(h2:dQ prog w v2 o2 C2)(k2:∀h o,C2 h->C2 (h.push o)) :
  MeetsIn prog w (KS.«zip.__new__» #[[.type "zip",v1,v2],[]]) (λ_ R s=>C1 s.heap/\C2 s.heap/\R (.ok (.ret (.ref (DI s.heap o1 o2).objs.size))) { s with heap:=zU s.heap o1 o2 }):=
 .of_wp λA R s h=>by
  obtain⟨hp,g,d,tk,os⟩:=s;obtain⟨c1,c2,h⟩:=h;have hsub:=sub_zip;have d1:∀(B:Hy) (Q:GM->GQ->Prop) (E:GM->GQ->Prop),Q (.ref hp.objs.size) #[hp.push o1,g,d,tk,os]->wpAny (model prog w) B (pyIter v1) Q E #[hp,g,d,tk,os]:=λB Q E q=>h1 B #[hp,g,d,tk,os] Q E c1 q
  have d2:∀(B:Hy) (Q:GM->GQ->Prop) (E:GM->GQ->Prop),Q (.ref (hp.push o1).objs.size) #[(hp.push o1).push o2,g,d,tk,os]->wpAny (model prog w) B (pyIter v2) Q E #[hp.push o1,g,d,tk,os]:=λB Q E q=>h2 B #[hp.push o1,g,d,tk,os] Q E (k2 _ _ c2) q
  wp_walk using d1 _ _ _,d2 _ _ _
  exact#[_,rfl,h]
def uV {Q:GM->GQ->Prop}(h1:dQ prog w v1 o1 C1)(h2:dQ prog w v2 o2 C2)(k2:∀h o,C2 h->C2 (h.push o))(c1:C1 s.heap)(c2:C2 s.heap)(n1:o1.isFreed=false)(n2:o2.isFreed=false)
  (h:∀h',MM h' (s.heap.objs.size+4) (s.heap.objs.size+2) (s.heap.objs.size+3) .none->KP h' (s.heap.objs.size+2) (.ref s.heap.objs.size) (.ref (s.heap.objs.size+1))->KP h' (s.heap.objs.size+3) .none .none->
   h'.get? s.heap.objs.size=ba o1->h'.get? (s.heap.objs.size+1)=ba o2->h'.objs.size=s.heap.objs.size+5->(∀c o,s.heap.get? c=ba o->h'.get? c=ba o)->Q (.ref (s.heap.objs.size+4)) { s with heap:=h' }) :
  wpAny (model prog w) B (call (.type "zip") [v1,v2]) Q E s:=by
 show Oh F.called_zip #v[] (F.typeCall_zip_2 _ _) (F.newCall_zip_2 _ _) (λobj=>F.args_object_init_3 obj _ _) F.entry_zip_new (ph h1 h2 k2) #[c1,c2,?_]
 have e1:(s.heap.push o1).objs.size=s.heap.objs.size+1:=JD ..;have e2:(DF s.heap o1 o2).objs.size=s.heap.objs.size+2:=by unfold DF; rw[JD,e1]
 have e3:(DH s.heap o1 o2).objs.size=s.heap.objs.size+3:=by unfold DH; rw[JD,e2]
 have e4:(DI s.heap o1 o2).objs.size=s.heap.objs.size+4:=by unfold DI; rw[JD,e3]
 have e5:(zU s.heap o1 o2).objs.size=s.heap.objs.size+5:=by unfold zU; rw[JD,e4]
 have g5:(zU s.heap o1 o2).get? (DI s.heap o1 o2).objs.size=ba _:=G4 _ rfl;have g4:(zU s.heap o1 o2).get? (DH s.heap o1 o2).objs.size=ba _:=GN _ (G4 _ rfl);have g3:(zU s.heap o1 o2).get? (DF s.heap o1 o2).objs.size=ba _:=GN _ (GN _ (G4 _ rfl));have g2:(zU s.heap o1 o2).get? (s.heap.push o1).objs.size=ba o2:=GN _ (GN _ (GN _ (G4 _ n2)));have g1:(zU s.heap o1 o2).get? s.heap.objs.size=ba o1:=GN _ (GN _ (GN _ (GN _ (G4 _ n1))));rw[e2,e3,e4]at g5;rw[e1,e2]at g3;rw[e3]at g4;rw[e1]at g2;change _/\_;rw[e4];exact#[#[_,g5,rfl],h _ g5 g3 g4 g1 g2 e5 λc o x=>GN _ (GN _ (GN _ (GN _ (GN _ x))))]
end
end Mi
namespace Mi
open PySem PySem.Spec PyProof.Rows L2
open PySem.Builtin.SmallTypes (nextOf)
section
variable{prog:Hs}{w:HA}{A:Hy}{E:GM->GQ->Prop}{s:GQ}
def DJ {it t:GZ}{i:GX}{items:HD GM}{x:GM}{Q:GM->GQ->Prop}(hit:s.heap.IsTupleIter it t i)(ht:s.heap.IsTuple t items)(hx:items[i]?=ba x)
  (hQ:∀h',h'.IsTupleIter it t (i+1)->Je it s.heap h'->Q x { s with heap:=h' }):wpAny (model prog w) A (nextOf (.ref it)) Q E s:=by
 obtain⟨o,ho,hc,hd⟩:=id hit;obtain⟨ot,hot,_,nt,hdt⟩:=ht;unfold Ll;show GL (HW (name:=IW "__next__") hit.typeIs F.slot_tuple_iterator_next (Io F.slot_tuple_iterator_next hit.typeIs F.entry_tuple_iterator_next ?_ (F.args_tuple_iterator_next_1 _)));change wpAny _ _ (field (.ref it) 0 >>= _) _ _ s;show GL (IE ho hd (x:=.ref t) rfl ?_);change wpAny _ _ (if (HM t==Ic)=true then _ else _) _ _ s
 rw[Hu (show ¬ ((HM t==Ic)=true)from Hh)]
 change wpAny _ _ (field (.ref it) 1 >>= _) _ _ s;show GL (IE ho hd (x:=.int i 0) rfl (GL (IZ hot hdt ?_)));simp only[Hf,hx];show GL (Lb ho hd (by simp) (GY #[x,rfl,GY (hQ _ #[_,Jc _ ho (Mc (Kq hd _)),(Nm ..).trans hc,?_] (JR ..))]))
 rw[Kq hd]; simp[rawInt]
def DK {it t:GZ}{i:GX}{items:HD GM}{Q:GM->GQ->Prop}(hh:A.handled=gV)(hit:s.heap.IsTupleIter it t i)(ht:s.heap.IsTuple t items)(hx:items[i]?=gV)
  (hE:∀h' e,Mk it s.heap h'->(∃o,h'.get? e=ba o/\o.cls=.type "StopIteration")->E (.ref e) { s with heap:=h' }):wpAny (model prog w) A (nextOf (.ref it)) Q E s:=by
 obtain⟨o,ho,hc,hd⟩:=id hit;obtain⟨ot,hot,_,nt,hdt⟩:=ht;unfold Ll;show GL (HW (name:=IW "__next__") hit.typeIs F.slot_tuple_iterator_next (Io F.slot_tuple_iterator_next hit.typeIs F.entry_tuple_iterator_next ?_ (F.args_tuple_iterator_next_1 _)));change wpAny _ _ (field (.ref it) 0 >>= _) _ _ s;show GL (IE ho hd (x:=.ref t) rfl ?_);change wpAny _ _ (if (HM t==Ic)=true then _ else _) _ _ s
 rw[Hu (show ¬ ((HM t==Ic)=true)from Hh)]
 change wpAny _ _ (field (.ref it) 1 >>= _) _ _ s;show GL (IE ho hd (x:=.int i 0) rfl (GL (IZ hot hdt ?_)));simp only[Hf,hx];show GL (KI (GL (Lb ho hd (by simp) ?_)))
 change wpAny _ _ (newExc (.type "StopIteration") [] >>= _) _ _ _;show GL ?_;simp only[newExc,newTuple];show GL (HY ?_ (by size_fits))
 show GL (m:=firstArgMember _ _) (Lo (a:=Ic) (by first|rfl|(simp only[firstArgMember]; rfl)) (HY ?_ (by size_fits)))
 simp only[raiseNew];show GL (Oz ?_)
 first|rw[show A.in1.handled=gV from hh]|rw[hh]
 exact GL (GY (OY (hE _ _ (((JR ..).extBut.push _).push _) #[_,G4 _ rfl,rfl])))
end
inductive Zs where|tup (a:GZ)|lst (a:GZ)|txt (x:Ha)
abbrev Zs.T (it:GZ):Zs->GX->HQ->Prop
 | .tup a,i,h=>h.IsTupleIter it a i
 | .lst a,i,h=>h.IsListIter it a i
 | .txt x,i,h=>∃t,h.IsStrIter it "str_ascii_iterator" x t i\/h.IsStrIter it "str_iterator" x t i
abbrev Zs.at (K:G0)(H:Hp)(i:GX)(v:V):Zs->Prop
 | .tup a=>∃xs,SqT K H a xs/\xs[i]?=ba v
 | .lst a=>∃xs,SqL K H a xs/\xs[i]?=ba v
 | .txt x=>∃c,x.cps[i]?=ba c/\v=.str #[[c].toArray]
abbrev Zs.out (K:G0)(H:Hp)(i:GX):Zs->Prop
 | .tup a=>∃xs,SqT K H a xs/\xs.length<=i
 | .lst a=>∃xs,SqL K H a xs/\xs.length<=i
 | .txt x=>x.cps.size<=i
def Zs.keep {S:Zs}{it:GZ}{j:GX}{h h':HQ}(t:S.T it j h)(k:∀o,h.get? it=ba o->h'.get? it=ba o):S.T it j h':=by
 cases S with
 | tup a=>exact t.at k
 | lst a=>exact t.at k
 | txt x=>
  obtain⟨tk,t⟩:=t;exact#[tk,t.imp (λ#[o,e,r]=>#[o,k _ e,r]) λ#[o,e,r]=>#[o,k _ e,r]]
section
variable{X:Cx}{J:GK (GZ×ID)}{Y:L2.St}{H:Hp}{s:GQ}
def uW (I:Inv X J Y H s){a b:GZ}{o:ID}(h:X.K.lookup a=ba o)(f:fJ X J H b):a≠b:=λz=>by
 subst z;have hb:=I.ok.mod.kin a o h;rcases f.2.2.2.1 with q|q
 ·exact I.ok.noex a o hb q
 ·exact absurd (Ht (Hb (I.ok.bs a o hb).1) q) (IA _)
end
end Mi
namespace Mi
open PySem PySem.Spec PyProof.Rows L2
open PySem.Builtin.SmallTypes (nextOf)
section
variable{X:Cx}{J:GK (GZ×ID)}{Y:L2.St}{H:Hp}{s:GQ}{h':HQ}
def uX {a b:GZ}{u:HO}(h:Rd H a u)(f:H b=gV):a≠b:=λz=>by
 subst z;rcases h with h|⟨o,h⟩ <;> (rw[f]at h; cases h)
def Inv.turnedL {t':GX}{ch:GK GZ}(I:Inv X J Y H s)(k:∀b o,b∉ch->s.heap.get? b=ba o->h'.get? b=ba o)(hf:∀b∈ch,fJ X J H b):Inv X J Y H { s with heap:=h',toks:=t' }:=by
 have nit:∀b u,H b=ba u->b∉ch:=λb u e z=>by have:=(hf b z).1; rw[e]at this; cases this
 show I.step (g':=s.gens) (d':=s.drawn) (ch:=ch) (λb hb=>?_) (λb o _ _ hc e _=>k b o hc e) (λb o _ _ hc e _=>#[o.slots,k b o hc e]) (λ_ _ _ _ n=>n) (λb o hc e=>#[o,k b o hc e]) (λ_ _ e=>e) (λ_ _ _ e=>e) (λb ps e=>#[#[],by rw[e]; simp]) (λm hm=>?_) (λb u e=>?_) I.bare
 ·obtain⟨_,f1,_,f3,f4,f5⟩:=hf b hb;exact#[f3,f1,f4,f5]
 ·obtain⟨o,es,ep,ho,r⟩:=hm;exact#[o,es,ep,k _ o (λz=>(hf _ z).2.1 rfl) ho,r]
 ·show(I.hok b u e).stay (λc v hc q=>k c v ?_ q) (λ_ q=>q) λ_ _ q=>q
  rcases hc with z|z
  ·rw[z]; exact nit b u e
  ·exact nit c _ z
def Zs.zit {S:Zs}{it z q i1 i2:GZ}{i:GX}{Uq:GR V}(I:Inv X J Y H s)(hf:∀b∈[z,q,i1,i2],fJ X J H b)(g:match Uq with|some v=>S.at X.K H i v|none=>S.out X.K H i) :
  ∃C,Zit X.prog X.w it (S.T it) C i (Uq.map λv u=>RelV v u)/\C s.heap/\Zc z q i1 i2 C:=by
 have zc:∀(a:GZ) (P:HQ->Prop),(∀h h',P h->(∀o,h.get? a=ba o->h'.get? a=ba o)->P h')->(∀b∈[z,q,i1,i2],a≠b)->Zc z q i1 i2 P:=λa P hP hn h h' p k=>
  hP h h' p λo e=>k a o (hn z (by simp)) (hn q (by simp)) (hn i1 (by simp)) (hn i2 (by simp)) e
 have sep:∀ {a:GZ} {u:HO} {o:ID} {b:GZ},(Rd H a u\/X.K.lookup a=ba o)->b∈[z,q,i1,i2]->a≠b:=λh hb=>h.elim (λr=>uX r (hf _ hb).1) λr=>uW I r (hf _ hb)
 cases S with
 | tup a=>
  obtain⟨xs,hq,hx⟩ : ∃xs,SqT X.K H a xs/\(match Uq with|some v=>xs[i]?=ba v|none=>xs.length<=i):=by
   cases Uq <;> exact g
  obtain⟨its,rv,p,_⟩:=I.tuple hq;have hne:∀b∈[z,q,i1,i2],a≠b:=λb hb=>by
   rcases hq with r|⟨o,_,_,r,_⟩
   ·exact uX r (hf b hb).1
   ·exact uW I r (hf b hb)
  show#[λh=>h.IsTuple a its.toArray,#[λj h h' t k=>Zs.keep (S:=.tup a) t k,λV hV B s2 Q E t c hQ=>?_,λhU B s2 Q E hh t c hE=>?_],p,zc a _ (λh h' #[o,e,r] k=>#[o,k _ e,r]) hne]
  ·cases Uq with
   | none=>cases hV
   | some v=>
    cases hV;obtain⟨u,hu,ru⟩:=rv.get hx;exact DJ t c (x:=u) (by simpa using hu) λh' t' sb=>hQ u h' s2.toks ru t' sb
  ·cases Uq with
   | some v=>cases hU
   | none=>
    have:=L2.Vals.length rv;have hx':xs.length<=i:=hx;exact DK hh t c (by simp; omega) hE
 | lst a=>
  obtain⟨xs,hq,hx⟩ : ∃xs,SqL X.K H a xs/\(match Uq with|some v=>xs[i]?=ba v|none=>xs.length<=i):=by
   cases Uq <;> exact g
  obtain⟨its,rv,p,_⟩:=I.list hq;have hne:∀b∈[z,q,i1,i2],a≠b:=λb hb=>by
   rcases hq with r|⟨o,_,_,r,_⟩
   ·exact uX r (hf b hb).1
   ·exact uW I r (hf b hb)
  show#[λh=>h.IsList a its.toArray,#[λj h h' t k=>Zs.keep (S:=.lst a) t k,λV hV B s2 Q E t c hQ=>?_,λhU B s2 Q E hh t c hE=>?_],p.isList,zc a _ (λh h' #[o,e,r] k=>#[o,k _ e,r]) hne]
  ·cases Uq with
   | none=>cases hV
   | some v=>
    cases hV;obtain⟨u,hu,ru⟩:=rv.get hx;exact wpAny_nextOf_list_item t c (x:=u) (by simpa using hu) λh' t' sb=>hQ u h' s2.toks ru t' sb
  ·cases Uq with
   | some v=>cases hU
   | none=>
    have:=L2.Vals.length rv;have hx':xs.length<=i:=hx;exact wpAny_nextOf_list_end hh t c (by simp; omega) hE
 | txt x=>
  show#[λ_=>MQ,#[λj h h' t k=>Zs.keep (S:=.txt x) t k,λV hV B s2 Q E t _ hQ=>?_,λhU B s2 Q E hh t _ hE=>?_],trivial,λ_ _ _ _=>trivial]
  ·cases Uq with
   | none=>cases hV
   | some v=>
    cases hV;obtain⟨c,hc,rfl⟩ : ∃c,x.cps[i]?=ba c/\v=.str #[[c].toArray]:=g;obtain⟨tk,t|t⟩:=t
    ·exact wpAny_nextOf_ascii_item t hc λh' t' sb=>hQ _ h' _ #[_,rfl] #[tk,.inl t'] sb
    ·exact wpAny_nextOf_wide_item t hc λh' t' sb=>hQ _ h' _ #[_,rfl] #[tk,.inr t'] sb
  ·cases Uq with
   | some v=>cases hU
   | none=>
    have hx:x.cps[i]?=gV:=by simpa using(show x.cps.size<=i from g)
    obtain⟨tk,t|t⟩:=t
    ·exact wpAny_nextOf_ascii_end hh t hx hE
    ·exact wpAny_nextOf_wide_end hh t hx hE
end
abbrev Zs.is (K:G0)(H:Hp)(i:GX)(v:V):Zs->Prop
 | .tup a=>∀xs,SqT K H a xs->xs[i]?=ba v
 | .lst a=>∀xs,SqL K H a xs->xs[i]?=ba v
 | .txt x=>∃c,x.cps[i]?=ba c/\v=.str #[[c].toArray]
def Zs.at_is {S:Zs}{X:Cx}{J:GK (GZ×ID)}{Y:L2.St}{H:Hp}{s:GQ}{i:GX}{v:V}(I:Inv X J Y H s)(h:S.at X.K H i v):S.is X.K H i v:=by
 cases S with
 | tup a=>obtain⟨xs,hq,hx⟩:=h; exact λys hy=>by rw[I.tuple_inj hy hq]; exact hx
 | lst a=>obtain⟨xs,hq,hx⟩:=h; exact λys hy=>by rw[I.list_inj hy hq]; exact hx
 | txt x=>exact h
abbrev EQ (K:G0)(S1 S2:Zs):It:=
 #[λi H=>∃x y,S1.at K H i x/\S2.at K H i y,λi H v H'=>∃p x y,S1.is K H i x/\S2.is K H i y/\v=.ref p/\H p=gV/\H'=be H p (.tup [x,y]),λi H=>S1.out K H i\/(∃x,S1.at K H i x)/\S2.out K H i]
def uY {P:Hs}{w:HA}{K:G0}{els:GK Hi}{k0:GX}{tp:Jt}{S1 S2:Zs}{z p q i1 i2:GZ}(D:Zap z p q i1 i2) :
  Turn P w K (.Tuple els k0 tp) (EQ K S1 S2) [z,p,q,i1,i2] z (λi h=>MM h z p q .none/\KP h p (.ref i1) (.ref i2)/\(∃a b,KP h q a b)/\S1.T i1 i h/\S2.T i2 i h) where
 mem:=by simp
 obj:=λi h #[a,b,#[u,v,c],d,e] b' hb=>by
  have it:∀ {S:Zs} {it:GZ},S.T it i h->∃o,h.get? it=ba o/\∀v,o.data≠.cell v:=λ{S it} t=>by
   cases S with
   | tup a=>obtain⟨o,e,_,d⟩:=t; exact#[o,e,λv z=>by rw[d]at z; cases z]
   | lst a=>obtain⟨o,e,_,d⟩:=t; exact#[o,e,λv z=>by rw[d]at z; cases z]
   | txt x=>obtain⟨tk,⟨o,e,_,d⟩|⟨o,e,_,d⟩⟩:=t <;> exact#[o,e,λv z=>by rw[d]at z; cases z]
  simp only[Hj,HE,IY]at hb;rcases hb with rfl|rfl|rfl|rfl|rfl
  ·exact#[_,a,λv z=>by cases z]
  ·exact#[_,b,λv z=>by cases z]
  ·exact#[_,c,λv z=>by cases z]
  ·exact it d
  ·exact it e
 keep:=λi h h' #[a,b,#[u,v,c],d,e] k=>#[k z (by simp) _ a,k p (by simp) _ b,#[u,v,k q (by simp) _ c],Zs.keep d (k i1 (by simp)),Zs.keep e (k i2 (by simp))]
 item:=by
  intro X hP hw hK hc i J s Y H E I hf st hg;subst hP hw hK;obtain⟨x,y,g1,g2⟩:=hg;obtain⟨a,b,⟨u,v,c⟩,d,e⟩:=st;have hf4:∀b∈[z,q,i1,i2],fJ X J H b:=λb hb=>hf b (by simp only[Hj,HE,IY]at hb ⊢; rcases hb with h|h|h|h <;> simp[h])
  obtain⟨C1,Zz,c1,k1⟩:=Zs.zit (it:=i1) (Uq:=ba x) I hf4 g1;obtain⟨C2,Zq,c2,k2⟩:=Zs.zit (it:=i2) (Uq:=ba y) I hf4 g2;have hT:s.TypeIs (.ref z) "zip":=#[_,a,rfl];unfold pyNext;show GL (Km (HW (name:=IW "__next__") hT F.slot_zip_next (Io F.slot_zip_next hT F.entry_zip_next ?_ (F.args_zip_next_1 _))));show ji D Zz (λ_ _=>Zq) k1 k2 (I.ok.hd hc) a b c d e c1 c2 (λV1 V2 e1 e2 u1 u2 g tk r1 r2 zg qg t1 t2 ng kp=>?_) (λz=>by rcases z with z|z <;> cases z)
  cases e1;cases e2;show GY #[_,rfl,?_];show wpAny_letOwnedTupleGo_zip (s:={ s with heap:=g,toks:=tk }) zg λg' zg' sb=>?_
  have N0:H s.heap.objs.size=gV:=I.hok.fresh (G2 _);have lt:∀ {b:GZ},b∈[z,p,q,i1,i2]->s.heap.objs.size≠b:=λ{b} hb=>by
   have:∃o,s.heap.get? b=ba o:=by
    have it:∀ {S:Zs} {it:GZ},S.T it i s.heap->∃o,s.heap.get? it=ba o:=λ{S it} t=>by
     cases S with
     | tup a=>obtain⟨o,e,_⟩:=t; exact#[o,e]
     | lst a=>obtain⟨o,e,_⟩:=t; exact#[o,e]
     | txt x=>obtain⟨tk,⟨o,e,_⟩|⟨o,e,_⟩⟩:=t <;> exact#[o,e]
    simp only[Hj,HE,IY]at hb;rcases hb with rfl|rfl|rfl|rfl|rfl
    ·exact#[_,a]
    ·exact#[_,b]
    ·exact#[_,c]
    ·exact it d
    ·exact it e
   obtain⟨o,e⟩:=this;exact IH (Hb e)
  have up:∀b o,b∉[z,q,i1,i2]->s.heap.get? b=ba o->g'.get? b=ba o:=λb o hb e=>by
   simp only[Hj,HE,IY,ND]at hb;exact sb.extBut _ _ hb.1 (kp b o hb.1 hb.2.1 hb.2.2.1 hb.2.2.2 e)
  have I1:Inv X J Y H { s with heap:=g',toks:=tk }:=Mi.Inv.turnedL I up hf4
  have ng':KP g' s.heap.objs.size u1 u2:=sb.extBut _ _ (lt (by simp)) ng
  have I2:Inv X J Y (be H s.heap.objs.size (.tup [x,y])) { s with heap:=g',toks:=tk }:=by
   show Mi.Inv.adopt I1 N0 (.inr I.sz) (IH I.lt) (λw c e=>?_) (λp hp=>?_) #[by change 2<=sizeLine; decide,[u1,u2],.cons r1 #v[r2],#[_,ng',rfl,0,rfl]]
   ·obtain⟨v,q⟩:=I.cell w c e;exact Hn q.lt
   ·exact Hn (Hb (I.pin p hp).1)
  show#[.ref s.heap.objs.size,_,I2,rfl,#[s.heap.objs.size,x,y,Zs.at_is I g1,Zs.at_is I g2,rfl,N0,rfl],#[zg',up p _ ?_ b,#[u1,u2,sb.extBut _ _ D.qz qg],Zs.keep t1 λo e=>sb.extBut _ _ D.iz e,Zs.keep t2 λo e=>sb.extBut _ _ D.jz e],λb hb=>?_]
  ·simp only[Hj,HE,IY,ND];exact#[D.pz,D.pq,D.pi,D.pj]
  ·rw[az (Ne.symm (lt hb))];exact(hf b hb).1
 done:=by
  intro X hP hw hK hc i J s Y H E I hf st hg;subst hP hw hK;obtain⟨a,b,⟨u,v,c⟩,d,e⟩:=st;have hf4:∀b∈[z,q,i1,i2],fJ X J H b:=λb hb=>hf b (by simp only[Hj,HE,IY]at hb ⊢; rcases hb with h|h|h|h <;> simp[h])
  have hT:s.TypeIs (.ref z) "zip":=#[_,a,rfl];unfold pyNext;show GL (Km (HW (name:=IW "__next__") hT F.slot_zip_next (Io F.slot_zip_next hT F.entry_zip_next ?_ (F.args_zip_next_1 _))));have ends:∀h' tk e,(∀c o,c≠z->c≠q->c≠i1->c≠i2->s.heap.get? c=ba o->h'.get? c=ba o)->(∃o,h'.get? e=ba o/\o.cls=.type "StopIteration")->
    wpAny (model X.prog X.w) X.A (do if <- isInstance (.ref e) (.type "StopIteration")then pure (gV:GR GM)else throw (.ref e)) (λr s1=>r=gV/\Inv X J Y H s1) E { s with heap:=h',toks:=tk }:=λh' tk e k #[o,ho,hc]=>
   GL (KN (T:="StopIteration") (b:=true) #[o,ho,hc] Ml (GY #[rfl,Mi.Inv.turnedL I (λb o hb e=>by
    simp only[Hj,HE,IY,ND]at hb;exact k b o hb.1 hb.2.1 hb.2.2.1 hb.2.2.2 e) hf4]))
  rcases hg with g1|⟨⟨x,g1⟩,g2⟩
  ·obtain⟨C1,Zz,c1,k1⟩:=Zs.zit (it:=i1) (Uq:=gV) I hf4 g1;exact ji (U2:=gV) D Zz (λV1 e1=>by cases e1) k1 (C2:=λ_=>MQ) (λ_ _ _ _=>trivial) (I.ok.hd hc) a b c d e c1 trivial (λV1 V2 e1 _=>by cases e1) λ_ h' tk e k he=>ends h' tk e k he
  ·obtain⟨C1,Zz,c1,k1⟩:=Zs.zit (it:=i1) (Uq:=ba x) I hf4 g1;obtain⟨C2,Zq,c2,k2⟩:=Zs.zit (it:=i2) (Uq:=gV) I hf4 g2;exact ji D Zz (λ_ _=>Zq) k1 k2 (I.ok.hd hc) a b c d e c1 c2 (λV1 V2 _ e2=>by cases e2) λ_ h' tk e k he=>ends h' tk e k he
 self:=λ_ _ _ _ _ st h=>NH st.1 h
end Mi
namespace Mi
open PySem PySem.Spec PyProof.Rows L2
abbrev BH:W->GR (GK W)
 | .tup xs=>ba xs
 | .str x=>ba (x.cps.toList.map λc=>.str #[[c].toArray])
 | _=>gV
abbrev uZ (f:FA):FI:=λZ S=>match f Z S with
 | some ([x,y],S1)=>match BH x,BH y with
  | some xs,ba ys=>ba (.its (gp xs ys),S1)
  | _,_=>match x,y with
   | .ref r,.ref q=>match eF S1 r,eF S1 q with
    | some _,ba _=>ba (.zl r q,S1)
    | _,_=>gV
   | _,_=>gV
 | _=>gV
section
variable{X:Cx}{J:GK (GZ×ID)}{Y:L2.St}{H:Hp}{s:GQ}{A:GK GZ}
abbrev ZRel (K:G0)(A:GK GZ)(H:Hp)(xs:GK W):Zs->Prop
 | .tup a=>∃vs,SqT K H a vs/\RelL K A H xs vs
 | .lst a=>Iq
 | .txt x=>xs=x.cps.toList.map λc=>.str #[[c].toArray]
def ZRel.mono {K:G0}{A A':GK GZ}{H H':Hp}{xs:GK W}{S:Zs}(e:Ext K A H A' H')(h:ZRel K A H xs S):ZRel K A' H' xs S:=by
 cases S with
 | tup a=>obtain⟨vs,h1,h2⟩:=h; exact#[vs,e.tp _ _ h1,h2.mono e]
 | lst a=>exact h
 | txt x=>exact h
def ZRel.at {K:G0}{xs:GK W}{S:Zs}{i:GX}{w:W}(h:ZRel K A H xs S)(hi:xs[i]?=ba w):∃v,S.at K H i v/\Rel K A H w v:=by
 cases S with
 | tup a=>obtain⟨vs,h1,h2⟩:=h; obtain⟨v,h3,h4⟩:=h2.get hi; exact#[v,#[vs,h1,h3],h4]
 | lst a=>exact h.elim
 | txt x=>
  have h:xs=x.cps.toList.map λc=>.str #[[c].toArray]:=h
  subst h;rw[G1,GP]at hi;obtain⟨c,hc,rfl⟩:=hi;exact#[.str #[[c].toArray],#[c,by rw[<- Il]; exact hc,rfl],.str]
def ZRel.is {K:G0}{xs:GK W}{S:Zs}{i:GX}{w:W}{v:V}(h:ZRel K A H xs S)(hi:xs[i]?=ba w)(z:S.is K H i v):Rel K A H w v:=by
 obtain⟨v',h1,h2⟩:=h.at hi;cases S with
 | tup a=>
  obtain⟨vs,q,e⟩:=h1;have:=z vs q;rw[e]at this; cases this
  exact h2
 | lst a=>exact h.elim
 | txt x=>
  obtain⟨c,e,rfl⟩:=h1;obtain⟨c',e',rfl⟩:=z;rw[e]at e'; cases e'
  exact h2
def ZRel.out {K:G0}{xs:GK W}{S:Zs}{i:GX}(h:ZRel K A H xs S)(hi:xs.length<=i):S.out K H i:=by
 cases S with
 | tup a=>obtain⟨vs,h1,h2⟩:=h; exact#[vs,h1,by rw[<- h2.length]; exact hi]
 | lst a=>exact h.elim
 | txt x=>
  have h:xs=x.cps.toList.map λc=>.str #[[c].toArray]:=h
  subst h;change x.cps.size<=i
  simpa using hi
def nv {xs ys:GK W}{i:GX}{w:W}(h:(gp xs ys)[i]?=ba w):∃x y,xs[i]?=ba x/\ys[i]?=ba y/\w=.tup [x,y]:=by
 unfold gp at h;rw[KF]at h;split at h
 ·rename_i x y e1 e2;cases h;exact#[x,y,e1,e2,rfl]
 ·cases h
def yP {S1 S2:Zs}{xs ys:GK W}(z1:ZRel X.K A H xs S1)(z2:ZRel X.K A H ys S2):MIt X.w X.K (.its (gp xs ys)) (EQ X.K S1 S2) A H:=by
 show#[λA' H' S i w e so hi=>?_,λA' H' S i e so hi=>?_]
 ·simp only[MI.at,Hm]at hi;obtain⟨x,y,e1,e2,rfl⟩:=nv hi;obtain⟨v,g1,r1⟩:=(z1.mono e).at e1;obtain⟨u,g2,r2⟩:=(z2.mono e).at e2;show#[#[v,u,g1,g2],λp H2 #[a,v',u',q1,q2,hp,hn,hH]=>?_]
  subst hp hH;have ex:Ext X.K A' H' A' (be H' a (.tup [v',u'])):=bN (.inl hn);exact#[ex,so.lay hn,.tup (.of aI) #v[((z1.mono e).is e1 q1).mono ex,((z2.mono e).is e2 q2).mono ex]]
 ·simp only[MI.at,Hm,Iv,gp,IJ]at hi
  by_cases h1:xs.length<=i
  ·exact .inl ((z1.mono e).out h1)
  ·have hx:i < xs.length:=∅
   obtain⟨v,g1,_⟩:=(z1.mono e).at (G5 hx);exact .inr #[#[v,g1],(z2.mono e).out ∅]
def u4 {r q:GX}{a b:GZ}(ea:A[r]?=ba a)(eb:A[q]?=ba b):MIt X.w X.K (.zl r q) (EQ X.K (.lst a) (.lst b)) A H:=by
 show#[λA' H' S i w e so hi=>?_,λA' H' S i e so hi=>?_]
 ·simp only[MI.at]at hi;split at hi
  ·rename_i xs ys hx hy;simp only[Hm]at hi;obtain⟨x,y,e1,e2,rfl⟩:=nv hi;obtain⟨vs,h1,r1⟩:=aX so hx (e.ad _ _ ea);obtain⟨us,h2,r2⟩:=aX so hy (e.ad _ _ eb);obtain⟨v,g1,q1⟩:=r1.get e1;obtain⟨u,g2,q2⟩:=r2.get e2;show#[#[v,u,#[vs,h1,g1],#[us,h2,g2]],λp H2 #[c,v',u',z1,z2,hp,hn,hH]=>?_]
   subst hp hH;have t1:=z1 vs h1;rw[g1]at t1; cases t1
   have t2:=z2 us h2;rw[g2]at t2; cases t2
   have ex:Ext X.K A' H' A' (be H' c (.tup [v,u])):=bN (.inl hn);exact#[ex,so.lay hn,.tup (.of aI) #v[q1.mono ex,q2.mono ex]]
  ·cases hi
 ·simp only[MI.at]at hi;split at hi
  ·rename_i xs ys hx hy;simp only[Hm,Iv,gp,IJ]at hi;obtain⟨vs,h1,r1⟩:=aX so hx (e.ad _ _ ea);obtain⟨us,h2,r2⟩:=aX so hy (e.ad _ _ eb)
   by_cases hl:xs.length<=i
   ·exact .inl #[vs,h1,by rw[<- r1.length]; exact hl]
   ·have hx':i < xs.length:=∅
    obtain⟨v,g1,_⟩:=r1.get (G5 hx');exact .inr #[#[v,vs,h1,g1],us,h2,by rw[<- r2.length]; omega]
  ·cases hi
def lJ {x:W}{v:V}{u:GM}{xs:GK W}(I:Inv X J Y H s)(r:Rel X.K A H x v)(ru:RelV v u)(e:BH x=ba xs) :
  ∃(S:Zs) (o:ID) (C:HQ->Prop),ZRel X.K A H xs S/\dQ X.prog X.w u o C/\C s.heap/\(∀h o,C h->C (h.push o))/\o.isFreed=false/\∀it h,h.get? it=ba o->S.T it 0 h:=by
 cases r with
 | @tup ws a vs hq rl=>
  cases e;obtain⟨its,rv,p,_⟩:=I.tuple hq;obtain rfl:u=HM a:=ru;exact#[.tup a,{ cls:=.type "tuple_iterator",data:=.fields [.ref a,.int 0 0].toArray },λh=>h.IsTuple a its.toArray,#[vs,hq,rl],λB s Q E c hQ=>M1 c hQ,p,λh o #[ot,e,r]=>#[ot,GN _ e,r],rfl,λit h e=>#[_,e,rfl,rfl]]
 | @str x=>
  cases e;obtain⟨t,rfl⟩:=ru;cases ha:x.cps.all (· < 128)with
  | false=>exact#[.txt x,{ cls:=.type "str_iterator",data:=.fields [.str x t,.int 0 0].toArray },λ_=>MQ,rfl,λB s Q E _ hQ=>wpAny_pyIter_wide ha hQ,trivial,λ_ _ _=>trivial,rfl,λit h e=>#[t,.inr #[_,e,rfl,rfl]]]
  | true=>exact#[.txt x,{ cls:=.type "str_ascii_iterator",data:=.fields [.str x t,.int 0 0].toArray },λ_=>MQ,rfl,λB s Q E _ hQ=>M2 ha hQ,trivial,λ_ _ _=>trivial,rfl,λit h e=>#[t,.inl #[_,e,rfl,rfl]]]
 | _=>cases e
def u5:bootBuiltins "zip" = ba (.type "zip"):=rfl
def qA {a:GZ}{xs:GK V}{u:GM}(I:Inv X J Y H s)(ru:RelV (.ref a) u)(hq:SqL X.K H a xs) :
  ∃(o:ID) (C:HQ->Prop),dQ X.prog X.w u o C/\C s.heap/\(∀h o,C h->C (h.push o))/\o.isFreed=false/\∀it h,h.get? it=ba o->(Zs.lst a).T it 0 h:=by
 obtain⟨its,rv,p,_⟩:=I.list hq;obtain rfl:u=HM a:=ru;exact#[{ cls:=.type "list_iterator",data:=.fields [.ref a,.int 0 0].toArray },λh=>h.IsList a its.toArray,λB s Q E c hQ=>J5 c hQ,p.isList,λh o #[ot,e,r]=>#[ot,GN _ e,r],rfl,λit h e=>#[_,e,rfl,rfl]]
def BI {els:GK Hi}{k0:GX}{tp:Jt}{a b:Hi}{f:FA}{p pos:Jt}(hg:Gl X "zip")(hm:X.mg "zip" = gV)(ha:GA X [a,b] f)(hs:starEach [a,b] X.env=[(false,eval a X.env),(false,eval b X.env)])(hs2:starEach [b] X.env=[(false,eval b X.env)]) :
  GI X (.Tuple els k0 tp) (.Call (.Name "zip" p) [a,b] [] pos) (uZ f):=by
 intro J s Y H R I ⟨A,Z,S,mi,S',er,so,e,hq⟩;have fin:∀ {s1:GQ} {H1:Hp} {u v:GM} {Sa Sb:Zs} {oa ob:ID} {Ca Cb:HQ->Prop},Inv X J Y H1 s1->dQ X.prog X.w u oa Ca->Ca s1.heap->oa.isFreed=false->(∀it h,h.get? it=ba oa->Sa.T it 0 h)->dQ X.prog X.w v ob Cb->Cb s1.heap->(∀h o,Cb h->Cb (h.push o))->ob.isFreed=false->(∀it h,h.get? it=ba ob->Sb.T it 0 h)->R (EQ X.K Sa Sb) H1->
   wpAny (model X.prog X.w) X.A (call (.type "zip") [u,v]) (λv s=>wpAny (model X.prog X.w) X.A (pyIter v) (C0 X J Y (.Tuple els k0 tp) R) X.xe s) X.xe s1:=λ{s1 H1 u v Sa Sb oa ob Ca Cb} I1 ia ca na ta ib cb kb nb tb hR=>by
  show uV ia ib kb ca cb na nb λh' hz hp hq' g1 g2 hsz kp=>?_
  have I2:Inv X J Y H1 { s1 with heap:=h' }:=I1.kept (t':=s1.toks) kp
  show NH (s:={ s1 with heap:=h' }) hz ?_
  have D:Zap (s1.heap.objs.size+4) (s1.heap.objs.size+2) (s1.heap.objs.size+3) s1.heap.objs.size (s1.heap.objs.size+1):=by constructor <;> (intro z; simp at z)
  show#[s1.heap.objs.size+4,_,_,_,H1,rfl,I2,uY (S1:=Sa) (S2:=Sb) D,#[hz,hp,#[_,_,hq'],ta _ _ g1,tb _ _ g2],λb hb=>?_,hR]
  have hb':s1.heap.objs.size<=b:=by
   simp only[Hj,HE,IY]at hb;rcases hb with rfl|rfl|rfl|rfl|rfl
   ·exact Kd _ _
   ·exact Kd _ _
   ·exact Kd _ _
   ·exact G2 _
   ·exact Kd _ _
  exact I1.fpOk hb' (I1.hok.fresh hb')
 unfold uZ at e;split at e
 ·rename_i x y S1 h1;show Px (fI I hg hm u5 (IU (aT (ha pos J s Y H _ I #[A,Z,S,_,_,er,so,h1,λ_ _ z=>z]) λus s1 #[vs,H1,I1,r1,A1,z1,z2,z3]=>?_) (by rw[hs,hs2]) (by rw[hs2]; rfl)))
  cases z3 with
  | cons ra t=>
   cases t with
   | cons rb t=>
    cases t;cases r1 with
    | cons ua t=>
     cases t with
     | cons ub t=>
      cases t;split at e
      ·rename_i xs ys e1 e2;cases e;obtain⟨Sa,oa,Ca,za,ia,ca,ka,na,ta⟩:=lJ I1 ra ua e1;obtain⟨Sb,ob,Cb,zb,ib,cb,kb,nb,tb⟩:=lJ I1 rb ub e2;exact fin I1 ia ca na ta ib cb kb nb tb (hq _ _ A1 z1 z2 (yP za zb))
      ·split at e
       ·rename_i r q;split at e
        ·rename_i xs ys hx hy;cases e;cases ra with
         | @ref _ a ea=>
          cases rb with
          | @ref _ b eb=>
           obtain⟨va,q1,_⟩:=aX z2 hx ea;obtain⟨vb,q2,_⟩:=aX z2 hy eb;obtain⟨oa,Ca,ia,ca,ka,na,ta⟩:=qA I1 ua q1;obtain⟨ob,Cb,ib,cb,kb,nb,tb⟩:=qA I1 ub q2;exact fin I1 ia ca na ta ib cb kb nb tb (hq _ _ A1 z1 z2 (u4 ea eb))
        ·cases e
       ·cases e
 ·cases e
end
open PySem.Builtin.SmallTypes (nextOf)
section
variable{prog:Hs}{w:HA}{B:Hy}{E:GM->GQ->Prop}{s:GQ}{e it:GZ}{T:GX->HQ->Prop}{C:HQ->Prop}{i:GX}{old:GM}
structure EnAt (h0 h:HQ)(e it:GZ)(fs:HD GM)(T:HQ->Prop):Prop where
 here:h.get? e=ba { cls:=.type "enumerate",dict:=gV,data:=.fields fs,slots:=#[] }
 turn:T h
 kept:∀b o,b≠e->b≠it->h0.get? b=ba o->h.get? b=ba o
def EnAt.put {h0:HQ}{fs:HD GM}{T:HQ->Prop}{k:GX}{v:GM}{Q:O8->GQ->Prop}(x:EnAt h0 s.heap e it fs T)(hne:e≠it)(kT:∀h h',T h->(∀o,h.get? it=ba o->h'.get? it=ba o)->T h')(hk:k < fs.size)
  (q:∀h',EnAt h0 h' e it (fs.setIfInBounds k v) T->Je e s.heap h'->Q () { s with heap:=h' }):wpAny (model prog w) B (setField (.ref e) k v) Q E s:=
 J0 x.here hk λh' y sb=>q h' #[y,kT _ _ x.turn λo z=>sb.extBut _ _ (Ne.symm hne) z,λb o h1 h2 z=>sb.extBut b o h1 (x.kept b o h1 h2 z)] sb
def kh {Uq:GR (GM->Prop)}{Q:GM->GQ->Prop}(Zx:Zit prog w it T C i Uq)(hh:B.handled=gV)(he:Pf s.heap e it (i:G7) old)(t:T i s.heap)(c:C s.heap)(hne:e≠it)
  (hI:∀V,Uq=ba V->∀u h' tk tk0,V u->IsEnumOut h' e it ((i:G7)+1) u s.heap.objs.size->T (i+1) h'->h'.get? s.heap.objs.size=ba { cls:=.type "tuple",data:=.seq [.int i tk0,u].toArray }->
   (∀b o,b≠e->b≠it->s.heap.get? b=ba o->h'.get? b=ba o)->Q (.ref s.heap.objs.size) { s with heap:=h',toks:=tk })
  (hE:Uq=gV->∀h' x,Mk it s.heap h'->(∃o,h'.get? x=ba o/\o.cls=.type "StopIteration")->E (.ref x) { s with heap:=h' }) :
  wpAny (model prog w) B (KS.«enumerate.__next__» #[[.ref e],[]]) (λfin s'=>∃v,fin=.done (.ret v)/\Q v s') E s:=by
 obtain⟨hp,g,d,tk,os⟩:=s;change wpAny _ _ (field (.ref e) 2 >>= _) _ _ _;show GL (IE he rfl (x:=.ref it) rfl (GL ?_));cases Uq with
 | none=>exact Zx.stop rfl _ _ _ _ hh t c λh' x a b=>hE rfl h' x a b
 | some V=>
  show Zx.next V rfl _ _ _ _ t c λu ha tka hu ta sba=>?_
  have kT:=Zx.keep (i+1);have xa:EnAt hp ha e it [.none,.bool false,.ref it,rawInt i,.none,old].toArray (T (i+1)):=#[(sba.2 e hne).trans he,ta,λb o _ h2 z=>sba.extBut b o h2 z]
  have za:ha.objs.size=hp.objs.size:=sba.1;clear sba ta;change wpAny _ _ (field (.ref e) 3 >>= _) _ _ #[ha,g,d,tka,os];show GL (IE xa.here rfl (x:=rawInt i) rfl ?_);change wpAny _ _ (field (.ref e) 4 >>= _) _ _ #[ha,g,d,tka,os];show GL (IE xa.here rfl (x:=.none) rfl ?_);change wpAny _ _ (mkInt i >>= _) _ _ #[ha,g,d,tka,os];show GL (NR (GL (xa.put (s:=#[ha,g,d,tka+1,os]) hne kT (by simp) λhb xb sb1=>GL (xb.put (s:=#[hb,g,d,tka+1,os]) hne kT (by simp) λhc xc sb2=>GL (Mo ?_)))))
  have zc:hc.objs.size=hp.objs.size:=by rw[sb2.1,<- za]; exact sb1.1
  have hel:hp.objs.size≠e:=IH (Hb he);have new:=G4 hc (o:={ cls:=.type "tuple",data:=.seq [.int i tka,u].toArray }) rfl;have xd:EnAt hp (hc.push { cls:=.type "tuple",data:=.seq [.int i tka,u].toArray }) e it [.none,.bool false,.ref it,rawInt ((i:G7)+1),.none,old].toArray (T (i+1)):=#[GN _ xc.here,kT _ _ xc.turn λo z=>GN _ z,λb o h1 h2 z=>GN _ (xc.kept b o h1 h2 z)]
  rw[zc]at new;change wpAny _ _ (IN (.ref e) >>= _) _ _ #[hc.push _,g,d,tka+1,os];rw[zc];generalize hc.push { cls:=.type "tuple",data:=.seq [.int i tka,u].toArray }=hd at new xd ⊢;clear zc sb2 xc sb1 xb hb xa za;show GL ?_;unfold IN;show GL (IE xd.here rfl (x:=.none) rfl (GY ?_));simp only[JQ];show GL (KI (GL (IE xd.here rfl (x:=old) rfl (GL (xd.put (s:=#[hd,g,d,tka+1,os]) hne kT (by simp) λh1 x1 s1=>GL ?_)))))
  unfold Ju;show GL (x1.put (s:=#[h1,g,d,tka+1,os]) hne kT (by simp) λh2 x2 s2=>x2.put (s:=#[h2,g,d,tka+1,os]) hne kT (by simp) λh3 x3 s3=>GL (J8 (GY #[_,rfl,hI V rfl u h3 (tka+1) tka hu x3.here x3.turn ?_ x3.kept])))
  exact s3.extBut _ _ hel (s2.extBut _ _ hel (s1.extBut _ _ hel new))
variable{v:GM}{o:ID}
def nw (h1:dQ prog w v o C) :
  MeetsIn prog w (KS.«enumerate.__new__» #[[.type "enumerate",v],[]]) (λ_ R s=>C s.heap/\R (.ok (.ret (.ref (s.heap.push o).objs.size))) { s with heap:=(s.heap.push o).push { cls:=.type "enumerate",data:=.fields [.none,.bool false,.ref s.heap.objs.size,rawInt 0,.none,.none].toArray } }):=
 .of_wp λA R s h=>by
  obtain⟨hp,g,d,tk,os⟩:=s;obtain⟨c,h⟩:=h;have hsub:=sub_enumerate;have d1:∀(B:Hy) (Q:GM->GQ->Prop) (E:GM->GQ->Prop),Q (.ref hp.objs.size) #[hp.push o,g,d,tk,os]->wpAny (model prog w) B (pyIter v) Q E #[hp,g,d,tk,os]:=λB Q E q=>h1 B #[hp,g,d,tk,os] Q E c q
  wp_walk
  show wpAny_stack_any λst=>GY ?_
  split
  ·rename_i c _ _ _ _ _;cases(c==JL "enumerate")
   ·wp_walk using d1 _ _ _
    exact#[_,rfl,h]
   ·wp_walk using d1 _ _ _
    exact#[_,rfl,h]
  ·wp_walk using d1 _ _ _
   exact#[_,rfl,h]
def sf {Q:GM->GQ->Prop}(h1:dQ prog w v o C)(c:C s.heap)(n1:o.isFreed=false)
  (h:∀h',Pf h' (s.heap.objs.size+1) s.heap.objs.size 0 .none->h'.get? s.heap.objs.size=ba o->(∀b o,s.heap.get? b=ba o->h'.get? b=ba o)->Q (.ref (s.heap.objs.size+1)) { s with heap:=h' }) :
  wpAny (model prog w) B (call (.type "enumerate") [v]) Q E s:=by
 show Oh F.called_enumerate #v[] (F.typeCall_enumerate_1 _) (F.newCall_enumerate_1 _) (λobj=>F.args_object_init_2 obj _) F.entry_enumerate_new (nw h1) #[c,?_]
 have hz:(s.heap.push o).objs.size=s.heap.objs.size+1:=JD ..;change _/\_;rw[hz];have he:Pf ((s.heap.push o).push { cls:=.type "enumerate",data:=.fields [.none,.bool false,.ref s.heap.objs.size,rawInt 0,.none,.none].toArray }) (s.heap.objs.size+1) s.heap.objs.size 0 .none:=by
  have:=G4 (s.heap.push o) (o:={ cls:=.type "enumerate",data:=.fields [.none,.bool false,.ref s.heap.objs.size,rawInt 0,.none,.none].toArray }) rfl;rw[hz]at this; exact this
 exact#[#[_,he,rfl],h _ he (GN _ (G4 _ n1)) λb o x=>GN _ (GN _ x)]
end
abbrev Gf (K:G0)(S1:Zs):It:=
 #[λi H=>∃x,S1.at K H i x,λi H v H'=>∃p x,S1.is K H i x/\v=.ref p/\H p=gV/\H'=be H p (.tup [.int i,x]),λi H=>S1.out K H i]
def sg {P:Hs}{w:HA}{K:G0}{els:GK Hi}{k0:GX}{tp:Jt}{S1:Zs}{z i1:GZ}(D:z≠i1) :
  Turn P w K (.Tuple els k0 tp) (Gf K S1) [z,i1] z (λi h=>(∃old,Pf h z i1 i old)/\S1.T i1 i h) where
 mem:=by simp
 obj:=λi h #[#[old,a],d] b' hb=>by
  have it:∀ {S:Zs} {it:GZ},S.T it i h->∃o,h.get? it=ba o/\∀v,o.data≠.cell v:=λ{S it} t=>by
   cases S with
   | tup a=>obtain⟨o,e,_,d⟩:=t; exact#[o,e,λv z=>by rw[d]at z; cases z]
   | lst a=>obtain⟨o,e,_,d⟩:=t; exact#[o,e,λv z=>by rw[d]at z; cases z]
   | txt x=>obtain⟨tk,⟨o,e,_,d⟩|⟨o,e,_,d⟩⟩:=t <;> exact#[o,e,λv z=>by rw[d]at z; cases z]
  simp only[Hj,HE,IY]at hb;rcases hb with rfl|rfl
  ·exact#[_,a,λv z=>by cases z]
  ·exact it d
 keep:=λi h h' #[#[old,a],d] k=>#[#[old,k z (by simp) _ a],Zs.keep d (k i1 (by simp))]
 item:=by
  intro X hP hw hK hc i J s Y H E I hf st hg;subst hP hw hK;obtain⟨x,g1⟩:=hg;obtain⟨⟨old,a⟩,d⟩:=st;have hf4:∀b∈[z,z,i1,i1],fJ X J H b:=λb hb=>hf b (by simp only[Hj,HE,IY]at hb ⊢; rcases hb with h|h|h|h <;> simp[h])
  obtain⟨C1,Zz,c1,k1⟩:=Zs.zit (it:=i1) (Uq:=ba x) I hf4 g1;have hT:s.TypeIs (.ref z) "enumerate":=#[_,a,rfl];unfold pyNext;show GL (Km (HW (name:=IW "__next__") hT F.slot_enumerate_next (Io F.slot_enumerate_next hT F.entry_enumerate_next ?_ (F.args_enumerate_next_1 _))));show kh Zz (I.ok.hd hc) a d c1 D (λV e1 u g tk tk0 r1 zg t1 ng kp=>?_) (λz=>by cases z)
  cases e1;show GY #[_,rfl,?_];show wpAny_letOwnedTupleGo_enum (s:={ s with heap:=g,toks:=tk }) zg λg' zg' sb=>?_
  have N0:H s.heap.objs.size=gV:=I.hok.fresh (G2 _);have lt:∀ {b:GZ},b∈[z,i1]->s.heap.objs.size≠b:=λ{b} hb=>by
   have:∃o,s.heap.get? b=ba o:=by
    have it:∀ {S:Zs} {it:GZ},S.T it i s.heap->∃o,s.heap.get? it=ba o:=λ{S it} t=>by
     cases S with
     | tup a=>obtain⟨o,e,_⟩:=t; exact#[o,e]
     | lst a=>obtain⟨o,e,_⟩:=t; exact#[o,e]
     | txt x=>obtain⟨tk,⟨o,e,_⟩|⟨o,e,_⟩⟩:=t <;> exact#[o,e]
    simp only[Hj,HE,IY]at hb;rcases hb with rfl|rfl
    ·exact#[_,a]
    ·exact it d
   obtain⟨o,e⟩:=this;exact IH (Hb e)
  have up:∀b o,b∉[z,i1]->s.heap.get? b=ba o->g'.get? b=ba o:=λb o hb e=>by
   simp only[Hj,HE,IY,ND]at hb;exact sb.extBut _ _ hb.1 (kp b o hb.1 hb.2 e)
  have I1:Inv X J Y H { s with heap:=g',toks:=tk }:=Mi.Inv.turnedL I up hf
  have ng':g'.get? s.heap.objs.size=ba { cls:=.type "tuple",data:=.seq [.int i tk0,u].toArray }:=sb.extBut _ _ (lt (by simp)) ng
  have I2:Inv X J Y (be H s.heap.objs.size (.tup [.int i,x])) { s with heap:=g',toks:=tk }:=by
   show Mi.Inv.adopt I1 N0 (.inr I.sz) (IH I.lt) (λw c e=>?_) (λp hp=>?_) #[by change 2<=sizeLine; decide,[.int i tk0,u],.cons #[_,rfl] #v[r1],#[_,ng',rfl,0,rfl]]
   ·obtain⟨v,q⟩:=I.cell w c e;exact Hn q.lt
   ·exact Hn (Hb (I.pin p hp).1)
  show#[.ref s.heap.objs.size,_,I2,rfl,#[s.heap.objs.size,x,Zs.at_is I g1,rfl,N0,rfl],#[#[_,zg'],Zs.keep t1 λo e=>sb.extBut _ _ (Ne.symm D) e],λb hb=>?_]
  rw[az (Ne.symm (lt hb))];exact(hf b hb).1
 done:=by
  intro X hP hw hK hc i J s Y H E I hf st hg;subst hP hw hK;obtain⟨⟨old,a⟩,d⟩:=st;have hf4:∀b∈[z,z,i1,i1],fJ X J H b:=λb hb=>hf b (by simp only[Hj,HE,IY]at hb ⊢; rcases hb with h|h|h|h <;> simp[h])
  obtain⟨C1,Zz,c1,k1⟩:=Zs.zit (it:=i1) (Uq:=gV) I hf4 hg;have hT:s.TypeIs (.ref z) "enumerate":=#[_,a,rfl];unfold pyNext;show GL (Km (HW (name:=IW "__next__") hT F.slot_enumerate_next (Io F.slot_enumerate_next hT F.entry_enumerate_next ?_ (F.args_enumerate_next_1 _))));show kh Zz (I.ok.hd hc) a d c1 D (λV e1=>by cases e1) λ_ h' e k #[o,ho,hc]=>?_
  exact GL (KN (T:="StopIteration") (b:=true) #[o,ho,hc] Ml (GY #[rfl,Mi.Inv.turnedL (t':=s.toks) I (λb o hb e=>by
    simp only[Hj,HE,IY,ND]at hb;exact k b o hb.2 e) hf]))
 self:=λ_ _ _ _ _ st h=>by obtain⟨⟨old,a⟩,_⟩:=st; exact Nr a h
abbrev ny (xs:GK W):GK W:=xs.zipIdx.map λp=>.tup [.int (p.2:GX),p.1]
def u6 {xs:GK W}{i:GX}{w:W}(h:(ny xs)[i]?=ba w):∃x,xs[i]?=ba x/\w=.tup [.int i,x]:=by
 unfold ny at h;rw[G1,List.getElem?_zipIdx,Option.map_map,GP]at h;obtain⟨x,h1,rfl⟩:=h;exact#[x,h1,by simp]
abbrev yQ (f:FA):FI:=λZ S=>match f Z S with
 | some ([x],S1)=>match BH x with
  | some xs=>ba (.its (ny xs),S1)
  | none=>gV
 | _=>gV
section
variable{X:Cx}{J:GK (GZ×ID)}{Y:L2.St}{H:Hp}{s:GQ}{A:GK GZ}
def u7 {S1:Zs}{xs:GK W}(z1:ZRel X.K A H xs S1):MIt X.w X.K (.its (ny xs)) (Gf X.K S1) A H:=by
 show#[λA' H' S i w e so hi=>?_,λA' H' S i e so hi=>?_]
 ·simp only[MI.at,Hm]at hi;obtain⟨x,e1,rfl⟩:=u6 hi;obtain⟨v,g1,r1⟩:=(z1.mono e).at e1;show#[#[v,g1],λp H2 #[a,v',q1,hp,hn,hH]=>?_]
  subst hp hH;have ex:Ext X.K A' H' A' (be H' a (.tup [.int i,v'])):=bN (.inl hn);exact#[ex,so.lay hn,.tup (.of aI) #v[.int,((z1.mono e).is e1 q1).mono ex]]
 ·simp only[MI.at,Hm,Iv,ny,GU,M3]at hi;exact(z1.mono e).out hi
def sh:bootBuiltins "enumerate" = ba (.type "enumerate"):=rfl
def yR {els:GK Hi}{k0:GX}{tp:Jt}{a:Hi}{f:FA}{p pos:Jt}(hg:Gl X "enumerate")(hm:X.mg "enumerate" = gV)(ha:GA X [a] f)(hs:starEach [a] X.env=[(false,eval a X.env)]) :
  GI X (.Tuple els k0 tp) (.Call (.Name "enumerate" p) [a] [] pos) (yQ f):=by
 intro J s Y H R I ⟨A,Z,S,mi,S',er,so,e,hq⟩;unfold yQ at e;split at e
 ·rename_i x S1 h1;split at e
  ·rename_i xs e1;cases e;show Px (fI I hg hm sh (IU (aT (ha pos J s Y H _ I #[A,Z,S,_,_,er,so,h1,λ_ _ z=>z]) λus s1 #[vs,H1,I1,r1,A1,z1,z2,z3]=>?_) (by rw[hs]; rfl) (by rfl)))
   cases z3 with
   | cons ra t=>
    cases t;cases r1 with
    | cons ua t=>
     cases t;obtain⟨Sa,oa,Ca,za,ia,ca,ka,na,ta⟩:=lJ I1 ra ua e1;show sf ia ca na λh' hz g1 kp=>?_
     have I2:Inv X J Y H1 { s1 with heap:=h' }:=I1.kept (t':=s1.toks) kp
     show Nr (s:={ s1 with heap:=h' }) hz ?_
     show#[s1.heap.objs.size+1,_,_,_,H1,rfl,I2,sg (S1:=Sa) (i1:=s1.heap.objs.size) (by simp),#[#[_,hz],ta _ _ g1],λb hb=>?_,hq _ _ A1 z1 z2 (u7 za)]
     have hb':s1.heap.objs.size<=b:=by
      simp only[Hj,HE,IY]at hb;rcases hb with rfl|rfl
      ·exact Kd _ _
      ·exact G2 _
     exact I1.fpOk hb' (I1.hok.fresh hb')
  ·cases e
 ·cases e
end
end Mi
namespace Mi
open PySem PySem.Spec PyProof.Rows L2
abbrev u8 (X:Cx)(x:Ha)(w:W):Prop:=∃v u,X.mg x=ba u/\RelV v u/\∀A H,Rel X.K A H w v
section
variable{X:Cx}
def BJ {x:Ha}{w:W}{pos:Jt}(hg:Gl X x)(hd:(x==("__debug__" : Ha))=false)(h:u8 X x w):GE X (.Name x pos) (fC w):=by
 obtain⟨v,u,hm,r,rel⟩:=h;exact lG (xg hg hm r hd) rel
end
abbrev yS (g1 g2:GK W->aa->GR (W×aa))(xs:GK W)(S:aa):GR (W×aa):=match g1 xs S with
 | some r=>ba r
 | none=>g2 xs S
def nz {X:Cx}{f:GM}{g1 g2:GK W->aa->GR (W×aa)}(h1:LCall X f g1)(h2:LCall X f g2):LCall X f (yS g1 g2):=by
 intro J s Y H A S xs vs us w S' I so rl rv e;unfold yS at e;split at e
 ·rename_i r hr;cases e;exact h1 J s Y H A S xs vs us w S' I so rl rv hr
 ·exact h2 J s Y H A S xs vs us w S' I so rl rv e
inductive Bi where|len|list|tuple|int|set|sorted|range|abs|all|min
 deriving J6
abbrev Bi.fn:Bi->GK W->aa->GR (W×aa)
 | .len=>yS mU yN|.list=>yS jV j4|.tuple=>je|.int=>Dq|.set=>lq|.sorted=>gm|.range=>oY|.abs=>Dp|.all=>yc|.min=>uu
abbrev Bi.name:Bi->Ha
 | .len=>"len"|.list=>"list"|.tuple=>"tuple"|.int=>"int"|.set=>"set"|.sorted=>"sorted"|.range=>"range"|.abs=>"abs"|.all=>"all"|.min=>"min"
inductive Me where|append|extend|join|pop|get
 deriving J6
abbrev Me.fn:Me->W->GK W->aa->GR (W×aa)
 | .append=>gb|.extend=>iM|.join=>qb|.pop=>Bd|.get=>qe
abbrev Me.name:Me->Ha
 | .append=>"append"|.extend=>"extend"|.join=>"join"|.pop=>"pop"|.get=>"get"
abbrev Me.ty:Me->Iw
 | .append=>"list"|.extend=>"list"|.join=>"str"|.pop=>"list"|.get=>"dict"
inductive Tg where
 | nm (i:GX)|tp (is:GK GX)
set_option genSizeOf false in
set_option genInjectivity false in
mutual
inductive E where
 | c (w:W)|v (i:GX)
 | op (o:BOp) (a b:E)
 | cmp (o:COp) (a b:E)
 | and (a b:E)|or (a b:E)|not (a:E)
 | own (f:Ha) (n:GX) (es:Es)|bi (b:Bi) (es:Es)|me (m:Me) (o:E) (es:Es)
 | ix (a b:E)|sl (a:E) (lo hi:Ep)|tup (es:Es)|lst (es:Es)
 | isi (c:Iw) (a:E)
 | neg (a:E)|dnew|disp (es:Es)|chn (o o':COp) (a b d:E)|ite (t a b:E)
 | comp (elt:E) (tg:Tg) (it:Ie) (cs:Es) (cap:GK (GR GX))
inductive Es where
 | nil|cons (e:E) (es:Es)
inductive Ep where
 | no|yes (e:E)
inductive Ie where
 | seq (e:E)|rng (es:Es)|zip (es:Es)|rng2 (es:Es)|enu (es:Es)
end
set_option genSizeOf false in
set_option genInjectivity false in
mutual
inductive Sm where
 | set (i:GX) (e:E)|asg (is:GK GX) (e:E)|par (i j:GX) (es:Es)|put (o k e:E)
 | ex (e:E)|ret (e:E)|retN|pass|brk|cont|bad
 | ite (t:E) (a b:Ss)|whl (t:E) (b:Ss)|loop (tg:Tg) (it:Ie) (b:Ss)
inductive Ss where
 | nil|cons (s:Sm) (ss:Ss)
end
abbrev gO:Tg->FG
 | .nm i=>zR i
 | .tp is=>CG is
section
variable (M:Ha->FF)
mutual
def aq:E->FE
 | .c w=>fC w
 | .v i=>fV i
 | .op o a b=>ye (eI o) (aq a) (aq b)
 | .cmp o a b=>yf o (aq a) (aq b)
 | .and a b=>qt (aq a) (aq b)
 | .or a b=>yj (aq a) (aq b)
 | .not a=>qu (aq a)
 | .own f n es=>ni n (M f) (b7 es)
 | .bi b es=>iC b.fn (b7 es)
 | .me m o es=>CF m.ty m.fn (aq o) (b7 es)
 | .ix a b=>Fx (aq a) (aq b)
 | .sl a lo hi=>Dz (aq a) (qB lo) (qB hi)
 | .tup es=>uI (b7 es)
 | .lst es=>uJ (b7 es)
 | .isi c a=>uS c (aq a)
 | .neg a=>uC (aq a)
 | .dnew=>zS
 | .disp es=>nr (b7 es)
 | .chn o o' a b d=>eM o o' (aq a) (aq b) (aq d)
 | .ite t a b=>yk (b6 t) (aq a) (aq b)
 | .comp elt tg it cs cap=>jh (fO it) (gO tg) (yT cs) (aq elt) cap
def b6:E->FT
 | .cmp o a b=>mX (yf o (aq a) (aq b))
 | .and a b=>uG (b6 a) (b6 b)
 | .or a b=>Dw (b6 a) (b6 b)
 | .not a=>yg (b6 a)
 | .c w=>fu (fC w)
 | .v i=>fu (fV i)
 | .op o a b=>fu (ye (eI o) (aq a) (aq b))
 | .own f n es=>fu (ni n (M f) (b7 es))
 | .bi b es=>fu (iC b.fn (b7 es))
 | .me m o es=>fu (CF m.ty m.fn (aq o) (b7 es))
 | .ix a b=>fu (Fx (aq a) (aq b))
 | .sl a lo hi=>fu (Dz (aq a) (qB lo) (qB hi))
 | .tup es=>fu (uI (b7 es))
 | .lst es=>fu (uJ (b7 es))
 | .isi c a=>fu (uS c (aq a))
 | .neg a=>fu (uC (aq a))
 | .dnew=>λ_ _=>gV
 | .disp _=>λ_ _=>gV
 | .chn o o' a b d=>mX (eM o o' (aq a) (aq b) (aq d))
 | .ite _ _ _=>λ_ _=>gV
 | .comp _ _ _ _ _=>λ_ _=>gV
def b7:Es->FA
 | .nil=>fM
 | .cons e es=>cG (aq e) (b7 es)
def yT:Es->FT
 | .nil=>zT
 | .cons e .nil=>b6 e
 | .cons _ (.cons _ _)=>λ_ _=>gV
def qB:Ep->FO
 | .no=>Bv
 | .yes e=>qv (aq e)
def fO:Ie->FI
 | .seq e=>cN (aq e)
 | .rng es=>pc (b7 es)
 | .zip es=>uZ (b7 es)
 | .rng2 es=>iRng2 (b7 es)
 | .enu es=>yQ (b7 es)
end
variable (fuel:GX)
mutual
def eW:Sm->FS
 | .set i e=>jg (aq M e) (zR i)
 | .asg is e=>jg (aq M e) (CG is)
 | .par i j es=>yB i j (b7 M es)
 | .put o k e=>jg (aq M e) (yA (aq M o) (aq M k))
 | .ex e=>yt (aq M e)
 | .ret e=>yw (aq M e)
 | .retN=>λ_ S=>ba (.rt .non,S)
 | .pass=>uN
 | .brk=>λZ S=>ba (.bk Z,S)
 | .cont=>λZ S=>ba (.ct Z,S)
 | .bad=>λ_ _=>gV
 | .ite t a b=>yz (b6 M t) (eO a) (eO b)
 | .whl t b=>lH (b6 M t) (eO b) fuel
 | .loop tg it b=>uQ (fO M it) (gO tg) (eO b)
def eO:Ss->FS
 | .nil=>λZ S=>ba (.nx Z,S)
 | .cons s ss=>yr (eW s) (eO ss)
end
end
structure Gam where
 sc:GK (Ha×IT)
 N:GK Ha
 fns:GK (Ha×GX)
 blt:GK Ha
 dfn:Hr
 cst:GK (Ha×W)
abbrev BK:GR IT->Hr
 | some .local=>true|some .cell=>true|some .free=>true|_=>false
abbrev yU:GR IT->Hr
 | some .cell=>true|some .free=>true|_=>false
abbrev eP (names outer:GK (Ha×IT)):GK (Ha×IT):=names.map λ(n,k)=>if (k==.free&&outer.lookup n==ba .cell)then(n,.cell)else(n,k)
abbrev slot (Γ:Gam)(x:Ha):GR GX:=if BK (Γ.sc.lookup x) && !(x==("__debug__" : Ha)) && !(x==("__classdict__" : Ha))then Γ.N.findIdx? (· == x)else gV
abbrev qC:Na->GR BOp
 | .Add=>ba .add|.Sub=>ba .sub|.Mult=>ba .mul|.FloorDiv=>ba .fdiv|.Mod=>ba .mod|.Pow=>ba .pow|_=>gV
abbrev iD:NP->GR COp
 | .Eq=>ba .eq|.NotEq=>ba .ne|.Lt=>ba .lt|.LtE=>ba .le|.Gt=>ba .gt|.GtE=>ba .ge|.In=>ba .isin|.NotIn=>ba .notin|.Is=>ba .is|.IsNot=>ba .isnot
abbrev yV (x:Ha):GR Bi:=[Bi.len,.list,.tuple,.int,.set,.sorted,.range,.abs,.all,.min].find? λb=>b.name==x
abbrev yW (x:Ha):GR Me:=[Me.append,.extend,.join,.pop,.get].find? λb=>b.name==x
abbrev DL (Γ:Gam)(x:Ha):Hr:=Γ.sc.lookup x==ba .globalImplicit && !(x==("__debug__" : Ha))
abbrev u9 (x:Ha):GR Iw:=if x==("bool" : Ha)then ba "bool" else if x==("int" : Ha)then ba "int" else if x==("str" : Ha)then ba "str" else if x==("tuple" : Ha)then ba "tuple" else if x==("list" : Ha)then ba "list" else if x==("dict" : Ha)then ba "dict" else gV
abbrev qD:GK (GR Hi)->GK Hi->GK Hi
 | some k::ks,v::vs=>k::v::qD ks vs
 | _,_=>[]
abbrev yX (Γ:Gam)(f:Hi->GR E):GK Hi->GR E
 | [a,.Name c _]=>if DL Γ c&&Γ.blt.contains c then match u9 c,f a with
  | some cs,ba a'=>ba (.isi cs a')
  | _,_=>gV
  else gV
 | _=>gV
abbrev eX:Hi->Hr
 | .Name _ _=>true|.Constant _ _ _=>true|.Subscript _ _ _=>true|_=>false
abbrev hG (Γ:Gam)(x:Ha):Hr:=Γ.sc.lookup x==ba .globalImplicit && !(x==("__debug__" : Ha))
abbrev cr (Γ:Gam)(x:Ha):GR GX:=if (Γ.sc.lookup x==ba .local)||(Γ.dfn&&Γ.sc.lookup x==ba .cell)then Γ.N.findIdx? (· == x)else gV
abbrev cA (f:Hi->GR E)(es:GK Hi):GR Es:=es.foldr (λe acc=>match f e,acc with|some e',ba es'=>ba (.cons e' es')|_,_=>gV) (ba .nil)
abbrev cB (f:Hi->GR E)(op:Pe):GK Hi->GR E
 | []=>gV
 | [a]=>f a
 | a::b::bB=>match f a,cB f op (b::bB)with
  | some a',ba b'=>ba (match op with|.And=>.and a' b'|.Or=>.or a' b')
  | _,_=>gV
abbrev cP (f:Hi->GR E):GR Hi->GR Ep
 | none=>ba .no
 | some e=>(f e).map .yes
abbrev isTup:Hi->Hr
 | .Tuple _ _ _=>true
 | _=>false
abbrev cI (Γ:Gam)(f:Hi->GR E)(tg:Hi):Hi->GR Ie
 | .Call (.Name x p) [a] [] q=>if x==("range" : Ha)&&hG Γ x&&Γ.blt.contains x then(cA f [a]).map .rng else if x==("enumerate" : Ha)&&hG Γ x&&Γ.blt.contains x&&isTup tg then(cA f [a]).map .enu else(f (.Call (.Name x p) [a] [] q)).map .seq
 | .Call (.Name x p) [a,b] [] q=>if x==("zip" : Ha)&&hG Γ x&&Γ.blt.contains x&&isTup tg then(cA f [a,b]).map .zip else if x==("range" : Ha)&&hG Γ x&&Γ.blt.contains x then(cA f [a,b]).map .rng2 else(f (.Call (.Name x p) [a,b] [] q)).map .seq
 | e=>(f e).map .seq
abbrev CH (Γ:Gam):GK Hi->GR (GK GX)
 | []=>ba []
 | .Name x _::ts=>match cr Γ x,CH Γ ts with
  | some i,ba is=>ba (i::is)
  | _,_=>gV
 | _::_=>gV
abbrev cT (Γ:Gam):Hi->GR Tg
 | .Name x _=>(cr Γ x).map .nm
 | .Tuple ts _ _=>(CH Γ ts).map .tp
 | _=>gV
abbrev fE (names:GK (Ha×IT)):GK Ha:=(names.filter λp=>p.2==.local||p.2==.free).map (·.1)
abbrev eY (Γ:Gam)(names:GK (Ha×IT)):GK (GR GX):=(fE names).map λx=>if names.lookup x==ba .local then gV else Γ.N.findIdx? (· == x)
abbrev vc (Γ:Gam)(scope:J4):Hr:=
 (scope.kind==.function)&&scope.names.all (λy=>!(y.2==.local)||scope.names.lookup y.1==ba .local)&&scope.names.all (λy=>!(y.2==.cell)) &&
 scope.names.all (λy=>!(y.2==.free)||(yU (Γ.sc.lookup y.1)&&scope.names.lookup y.1==ba .free&&(Γ.N.findIdx? (· == y.1)).isSome))&&decide (fE scope.names).Nodup
abbrev fF (Γ:Gam)(scope:J4):Gam:={ Γ with sc:=eP scope.names Γ.sc,N:=fE scope.names,dfn:=false }
abbrev vd (f:Hi->GR E)(keys:GK (GR Hi))(values:GK Hi):GR E:=
 if keys.isEmpty&&values.isEmpty then ba .dnew
 else if keys.all (·.isSome)&&decide (keys.length=values.length)&&decide (keys.length<=15)then(cA f (qD keys values)).map .disp else gV
abbrev cE:GX->Gam->Hi->GR E
 | 0,_,_=>gV
 | n+1,Γ,e=>match e with
  | .Constant (.int i) _ _=>ba (.c (.int i))
  | .Constant (.str x) _ _=>ba (.c (.str x))
  | .Constant (.bool b) _ _=>ba (.c (.bl b))
  | .Constant .none _ _=>ba (.c .non)
  | .Name x _=>match slot Γ x with
   | some i=>ba (.v i)
   | none=>if hG Γ x then(Γ.cst.lookup x).map .c else gV
  | .BinOp a op b _=>match qC op,cE n Γ a,cE n Γ b with
   | some o,ba a',ba b'=>ba (.op o a' b')
   | _,_,_=>gV
  | .UnaryOp .Not a _=>(cE n Γ a).map .not
  | .UnaryOp .USub a _=>(cE n Γ a).map .neg
  | .BoolOp op vs _=>cB (cE n Γ) op vs
  | .Compare a [op] [b] _=>match iD op,cE n Γ a,cE n Γ b with
   | some o,ba a',ba b'=>ba (.cmp o a' b')
   | _,_,_=>gV
  | .Compare a [op,op'] [b,d] _=>match iD op,iD op',cE n Γ a,cE n Γ b,cE n Γ d with
   | some o,ba o',ba a',ba b',ba d'=>ba (.chn o o' a' b' d')
   | _,_,_,_,_=>gV
  | .IfExp t a b _=>match cE n Γ t,cE n Γ a,cE n Γ b with
   | some t',ba a',ba b'=>ba (.ite t' a' b')
   | _,_,_=>gV
  | .Call (.Name f _) args [] _=>if hG Γ f then match Γ.fns.lookup f with
    | some k=>(cA (cE n Γ) args).map (.own f k)
    | none=>if f==("isinstance" : Ha)then(if Γ.blt.contains f then yX Γ (cE n Γ) args else gV)else match yV f,args with
     | some b,a::as=>if Γ.blt.contains f then(cA (cE n Γ) (a::as)).map (.bi b)else gV
     | _,_=>gV
   else gV
  | .Call (.Attribute o m apos) (a::as) [] cpos=>match yW m,cE n Γ o,cA (cE n Γ) (a::as)with
   | some m',ba o',ba es=>if eX o&&(apos.endLine==cpos.line)&&decide ((a::as).length < 29)then ba (.me m' o' es)else gV
   | _,_,_=>gV
  | .Subscript a (.Slice lo hi gV _) _=>match cE n Γ a,cP (cE n Γ) lo,cP (cE n Γ) hi with
   | some a',ba lo',ba hi'=>ba (.sl a' lo' hi')
   | _,_,_=>gV
  | .Subscript a b _=>match cE n Γ a,cE n Γ b with
   | some a',ba b'=>ba (.ix a' b')
   | _,_=>gV
  | .Tuple es _ _=>(cA (cE n Γ) es).map .tup
  | .List es _=>(cA (cE n Γ) es).map .lst
  | .Dict keys values _=>vd (cE n Γ) keys values
  | .ListComp elt [#[tg,iter,ifs,asy]] scope _=>if (asy==0)&&(vc Γ scope&&decide (ifs.length<=1))then
    match cI Γ (cE n Γ) tg iter,cT (fF Γ scope) tg,cA (cE n (fF Γ scope)) ifs,cE n (fF Γ scope) elt with
    | some it,ba t,ba cs,ba el=>ba (.comp el t it cs (eY Γ scope.names))
    | _,_,_,_=>gV
   else gV
  | _=>gV
structure CtxOk (M:Ha->FF)(X:Cx)(Γ:Gam):Prop where
 names:X.env.scope.names=Γ.sc
 kind:X.env.scope.kind=.function
 N:X.N=Γ.N
 nd:Γ.N.Nodup
 calm:X.calm=true
 xe:X.xe=λ_ _=>Iq
 un:X.A.units+d7 < cLine
 dfn:Γ.dfn=true->∀x,X.fn x=true
 blt:∀x∈Γ.blt,X.mg x=gV
 cst:∀x w,Γ.cst.lookup x=ba w->u8 X x w
 fns:∀f n,Γ.fns.lookup f=ba n->∃k fa fd ps,FnOk X.prog X.w X.K X.mg X.base sL k fa fd ps (spF X.w X.K n (M f))/\Room k X.A/\X.mg f=ba (.ref fa)/\Iz X.K (.ref fa)=true/\Binds X.K fd ps []
def aD {α:Type}{x:α}{P:Prop}(h:(gV:GR α)=ba x):P:=nomatch h
abbrev fP:Hi->Hr
 | .Starred _ _=>false
 | _=>true
def al {e:Hi}{es:GK Hi}{env:M7}(h:fP e=true):starEach (e::es) env=(false,eval e env)::starEach es env:=by
 cases e <;> first|rfl|cases h
def aO {env:M7}{pos:Jt}:∀ {es:GK Hi},es.all fP=true->(backTo pos (starEach es env)).any (·.1)=false
 | [],_=>rfl
 | e::es,h=>by
  rw[HR,GV]at h;rw[al h.1];show(false||(backTo pos (starEach es env)).any (·.1))=false
  rw[aO h.2];rfl
def nA {env:M7}{pos:Jt}:∀ {es:GK Hi},es.all fP=true->(backTo pos (starEach es env)).all (λx=>!x.1)=true
 | [],_=>rfl
 | e::es,h=>by
  rw[HR,GV]at h;rw[al h.1];show(true&&(backTo pos (starEach es env)).all (λx=>!x.1))=true
  rw[nA h.2];rfl
def hW {n:GX}{Γ:Gam}{e:Hi}{e':E}(h:cE n Γ e=ba e'):fP e=true:=by
 cases n with
 | zero=>cases h
 | succ n=>cases e <;> first|rfl|(exact aD h)
def gq {f:Hi->GR E}{e:Hi}{es:GK Hi}{r:Es}(h:cA f (e::es)=ba r):∃e' es',f e=ba e'/\cA f es=ba es'/\r=.cons e' es':=by
 simp only[cA,NX]at h;split at h
 ·rename_i e' es' h1 h2;cases h;exact#[e',es',h1,h2,rfl]
 ·cases h
def bC {n:GX}{Γ:Gam}:∀ {es:GK Hi} {r:Es},cA (cE n Γ) es=ba r->es.all fP=true
 | [],_,_=>rfl
 | e::es,r,h=>by
  obtain⟨e',es',h1,h2,_⟩:=gq h;rw[HR,hW h1,bC h2];rfl
def cJ {N:GK Ha}{x:Ha}{i:GX}(h:N.findIdx? (· == x)=ba i):N[i]?=ba x:=by
 obtain⟨hl,h1,_⟩:=Kv.mp h;rw[G5 hl];exact congrArg ba (eq_of_beq h1)
section
variable{M:Ha->FF}{X:Cx}{Γ:Gam}
def iQ {e:Hi}:GT X e (λ_ _=>gV):=λJ s Y H Q I #[A,Z,S,k,S',er,so,e1,hq]=>by cases e1
def ve {x:Ha}(h:BK (X.env.scope.names.lookup x)=true):EI X.env.scope x:=by
 unfold BK at h;split at h
 ·exact .inl (by assumption)
 ·exact .inr (.inl (by assumption))
 ·exact .inr (.inr (by assumption))
 ·cases h
def vf (K:CtxOk M X Γ){x:Ha}{pos:Jt}{i:GX}(h:slot Γ x=ba i):GE X (.Name x pos) (fV i):=by
 unfold slot at h;split at h
 ·rename_i hc;rw[GV,GV]at hc;obtain⟨⟨h1,h2⟩,h3⟩:=hc;show Fw (sN (by rw[K.N]; exact cJ h) (ve (by rw[K.names]; exact h1)) (by simpa using h2) (by simpa using h3))
 ·cases h
def gr (K:CtxOk M X Γ){x:Ha}(h:hG Γ x=true):Gl X x/\(x==("__debug__" : Ha))=false:=by
 unfold hG at h;rw[GV]at h;show#[?_,by simpa using h.2]
 change X.env.scope.names.lookup x=_;rw[K.names];exact eq_of_beq h.1
def jj {o:NP}{c:COp}(h:iD o=ba c):c.py=o:=by
 cases o <;> (simp only[iD,Hm]at h; subst h; rfl)
def vg {o:Na}{c:BOp}(h:qC o=ba c):c.py=o:=by
 cases o <;> simp only[qC,Hm]at h <;> first|(subst h; rfl)|cases h
def si {x:Ha}{b:Bi}(h:yV x=ba b):b.name=x:=by
 have:=L4 h;exact eq_of_beq this
def sj {x:Ha}{b:Me}(h:yW x=ba b):b.name=x:=by
 have:=L4 h;exact eq_of_beq this
def cu {n:GX}(ih:∀ {e:Hi} {e':E},cE n Γ e=ba e'->GE X e (aq M e')):∀ {es:GK Hi} {r:Es},cA (cE n Γ) es=ba r->GA X es (b7 M r)
 | [],r,h=>by cases h; exact Bu
 | e::es,r,h=>by
  obtain⟨e',es',h1,h2,rfl⟩:=gq h;exact ym (ih h1) (cu ih h2) (al (hW h1))
def DM (K:CtxOk M X Γ){n:GX}{f:Ha}{p pos:Jt}{args:GK Hi}{k:GX}{r:Es}(hg:hG Γ f=true)(hf:Γ.fns.lookup f=ba k)(ha:cA (cE n Γ) args=ba r)(h:GA X args (b7 M r)):GE X (.Call (.Name f p) args [] pos) (ni k (M f) (b7 M r)):=by
 obtain⟨d,fa,fd,ps,F,hr,hm,hk,hb⟩:=K.fns f k hf;obtain⟨g1,g2⟩:=gr K hg;cases args with
 | nil=>cases ha; exact yp F hr g1 hm hk hb g2
 | cons a as=>
  have ns:=bC ha;rw[HR,GV]at ns;exact Bw F hr g1 hm hk hb h g2 (al ns.1) (aO ns.2)
def Fz (K:CtxOk M X Γ){n:GX}{f:Ha}{p pos:Jt}{a:Hi}{as:GK Hi}{b:Bi}{r:Es}(hg:hG Γ f=true)(hb:yV f=ba b)(hc:Γ.blt.contains f=true)(ha:cA (cE n Γ) (a::as)=ba r)(h:GA X (a::as) (b7 M r)):GE X (.Call (.Name f p) (a::as) [] pos) (iC b.fn (b7 M r)):=by
 obtain⟨g1,g2⟩:=gr K hg;have hm:X.mg f=gV:=K.blt f (by simpa using hc)
 have ns:=bC ha;rw[HR,GV]at ns;have e:=si hb;subst e;have hu:X.A.units+12 < cLine:=by have:=K.un; have:d7=20:=rfl; omega
 have calm:∀ {f:GM} {g:GK W->aa->GR (W×aa)},(X.A.handled=gV->LCall X f g)->LCall X f g:=λh J s Y H A S xs vs us w S' I=>h (I.ok.hd K.calm) J s Y H A S xs vs us w S' I
 cases b with
 | len=>exact mY (nz pe pf) g1 hm PySem.boot_len h #v[] g2 (al ns.1) (aO ns.2)
 | list=>exact mZ (calm λhh=>nz (mJ hh) (mW hh)) g1 hm rfl h #v[] g2 (al ns.1) (aO ns.2)
 | tuple=>exact mZ (calm lF) g1 hm rfl h #v[] g2 (al ns.1) (aO ns.2)
 | int=>exact mZ rP g1 hm rfl h #v[] g2 (al ns.1) (aO ns.2)
 | set=>exact mZ (calm rT) g1 hm rfl h #v[] g2 (al ns.1) (aO ns.2)
 | sorted=>exact mY (calm λhh=>lB hh hu) g1 hm rfl h #v[] g2 (al ns.1) (aO ns.2)
 | range=>exact mZ mI g1 hm rfl h #v[] g2 (al ns.1) (aO ns.2)
 | abs=>exact mY rO g1 hm rfl h #v[] g2 (al ns.1) (aO ns.2)
 | all=>exact mY (calm sa) g1 hm rfl h #v[] g2 (al ns.1) (aO ns.2)
 | min=>exact mY (calm λhh=>r8 hh hu) g1 hm rfl h #v[] g2 (al ns.1) (aO ns.2)
def vh {x:Ha}{c:Iw}(h:u9 x=ba c):bootBuiltins x=ba (.type c)/\x≠"__name__":=by
 unfold u9 at h;split at h
 ·rename_i e; cases h; rw[eq_of_beq e]; exact#[rfl,#v[]]
 ·split at h
  ·rename_i e; cases h; rw[eq_of_beq e]; exact#[rfl,#v[]]
  ·split at h
   ·rename_i e; cases h; rw[eq_of_beq e]; exact#[rfl,#v[]]
   ·split at h
    ·rename_i e; cases h; rw[eq_of_beq e]; exact#[rfl,#v[]]
    ·split at h
     ·rename_i e; cases h; rw[eq_of_beq e]; exact#[rfl,#v[]]
     ·split at h
      ·rename_i e; cases h; rw[eq_of_beq e]; exact#[rfl,#v[]]
      ·cases h
def DN (K:CtxOk M X Γ){n:GX}{f:Ha}{p pos:Jt}{args:GK Hi}{r:E}(hg:hG Γ f=true)(hb:(f==("isinstance" : Ha))=true)(hc:Γ.blt.contains f=true)(ih:∀ {e:Hi} {e':E},cE n Γ e=ba e'->GE X e (aq M e'))(h:yX Γ (cE n Γ) args=ba r) :
  GE X (.Call (.Name f p) args [] pos) (aq M r)/\∃a c,r=.isi c a:=by
 obtain⟨g1,g2⟩:=gr K hg;have hm:X.mg f=gV:=K.blt f (by simpa using hc)
 have e:=eq_of_beq hb;subst e;unfold yX at h;split at h
 ·rename_i a c q;split at h
  ·rename_i hcc;rw[GV]at hcc;obtain⟨g3,g4⟩:=gr K (x:=c) hcc.1;have hm2:X.mg c=gV:=K.blt c (by simpa using hcc.2)
   split at h
   ·rename_i cs a' h1 h2;cases h;obtain⟨b1,b2⟩:=vh h1;exact#[BF g1 hm g3 hm2 b1 b2 g4 (ih h2) (al (hW h2)),a',cs,rfl]
   ·cases h
  ·cases h
 ·cases h
def dY {o:Hi}{name:Ha}{env:M7}(h:eX o=true):attributeBase o name env (eval o env)=eval o env:=by
 cases o <;> first|rfl|cases h
def qE {n:GX}{pos:Jt}(ih:∀ {e:Hi} {e':E},cE n Γ e=ba e'->GE X e (aq M e')):∀(keys:GK (GR Hi)) (values:GK Hi) {r:Es},keys.all (·.isSome)=true->keys.length=values.length->cA (cE n Γ) (qD keys values)=ba r->DE X pos keys values (b7 M r)
 | [],[],r,_,_,h=>by cases h; exact yI
 | [],_::_,r,_,hl,_=>by cases hl
 | _::_,[],r,_,hl,_=>by cases hl
 | none::_,_::_,r,ha,_,_=>by cases ha
 | some k::ks,v::vs,r,ha,hl,h=>by
  dsimp only[qD]at h;obtain⟨e1,es1,h1,h2,rfl⟩:=gq h;obtain⟨e2,es2,h3,h4,rfl⟩:=gq h2;rw[HR,GV]at ha;exact uT (ih h1) (ih h3) (qE ih ks vs ha.2 (by simpa using hl) h4)
def FB (K:CtxOk M X Γ){n:GX}{m:Ha}{apos cpos:Jt}{o a:Hi}{as:GK Hi}{b:Me}{o':E}{r:Es}(hm:yW m=ba b)(hr:eX o=true)(hl:(apos.endLine==cpos.line)=true)(hn:(a::as).length < 29)(ho:GE X o (aq M o'))(ha:cA (cE n Γ) (a::as)=ba r)(h:GA X (a::as) (b7 M r)) :
  GE X (.Call (.Attribute o m apos) (a::as) [] cpos) (CF b.ty b.fn (aq M o') (b7 M r)):=by
 have ns:=bC ha;have ns':=ns;rw[HR,GV]at ns;have few:((backTo cpos (starEach (a::as) X.env)).all (λx=>!x.1)&&(backToKw cpos (keywordEach [] X.env)).all (λx=>x.1.isSome)&&decide ((a::as).length+([]:GK N2).length+(if ([]:GK N2).isEmpty then 0 else 1) < 30))=true:=by
  rw[nA ns',Lx,GV];exact#[rfl,HN (by simp only[IP,List.isEmpty_nil,JQ]; omega)]
 have e:=sj hm;subst e;cases b with
 | append=>exact nh Ku PySem.F.slot_list_append PySem.F.type_list_append lh ho h (dY hr) few hl (al ns.1) (aO ns.2)
 | extend=>exact nh Ku PySem.F.slot_list_extend PySem.F.type_list_extend lm ho h (dY hr) few hl (al ns.1) (aO ns.2)
 | join=>exact nh PySem.F.plainAttrs_str PySem.F.slot_str_join PySem.F.type_str_join oX ho h (dY hr) few hl (al ns.1) (aO ns.2)
 | pop=>exact nh Ku PySem.F.slot_list_pop PySem.F.type_list_pop rQ ho h (dY hr) few hl (al ns.1) (aO ns.2)
 | get=>exact nh PySem.F.plainAttrs_dict L9 PySem.F.type_dict_get (oZ (by have:=K.un; have:d7=20:=rfl; omega)) ho h (dY hr) few hl (al ns.1) (aO ns.2)
def gw {n:GX}{Γ:Gam}{e:Hi}{e':E}{op:NP}(h:cE n Γ e=ba e'):behindInMarks op e=false:=by
 cases n with
 | zero=>cases h
 | succ n=>cases e <;> first|rfl|(exact aD h)
def pk {n:GX}{Γ:Gam}{e:Hi}{e':E}(h:cE n Γ e=ba e'):kU e:=by
 cases n with
 | zero=>cases h
 | succ n=>cases e <;> first|(intro o i; rfl)|(exact aD h)
def lK {n:GX}{Γ:Gam}{f:Hi->GR E}{e:Hi}{i:Ie}{env:M7}{tg:Hi}(hf:∀el k p,f (.Set el k p)=gV)(h:cI Γ f tg e=ba i):∀x,foldedSetIterable e env x=pure x:=by
 intro x;cases e <;> first|rfl|(simp[cI,hf]at h)
def lL {n:GX}{op:Pe}{pos:Jt}(ih:∀ {e:Hi} {e':E},cE n Γ e=ba e'->GE X e (aq M e')):∀ {vs:GK Hi} {r:E},cB (cE n Γ) op vs=ba r->GE X (.BoolOp op vs pos) (aq M r)
 | [],r,h=>by cases h
 | [a],r,h=>Bq (ih h)
 | a::b::bB,r,h=>by
  simp only[cB]at h;split at h
  ·rename_i a' b' h1 h2;cases h;cases op with
   | And=>exact Br (ih h1) (lL ih h2)
   | Or=>exact Dy (ih h1) (lL ih h2)
  ·cases h
def lM {n:GX}{op:Pe}{pos:Jt}(ih:∀ {e:Hi} {e':E},cE n Γ e=ba e'->GT X e (b6 M e')):∀ {vs:GK Hi} {r:E},cB (cE n Γ) op vs=ba r->GW X (.BoolOp op vs pos) (b6 M r)
 | [],r,h=>by cases h
 | [a],r,h=>by
  cases op with
  | And=>exact yi (ih h)
  | Or=>exact Bn (ih h)
 | a::b::bB,r,h=>by
  simp only[cB]at h;split at h
  ·rename_i a' b' h1 h2;cases h;cases op with
   | And=>exact Bo (ih h1) (lM ih h2)
   | Or=>exact Dx (ih h1) (lM ih h2)
  ·cases h
def vk {n:GX}(ih:∀ {e:Hi} {e':E},cE n Γ e=ba e'->GE X e (aq M e')){o:GR Hi}{p:Ep}(h:cP (cE n Γ) o=ba p):GO X o (qB M p):=by
 cases o with
 | none=>cases h; exact yn
 | some e=>
  simp only[cP,GP]at h;obtain⟨e',h1,rfl⟩:=h;exact yo (ih h1)
def po (K:CtxOk M X Γ){n:GX}(ih:∀ {e:Hi} {e':E},cE n Γ e=ba e'->GE X e (aq M e')){tg e:Hi}{i:Ie}(h:cI Γ (cE n Γ) tg e=ba i):GI X tg e (fO M i):=by
 have gen:(cE n Γ e).map Ie.seq=ba i->GI X tg e (fO M i):=λh=>by
  rw[GP]at h;obtain⟨e',h1,rfl⟩:=h;exact yM (ih h1)
 unfold cI at h;split at h
 ·rename_i x p a pos;split at h
  ·rename_i hc;rw[GV,GV]at hc;obtain⟨⟨h1,h2⟩,h3⟩:=hc;have hx:=eq_of_beq h1;subst hx;rw[GP]at h;obtain⟨r,hr,rfl⟩:=h;have ns:=bC hr;rw[HR,GV]at ns;exact yF (gr K h2).1 (K.blt _ (by simpa using h3)) (cu ih hr) (al ns.1)
  ·split at h
   ·rename_i hc;rw[GV,GV,GV]at hc;obtain⟨⟨⟨h1,h2⟩,h3⟩,h4⟩:=hc;have hx:=eq_of_beq h1;subst hx;rw[GP]at h;obtain⟨r,hr,rfl⟩:=h;have ns:=bC hr;rw[HR,GV]at ns;cases tg with
    | Tuple els k0 tp=>exact yR (gr K h2).1 (K.blt _ (by simpa using h3)) (cu ih hr) (al ns.1)
    | _=>cases h4
   ·exact gen h
 ·rename_i x p a b pos;split at h
  ·rename_i hc;rw[GV,GV,GV]at hc;obtain⟨⟨⟨h1,h2⟩,h3⟩,h4⟩:=hc;have hx:=eq_of_beq h1;subst hx;rw[GP]at h;obtain⟨r,hr,rfl⟩:=h;have ns:=bC hr;rw[HR,HR,GV,GV]at ns;cases tg with
   | Tuple els k0 tp=>exact BI (gr K h2).1 (K.blt _ (by simpa using h3)) (cu ih hr) (by rw[al ns.1,al ns.2.1]; rfl) (al ns.2.1)
   | _=>cases h4
  ·split at h
   ·rename_i hc;rw[GV,GV]at hc;obtain⟨⟨h1,h2⟩,h3⟩:=hc;have hx:=eq_of_beq h1;subst hx;rw[GP]at h;obtain⟨r,hr,rfl⟩:=h;have ns:=bC hr;rw[HR,HR,GV,GV]at ns;exact yG (gr K h2).1 (K.blt _ (by simpa using h3)) (cu ih hr) (by rw[al ns.1,al ns.2.1]; rfl) (al ns.2.1)
   ·exact gen h
 ·exact gen h
def lN (K:CtxOk M X Γ){x:Ha}{i:GX}(h:cr Γ x=ba i):X.N[i]?=ba x/\xf X.env.scope x/\(X.fn x=true\/X.env.scope.names.lookup x=ba .local):=by
 unfold cr at h;split at h
 ·rename_i hc;show#[by rw[K.N]; exact cJ h,?_]
  unfold L2.xf;rw[K.names];rw[Jr,GV]at hc;rcases hc with hc|⟨hd,hc⟩
  ·have:=eq_of_beq hc;exact#[.inl this,.inr this]
  ·exact#[.inr (eq_of_beq hc),.inl (K.dfn hd x)]
 ·cases h
def nB (K:CtxOk M X Γ):∀ {ts:GK Hi} {is:GK GX},CH Γ ts=ba is->(∀x∈ts,∃y p,x=MA y p)/\LJ (λ(t:Hi) (i:GX)=>∃x p,t=MA x p/\X.N[i]?=ba x/\xf X.env.scope x/\(X.fn x=true\/X.env.scope.names.lookup x=ba .local)) ts is
 | [],is,h=>by cases h; exact#[λx hx=>by simp at hx,.nil]
 | t::ts,is,h=>by
  cases t with
  | Name x p=>
   dsimp only[CH]at h;split at h
   ·rename_i i is' h1 h2;cases h;obtain⟨a,b⟩:=nB K h2;exact#[λy hy=>(Hj.mp hy).elim (λe=>#[x,p,e]) (a y),.cons #[x,p,rfl,lN K h1] b]
   ·cases h
  | _=>cases h
def fQ {env:M7}:∀ {ts:GK Hi},(∀x∈ts,∃y p,x=MA y p)->(assignEach ts env).length=ts.length/\(assignEach ts env).findIdx? (·.1)=gV
 | [],_=>#[rfl,rfl]
 | t::ts,h=>by
  obtain⟨y,p,rfl⟩:=h t Ik;obtain⟨a,b⟩:=fQ (env:=env) λx hx=>h x (HS _ hx)
  show#[by show(assignEach ts env).length+1=ts.length+1; rw[a],?_]
  change List.findIdx? (·.1) ((false,assign (.Name y p) env)::assignEach ts env)=gV
  rw[List.findIdx?_cons,b];rfl
def qF (K:CtxOk M X Γ){tg:Hi}{t:Tg}(h:cT Γ tg=ba t):GG X tg (gO t):=by
 have hN:X.N.Nodup:=by rw[K.N]; exact K.nd
 cases tg with
 | Name x p=>
  dsimp only[cT]at h; simp only[GP]at h
  obtain⟨i,h1,rfl⟩:=h;obtain⟨a,b,c⟩:=lN K h1;exact qw hN a b c
 | Tuple ts k p=>
  dsimp only[cT]at h; simp only[GP]at h
  obtain⟨is,h1,rfl⟩:=h;obtain⟨a,b⟩:=nB K h1;exact Bz K.calm a b hN (fQ a).1 (fQ a).2
 | _=>cases h
end
abbrev dR (env:M7):GK (Ha×IT)->GK (Ha×GZ)->GK (Ha×GZ)
 | [],cs=>cs
 | (n,k)::r,cs=>dR env r (if k==.free then(n,(env.cells.lookup n).getD 0)::cs else cs)
def hX {env:M7}:∀(names:GK (Ha×IT)) (cs:GK (Ha×GZ)),(∀y∈names,y.2=.free->(env.cells.lookup y.1).isSome=true)->
  (forIn names cs λx r=>match x with|(name,kind)=>if (kind==Kn)=true then do let a <- cellOf env name; pure (IQ ((name,a)::r))else pure (IQ r):OP (GK (Ha×GZ)))=pure (dR env names cs)
 | [],cs,_=>by rw[Mp]; rfl
 | (n,k)::r,cs,h=>by
  rw[KW];have hr:=λy hy=>h y (HS _ hy)
  by_cases hk:(k==Kn)=true
  ·obtain⟨c,hc⟩:=Ih.mp (h (n,k) Ik (eq_of_beq hk));have e1:cellOf env n=pure c:=by unfold cellOf; rw[hc]
   simp only[hk,JQ,e1,pure_bind];rw[hX r _ hr];simp only[dR,hk,JQ,hc,NI]
  ·have hk':(k==Kn)=false:=by simpa using hk
   simp only[hk',Ix,JJ,pure_bind];rw[hX r _ hr];simp only[dR,hk',Ix,JJ]
def iJ {scope:J4}{env:M7}(h:∀y∈scope.names,y.2=.free->(env.cells.lookup y.1).isSome=true):closureFor scope env=pure (dR env scope.names []):=by
 have:=hX scope.names [] h;unfold closureFor;simp only[this,pure_bind]
def jk {env:M7}:∀(names:GK (Ha×IT)) (cs:GK (Ha×GZ)),(∀y∈names,y.2=.free->(env.cells.lookup y.1).isSome=true)->(∀x c,cs.lookup x=ba c->env.cells.lookup x=ba c)->
  ∀x c,(dR env names cs).lookup x=ba c->env.cells.lookup x=ba c
 | [],cs,_,h,x,c,e=>h x c e
 | (n,k)::r,cs,hn,h,x,c,e=>by
  show jk r _ (λy hy=>hn y (HS _ hy)) (λx c e=>?_) x c e
  split at e
  ·rename_i hk;rw[IB]at e;split at e
   ·rename_i hx;cases e;have:=eq_of_beq hx;subst this;obtain⟨c,hc⟩:=Ih.mp (hn (x,k) Ik (eq_of_beq hk));rw[hc]; rfl
   ·exact h x c e
  ·exact h x c e
def iE {env:M7}{x:Ha}:∀(names:GK (Ha×IT)) (cs:GK (Ha×GZ)),(∃c,cs.lookup x=ba c)->∃c,(dR env names cs).lookup x=ba c
 | [],cs,h=>h
 | (n,k)::r,cs,h=>by
  show iE r _ ?_;split
  ·rw[IB];split
   ·exact#[_,rfl]
   ·exact h
  ·exact h
def jl {env:M7}{x:Ha}:∀(names:GK (Ha×IT)) (cs:GK (Ha×GZ)),(x,Kn)∈names->∃c,(dR env names cs).lookup x=ba c
 | [],cs,h=>by simp at h
 | (n,k)::r,cs,h=>by
  rcases Hj.mp h with e|h
  ·cases e;show iE r _ ?_;simp[IB]
  ·exact jl r _ h
def jm {x:Ha}{k:IT}:∀ {l:GK (Ha×IT)},l.lookup x=ba k->(x,k)∈l
 | [],h=>by simp at h
 | (n,j)::r,h=>by
  rw[IB]at h;split at h
  ·rename_i hx;cases h;have:=eq_of_beq hx;subst this;exact Ik
  ·exact HS _ (jm h)
def dS {X:Cx}{M:Ha->FF}{Γ:Gam}(K:CtxOk M X Γ)(scope:J4):(relabel scope X.env).names=eP scope.names Γ.sc:=by
 unfold relabel eP LQ;rw[K.kind,K.names];show IK λ#[n,k] _=>?_
 have e:(M4==M4)=true:=rfl;simp only[e,MJ]
def dj {outer:GK (Ha×IT)}{x:Ha}:∀ {names:GK (Ha×IT)},(eP names outer).lookup x=(names.lookup x).map λk=>if (k==.free&&outer.lookup x==ba .cell)then .cell else k
 | []=>rfl
 | (n,k)::r=>by
  have ih:=dj (outer:=outer) (x:=x) (names:=r);change List.lookup x ((if (k==Kn&&outer.lookup n==ba .cell)=true then(n,PJ)else(n,k))::eP r outer)=_
  cases hx:x==n with
  | true=>
   have:=eq_of_beq hx;subst this;simp only[IB,HI,HC];split <;> simp[IB]
  | false=>
   simp only[IB,hx];split <;> (simp only[IB,hx]; exact ih)
section
variable{M:Ha->FF}{X:Cx}{Γ:Gam}
structure ScOk (Γ:Gam)(scope:J4):Prop where
 kind:scope.kind=.function
 names:∀y∈scope.names,y.2=.local->scope.names.lookup y.1=ba .local
 nocell:∀y∈scope.names,y.2≠.cell
 free:∀y∈scope.names,y.2=.free->yU (Γ.sc.lookup y.1)=true/\scope.names.lookup y.1=ba .free/\(Γ.N.findIdx? (· == y.1)).isSome=true
 nd:(fE scope.names).Nodup
def qG {scope:J4}(h:vc Γ scope=true):ScOk Γ scope:=by
 unfold vc at h;rw[GV,GV,GV,GV]at h;obtain⟨⟨⟨⟨h1,h2⟩,h3⟩,h4⟩,h5⟩:=h;show#[eq_of_beq h1,λy hy e=>?_,λy hy e=>?_,λy hy e=>?_,HF h5]
 ·have:=Hq.mp h2 y hy;rw[e]at this
  simpa using this
 ·have:=Hq.mp h3 y hy;rw[e]at this;simp at this
 ·have:=Hq.mp h4 y hy;rw[e]at this;simp only[HI,MK,Lu,GV]at this;exact#[this.1.1,eq_of_beq this.1.2,this.2]
def qH {o:GR IT}(h:yU o=true):o=ba .cell\/o=ba .free:=by
 unfold yU at h;split at h
 ·exact .inl rfl
 ·exact .inr rfl
 ·cases h
def ki (K:CtxOk M X Γ)(ok:X.Ok){scope:J4}(sc:ScOk Γ scope):CompOk X scope (dR X.env scope.names []) (fE scope.names) (eY Γ scope.names):=by
 have cells:∀y∈scope.names,y.2=.free->(X.env.cells.lookup y.1).isSome=true:=λy hy e=>by
  have hk:=qH (sc.free y hy e).1;obtain⟨c,hc⟩:=ok.has y.1 (by unfold LQ; rw[K.names]; exact hk)
  rw[hc]; rfl
 have relab:∀x,((relabel scope X.env).names.lookup x=ba .cell\/(relabel scope X.env).names.lookup x=ba .free)->(x,Kn)∈scope.names:=λx h=>by
  rw[dS K,dj]at h;cases q:scope.names.lookup x with
  | none=>rw[q]at h; rcases h with h|h <;> cases h
  | some k=>
   rw[q]at h;have hm:=jm q;cases k with
   | free=>exact hm
   | cell=>exact absurd rfl (sc.nocell _ hm)
   | _=>rcases h with h|h <;> simp at h
 show#[iJ cells,sc.kind,sc.names,sc.nocell,jk _ _ cells (λx c e=>by cases e),λx h=>jl _ _ (relab x h),by simp[eY],λi j x hi hx=>?_]
 unfold eY at hi;rw[G1,hx]at hi;simp only[HC,Hm]at hi;split at hi
 ·cases hi
 ·rename_i hl;have hx2:x∈fE scope.names:=He hx;unfold fE at hx2;obtain⟨⟨x',k⟩,hf,e⟩:=Hl.mp hx2;obtain⟨hm,hk⟩:=JF.mp hf;have e':x'=x:=e;subst e';have hkf:k=.free:=by
   simp only[Jr]at hk;rcases hk with hk|hk
   ·have:k=.local:=eq_of_beq hk;subst this;have:=sc.names (x',.local) hm rfl;rw[this]at hl;simp at hl
   ·exact eq_of_beq hk
  subst hkf;obtain⟨f1,f2,f3⟩:=sc.free _ hm rfl;show#[by rw[K.N]; exact cJ hi,by unfold LQ; rw[K.names]; exact qH f1,?_]
  rw[dS K,dj,f2];simp only[HC,Hm,HI,Lx];split
  ·exact .inl rfl
  ·exact .inr rfl
def dZ (K:CtxOk M X Γ){scope:J4}(sc:ScOk Γ scope)(C:GZ)(s0:GQ)(H0:Hp)(ex:GK GZ):CtxOk M (jE X scope (dR X.env scope.names []) C (fE scope.names) s0 H0 ex) (fF Γ scope) where
 names:=dS K scope
 kind:=sc.kind
 N:=rfl
 nd:=sc.nd
 calm:=K.calm
 xe:=rfl
 un:=K.un
 dfn:=λh=>by cases h
 blt:=K.blt
 cst:=K.cst
 fns:=K.fns
def nC {cs:Es}{n:GX}{ifs:GK Hi}{Γ:Gam}(hl:ifs.length<=1)(hc:cA (cE n Γ) ifs=ba cs){Yq:Cx}(ih:∀ {e:Hi} {e':E},cE n Γ e=ba e'->GT Yq e (b6 M e'))(hx:Yq.xe=λ_ _=>Iq) :
  ∀J s Y H Q,Inv Yq J Y H s->tT Yq (yT M cs) Y H Q->
  wpAny (model Yq.prog Yq.w) Yq.A (forIn ifs true λc r=>if r=true then do let ok <- isTrue c Yq.env (eval c Yq.env); pure (IQ ok)else pure (IQ r)) (TP Yq J Y Q) (λ_ _=>Iq) s:=by
 intro J s Y H Q I h
 match ifs,hl,hc with
 | [],_,hc=>
  cases hc;obtain⟨A,Z,S,k,S',er,so,e,hq⟩:=h;cases e;exact wpAny_tests_nil #[H,I,hq _ _ #[rfl,A,.refl,so]]
 | [c],_,hc=>
  obtain⟨e',es',h1,h2,rfl⟩:=gq hc;cases h2;have:=ih h1 J s Y H Q I h;rw[hx]at this;exact wpAny_tests_one this
def bq:∀(n:GX) {Γ:Gam} {X:Cx} {e:Hi} {e':E},CtxOk M X Γ->cE n Γ e=ba e'->GE X e (aq M e')/\GT X e (b6 M e'):=by
 intro n
 induction n with
 | zero=>intro Γ X e e' K h; cases h
 | succ n ih=>
  intro Γ X e e' K h;have ihE:∀ {e:Hi} {e':E},cE n Γ e=ba e'->GE X e (aq M e'):=λq=>(ih K q).1
  have ihT:∀ {e:Hi} {e':E},cE n Γ e=ba e'->GT X e (b6 M e'):=λq=>(ih K q).2
  have hu10:X.A.units+10 < cLine:=by have:=K.un; have:d7=20:=rfl; omega
  cases e with
  | Constant c k p=>
   cases c <;> cases h
   all_goals first
    | exact#[lG sP (λ_ _=>.non),bI (lG sP (λ_ _=>.non)) λ_=>rfl]
    | exact#[lG zK (λ_ _=>.bl),bI (lG zK (λ_ _=>.bl)) λ_=>rfl]
    | exact#[lG sO (λ_ _=>.int),bI (lG sO (λ_ _=>.int)) λ_=>rfl]
    | exact#[lG sQ (λ_ _=>.str),bI (lG sQ (λ_ _=>.str)) λ_=>rfl]
  | Name x p=>
   replace h:(match slot Γ x with|some i=>ba (E.v i)|none=>if hG Γ x then(Γ.cst.lookup x).map E.c else gV)=ba e':=h
   split at h
   ·rename_i i h1;cases h;exact#[vf K h1,bI (vf K h1) λ_=>rfl]
   ·split at h
    ·rename_i hg;rw[GP]at h;obtain⟨w,h1,rfl⟩:=h;obtain⟨g1,g2⟩:=gr K hg;have g:=BJ (pos:=p) g1 g2 (K.cst x w h1);exact#[g,bI g λ_=>rfl]
    ·cases h
  | BinOp a op b p=>
   replace h:(match qC op,cE n Γ a,cE n Γ b with|some o,ba a',ba b'=>ba (E.op o a' b')|_,_,_=>gV)=ba e':=h
   split at h
   ·rename_i o a' b' h1 h2 h3;cases h;have e:=vg h1;subst e;exact#[zQ (p7 o) (ihE h2) (ihE h3),bI (zQ (p7 o) (ihE h2) (ihE h3)) λ_=>rfl]
   ·cases h
  | UnaryOp op a p=>
   cases op with
   | Not=>
    replace h:(cE n Γ a).map E.not=ba e':=h;rw[GP]at h;obtain⟨a',h1,rfl⟩:=h;exact#[Bs (ihE h1),Bp (ihT h1)]
   | USub=>
    replace h:(cE n Γ a).map E.neg=ba e':=h;rw[GP]at h;obtain⟨a',h1,rfl⟩:=h;exact#[uD (ihE h1),bI (uD (ihE h1)) λ_=>rfl]
   | _=>exact aD h
  | BoolOp op vs p=>
   replace h:cB (cE n Γ) op vs=ba e':=h;exact#[lL ihE h,(lM ihT h).pt]
  | Compare a ops cs p=>
   match ops,cs,h with
   | [op],[b],h=>
    replace h:(match iD op,cE n Γ a,cE n Γ b with|some o,ba a',ba b'=>ba (E.cmp o a' b')|_,_,_=>gV)=ba e':=h
    split at h
    ·rename_i o a' b' h1 h2 h3;cases h;have e:=jj h1;subst e;exact#[Bl K.un (ihE h2) (ihE h3) (gw h3),Bm K.un (ihE h2) (ihE h3) (gw h3)]
    ·cases h
   | [],_,h=>exact aD h
   | [_],[],h=>exact aD h
   | [_],_::_::_,h=>exact aD h
   | [op,op'],[b,d],h=>
    replace h:(match iD op,iD op',cE n Γ a,cE n Γ b,cE n Γ d with|some o,ba o',ba a',ba b',ba d'=>ba (E.chn o o' a' b' d')|_,_,_,_,_=>gV)=ba e':=h
    split at h
    ·rename_i o o' a' b' d' h1 h2 h3 h4 h5;cases h;have e:=jj h1;subst e;have e:=jj h2;subst e;exact#[uE K.un (ihE h3) (ihE h4) (ihE h5) (gw h5),uF K.un (ihE h3) (ihE h4) (ihE h5) (gw h5)]
    ·cases h
   | [_,_],[],h=>exact aD h
   | [_,_],[_],h=>exact aD h
   | [_,_],_::_::_::_,h=>exact aD h
   | _::_::_::_,_,h=>exact aD h
  | IfExp t a b p=>
   replace h:(match cE n Γ t,cE n Γ a,cE n Γ b with|some t',ba a',ba b'=>ba (E.ite t' a' b')|_,_,_=>gV)=ba e':=h
   split at h
   ·rename_i t' a' b' h1 h2 h3;cases h;exact#[Bt (ihT h1) (ihE h2) (ihE h3),iQ]
   ·cases h
  | Call f args kws p=>
   cases kws with
   | cons _ _=>cases f <;> first|(exact aD h)|(cases args <;> (exact aD h))
   | nil=>
    cases f with
    | Name x q=>
     replace h:(if hG Γ x then match Γ.fns.lookup x with|some k=>(cA (cE n Γ) args).map (E.own x k)|none=>if x==("isinstance" : Ha)then(if Γ.blt.contains x then yX Γ (cE n Γ) args else gV)else match (generalizing:=false) yV x,args with|some b,a::as=>if Γ.blt.contains x then(cA (cE n Γ) (a::as)).map (E.bi b)else gV|_,_=>gV else gV)=ba e':=h
     split at h
     ·rename_i hg;split at h
      ·rename_i k hk;rw[GP]at h;obtain⟨r,hr,rfl⟩:=h;have g:=DM (pos:=p) (p:=q) K hg hk hr (cu ihE hr);exact#[g,bI g λ_=>rfl]
      ·split at h
       ·rename_i his;split at h
        ·rename_i hc;obtain⟨g,a',c',rfl⟩:=DN (pos:=p) (p:=q) K hg his hc ihE h;exact#[g,bI g λ_=>rfl]
        ·cases h
       ·split at h
        ·rename_i bb a as hb;split at h
         ·rename_i hc;rw[GP]at h;obtain⟨r,hr,rfl⟩:=h;have g:=Fz (pos:=p) (p:=q) K hg hb hc hr (cu ihE hr);exact#[g,bI g λ_=>rfl]
         ·cases h
        ·cases h
     ·cases h
    | Attribute o m q=>
     cases args with
     | nil=>exact aD h
     | cons a as=>
      replace h:(match yW m,cE n Γ o,cA (cE n Γ) (a::as)with|some m',ba o',ba es=>if eX o&&(q.endLine==p.line)&&decide ((a::as).length < 29)then ba (E.me m' o' es)else gV|_,_,_=>gV)=ba e':=h
      split at h
      ·rename_i m' o' es h1 h2 h3;split at h
       ·rename_i hc;rw[GV,GV,Hw]at hc;cases h;have g:=FB K (cpos:=p) (apos:=q) h1 hc.1.1 hc.1.2 hc.2 (ihE h2) h3 (cu ihE h3);exact#[g,bI g λ_=>rfl]
       ·cases h
      ·cases h
    | _=>exact aD h
  | Subscript a b p=>
   have plain:(match cE n Γ a,cE n Γ b with|some a',ba b'=>ba (E.ix a' b')|_,_=>gV)=ba e'->GE X (.Subscript a b p) (aq M e')/\GT X (.Subscript a b p) (b6 M e'):=λh=>by
    split at h
    ·rename_i a' b' h1 h2;cases h;have g:=DA (pos:=p) hu10 (ihE h1) (ihE h2) (pk h2);exact#[g,bI g λ_=>rfl]
    ·cases h
   cases b with
   | Slice lo hi st q=>
    cases st with
    | none=>
     replace h:(match cE n Γ a,cP (cE n Γ) lo,cP (cE n Γ) hi with|some a',ba lo',ba hi'=>ba (E.sl a' lo' hi')|_,_,_=>gV)=ba e':=h
     split at h
     ·rename_i a' lo' hi' h1 h2 h3;cases h;have g:=DB (pos:=p) (p2:=q) (ihE h1) (vk ihE h2) (vk ihE h3);exact#[g,bI g λ_=>rfl]
     ·cases h
    | some z=>exact plain h
   | _=>exact plain h
  | Tuple es k p=>
   replace h:(cA (cE n Γ) es).map E.tup=ba e':=h;rw[GP]at h;obtain⟨r,h1,rfl⟩:=h;exact#[uK (cu ihE h1),bI (uK (cu ihE h1)) λ_=>rfl]
  | List es p=>
   replace h:(cA (cE n Γ) es).map E.lst=ba e':=h;rw[GP]at h;obtain⟨r,h1,rfl⟩:=h;exact#[uL (cu ihE h1),bI (uL (cu ihE h1)) λ_=>rfl]
  | Dict keys values p=>
   replace h:vd (cE n Γ) keys values=ba e':=h;unfold vd at h;split at h
   ·rename_i hc;cases h;rw[GV]at hc;have k0:keys=[]:=NJ.mp hc.1;have v0:values=[]:=NJ.mp hc.2;subst k0 v0;exact#[yJ,iQ]
   ·rename_i hc0;split at h
    ·rename_i hc;rw[GV,GV,Hw,Hw]at hc;rw[GP]at h;obtain⟨r,hr,rfl⟩:=h;have h0:keys≠[]:=λz=>by
      subst z;have v0:values=[]:=JW.mp hc.1.2.symm;subst v0;exact hc0 rfl
     exact#[yK (pos:=p) hu10 (qE ihE keys values hc.1.1 hc.1.2 hr) hc.1.1 hc.1.2 h0 hc.2,iQ]
    ·cases h
  | ListComp elt gens scope p=>
   match gens,h with
   | [#[tg,iter,ifs,asy]],h=>
    replace h:(if (asy==0)&&(vc Γ scope&&decide (ifs.length<=1))then match cI Γ (cE n Γ) tg iter,cT (fF Γ scope) tg,cA (cE n (fF Γ scope)) ifs,cE n (fF Γ scope) elt with|some it,ba t,ba cs,ba el=>ba (E.comp el t it cs (eY Γ scope.names))|_,_,_,_=>gV else gV)=ba e':=h
    split at h
    ·rename_i hc;rw[GV,GV,Hw]at hc;have e0:asy=0:=eq_of_beq hc.1;subst e0;replace hc:=hc.2;split at h
     ·rename_i it t cs el h1 h2 h3 h4;cases h;have sc:=qG hc.1;show#[yO K.calm (po K ihE h1) (λok=>#[_,ki K ok sc,?_]) (lK (n:=n) (λel k p=>by cases n <;> rfl) h1),iQ]
      show#[λC s0 H0 ex=>qF (dZ K sc C s0 H0 ex) h2,λC s0 H0 ex J s Y H Q I q=>?_,λC s0 H0 ex=>(ih (dZ K sc C s0 H0 ex) h4).1]
      exact nC hc.2 h3 (λz=>(ih (dZ K sc C s0 H0 ex) z).2) rfl J s Y H Q I q
     ·cases h
    ·cases h
   | [],h=>exact aD h
   | #[_,_,_,_]::_::_,h=>exact aD h
  | _=>exact aD h
end
noncomputable abbrev br:GX:=30
abbrev zV:Hi->Hr
 | .Constant (.str _) _ _=>true
 | _=>false
abbrev hZ:Hi->Hr
 | .ListComp _ _ _ _=>true
 | _=>false
abbrev qI:Hi->Hr
 | .Slice _ _ _ _=>true
 | _=>false
abbrev qJ (f:JO->GR Sm)(ss:GK JO):GR Ss:=ss.foldr (λs acc=>match f s,acc with|some s',ba ss'=>ba (.cons s' ss')|_,_=>gV) (ba .nil)
abbrev BL (Γ:Gam):GK Hi->Hi->GR Sm
 | [.Name x px,.Name y py],.Tuple [a,b] _ _=>match Γ.N.findIdx? (· == x),Γ.N.findIdx? (· == y),cA (cE br Γ) [a,b]with
  | some i,ba j,ba es=>if !(i==j)&&(Γ.sc.lookup x==ba .local)&&(Γ.sc.lookup y==ba .local)&&(py.line==px.line) && !([a,b].all (foldedForSure 8)) && !([a,b].all (constantsAlone 8))then ba (.par i j es)else gV
  | _,_,_=>gV
 | _,_=>gV
abbrev cS:GX->Gam->JO->GR Sm
 | 0,_,_=>gV
 | n+1,Γ,st=>match st with
  | .Assign [.Name x _] e _=>match cr Γ x,cE br Γ e with
   | some i,ba e'=>ba (.set i e')
   | _,_=>gV
  | .Assign [.Tuple ts _ _] e _=>if isTup e then BL Γ ts e else if hZ e then gV else match CH Γ ts,cE br Γ e with
   | some is,ba e'=>ba (.asg is e')
   | _,_=>gV
  | .Assign [.Subscript o k _] e _=>if qI k then gV else match cE br Γ o,cE br Γ k,cE br Γ e with
   | some o',ba k',ba e'=>ba (.put o' k' e')
   | _,_,_=>gV
  | .Expr e _=>if zV e then ba .pass else if hZ e then gV else(cE br Γ e).map .ex
  | .Return (ba e) _=>(cE br Γ e).map .ret
  | .Return gV _=>ba .retN
  | .Pass _=>ba .pass
  | .Raise _ _ _=>ba .bad
  | .Break _=>ba .brk
  | .Continue _=>ba .cont
  | .If t a b _=>match cE br Γ t,qJ (cS n Γ) a,qJ (cS n Γ) b with
   | some t',ba a',ba b'=>ba (.ite t' a' b')
   | _,_,_=>gV
  | .While t b [] _=>match cE br Γ t,qJ (cS n Γ) b with
   | some t',ba b'=>ba (.whl t' b')
   | _,_=>gV
  | .For tg it b [] _=>match cT Γ tg,cI Γ (cE br Γ) tg it,qJ (cS n Γ) b with
   | some t,ba i,ba b'=>ba (.loop t i b')
   | _,_,_=>gV
  | _=>gV
section
variable{M:Ha->FF}{X:Cx}{Γ:Gam}{fuel:GX}
def vm {f:JO->GR Sm}{s:JO}{ss:GK JO}{r:Ss}(h:qJ f (s::ss)=ba r):∃s' ss',f s=ba s'/\qJ f ss=ba ss'/\r=.cons s' ss':=by
 simp only[qJ,NX]at h;split at h
 ·rename_i e' es' h1 h2;cases h;exact#[e',es',h1,h2,rfl]
 ·cases h
def eZ {n:GX}(ih:∀ {st:JO} {s':Sm},cS n Γ st=ba s'->GS X st (eW M fuel s')):∀ {ss:GK JO} {r:Ss},qJ (cS n Γ) ss=ba r->GSs X ss (eO M fuel r)
 | [],r,h=>by cases h; exact yq
 | s::ss,r,h=>by
  obtain⟨s',ss',h1,h2,rfl⟩:=vm h;exact uM (ih h1) (eZ ih h2)
def jn {e:Hi}{t:GR Hi}{l:GX}{env:M7}(h:hZ e=false)(n:GX){Γ:Gam}{e':E}(hc:cE n Γ e=ba e'):swapsWith e t l env=pure false:=by
 cases n with
 | zero=>cases hc
 | succ n=>cases e <;> first|(exfalso; exact aD hc)|rfl|cases h
def pr (K:CtxOk M X Γ){n:GX}{elt:Hi}{gens:GK Comprehension}{scope:J4}{p:Jt}{e':E}(h:cE (n+1) Γ (.ListComp elt gens scope p)=ba e') :
  ∃tg iter ifs fi g c f cap,gens=[#[tg,iter,ifs,0]]/\aq M e'=jh fi g c f cap/\GI X tg iter fi/\(X.Ok->∃cl,CompOk X scope cl (fE scope.names) cap/\BlockOk X scope cl (fE scope.names) tg elt ifs g c f)/\∀x,foldedSetIterable iter X.env x=pure x:=by
 match gens,h with
 | [#[tg,iter,ifs,asy]],h=>
  replace h:(if (asy==0)&&(vc Γ scope&&decide (ifs.length<=1))then match cI Γ (cE n Γ) tg iter,cT (fF Γ scope) tg,cA (cE n (fF Γ scope)) ifs,cE n (fF Γ scope) elt with|some it,ba t,ba cs,ba el=>ba (E.comp el t it cs (eY Γ scope.names))|_,_,_,_=>gV else gV)=ba e':=h
  split at h
  ·rename_i hc;rw[GV,GV,Hw]at hc;have e0:asy=0:=eq_of_beq hc.1;subst e0;replace hc:=hc.2;split at h
   ·rename_i it t cs el h1 h2 h3 h4;cases h;have sc:=qG hc.1;show#[tg,iter,ifs,_,_,_,_,_,rfl,rfl,po K (λz=>(bq n K z).1) h1,λok=>#[_,ki K ok sc,?_],lK (n:=n) (λel k p=>by cases n <;> rfl) h1]
    show#[λC s0 H0 ex=>qF (dZ K sc C s0 H0 ex) h2,λC s0 H0 ex J s Y H Q I q=>?_,λC s0 H0 ex=>(bq n (dZ K sc C s0 H0 ex) h4).1]
    exact nC hc.2 h3 (λz=>(bq n (dZ K sc C s0 H0 ex) z).2) rfl J s Y H Q I q
   ·cases h
  ·cases h
 | [],h=>exact aD h
 | #[_,_,_,_]::_::_,h=>exact aD h
def DO (K:CtxOk M X Γ){x:Ha}{px pos:Jt}{e:Hi}{i:GX}{e':E}(hi:cr Γ x=ba i)(he:cE br Γ e=ba e'):GS X (.Assign [.Name x px] e pos) (jg (aq M e') (zR i)):=by
 obtain⟨a,b,c⟩:=lN K hi;have hN:X.N.Nodup:=by rw[K.N]; exact K.nd
 have plain:swapsWith e (ba (.Name x px)) pos.line X.env=pure false->GS X (.Assign [.Name x px] e pos) (jg (aq M e') (zR i)):=λhs=>pb (bq _ K he).1 (qw hN a b c) hs (by cases e <;> rfl) rfl
 cases hc:hZ e with
 | false=>exact plain (jn hc _ he)
 | true=>
  cases e with
  | ListComp elt gens scope p=>
   cases hsw:(X.env.blockKind==.function&&X.env.kindOf x==ba .local&&px.line==p.line && !(scope.names.any λ(n,k)=>n==x&&(k==.local||k==.cell)))with
   | false=>
    show plain ?_;show(pure (X.env.blockKind==.function&&X.env.kindOf x==ba .local&&px.line==p.line && !(scope.names.any λ(n,k)=>n==x&&(k==.local||k==.cell))):OP Hr)=pure false
    rw[hsw]
   | true=>
    have hsw':swapsWith (.ListComp elt gens scope p) (ba (.Name x px)) pos.line X.env=pure true:=by
     show(pure (X.env.blockKind==.function&&X.env.kindOf x==ba .local&&px.line==p.line && !(scope.names.any λ(n,k)=>n==x&&(k==.local||k==.cell))):OP Hr)=pure true
     rw[hsw]
    rw[GV,GV,GV]at hsw;have hl:X.env.scope.names.lookup x=ba .local:=eq_of_beq hsw.1.1.2;obtain⟨tg,iter,ifs,fi,g,c',f,cap,rfl,e2,gi,hck,hs⟩:=pr K he;rw[e2];exact pg K.calm gi hck hs hsw' hN a hl
  | _=>cases hc
def nD (K:CtxOk M X Γ){x y:Ha}{px py pt pt2:Jt}{kt k2:GX}{a b:Hi}(hxy:x≠y)(hx:Γ.sc.lookup x=ba .local)(hy:Γ.sc.lookup y=ba .local)(hl:(py.line==px.line)=true)(h1:[a,b].all (foldedForSure 8)=false)(h2:[a,b].all (constantsAlone 8)=false)(hs:fP a=true)(hs2:fP b=true) :
  swappedStores [.Tuple [.Name x px,.Name y py] kt pt] (.Tuple [a,b] k2 pt2) X.env=pure (ba [x,y]):=by
 have kx:(X.env.kindOf x==ba .local)=true:=by unfold LQ; rw[K.names,hx]; rfl
 have ky:(X.env.kindOf y==ba .local)=true:=by unfold LQ; rw[K.names,hy]; rfl
 have bk:(X.env.blockKind != .function)=false:=by
  unfold Env.blockKind;rw[K.kind];rfl
 have hp:(px.line==px.line)=true:=by simp
 have ed:([x,y].eraseDups.length != [x,y].length)=false:=by
  have:(y==x)=false:=by simpa using Ne.symm hxy
  simp[ME,this]
 have kx':X.env.kindOf x=ba .local:=eq_of_beq kx;have ky':X.env.kindOf y=ba .local:=eq_of_beq ky;have hl':py.line=px.line:=eq_of_beq hl;have bk':X.env.blockKind=.function:=by simpa using bk
 have yx:(y==x)=false:=by simpa using Ne.symm hxy
 have h1':(foldedForSure 8 a&&foldedForSure 8 b)=false:=by simpa using h1
 have h2':(constantsAlone 8 a&&constantsAlone 8 b)=false:=by simpa using h2
 unfold swappedStores;simp only[Jx,List.any_nil,Ot,Ki,List.filterMap_nil,kx',ky',bk',List.head?_cons,HC,NI,HH,IP,HR,List.all_nil,MJ,h1',h2'];show Eq.trans (Hu ?_) (Eq.trans (Hu ?_) ?_)
 ·decide
 ·rw[Jr];rintro(hh|hh)
  ·clear h1 h2 h1' h2';cases a <;> first|(cases hh; done)|(cases hs; done)
  ·clear h1 h2 h1' h2';cases b <;> first|(cases hh; done)|(cases hs2; done)
 ·dsimp only[Expr.pos]; simp[hl',yx,ME]
def yY (fuel:GX)(K:CtxOk M X Γ):∀(n:GX) {st:JO} {s':Sm},cS n Γ st=ba s'->GS X st (eW M fuel s'):=by
 have hN:X.N.Nodup:=by rw[K.N]; exact K.nd
 have own:Mz (model X.prog X.w) X.A X.env X.xe:=by rw[K.xe]; exact Pu
 intro n
 induction n with
 | zero=>intro st s' h; cases h
 | succ n ih=>
  intro st s' h;cases st with
  | Expr e p=>
   replace h:(if zV e then ba Sm.pass else if hZ e then gV else(cE br Γ e).map Sm.ex)=ba s':=h
   split at h
   ·rename_i hd;cases h;cases e with
    | Constant c k q=>
     cases c with
     | str x=>exact Bx
     | _=>cases hd
    | _=>cases hd
   ·split at h
    ·cases h
    ·rename_i hd hc;rw[GP]at h;obtain⟨e',h1,rfl⟩:=h;exact DC (bq _ K h1).1 (jn (by simpa using hc) _ h1)
  | Return o p=>
   cases o with
   | none=>cases h; exact yy
   | some e=>
    replace h:(cE br Γ e).map Sm.ret=ba s':=h;rw[GP]at h;obtain⟨e',h1,rfl⟩:=h;exact By (bq _ K h1).1
  | Pass p=>cases h; exact yu
  | Raise exc cause pos=>cases h; exact λJ s D Y H I #[A,Z,S,o,S',er,so,e,hq]=>nomatch e
  | Break p=>cases h; exact uO
  | Continue p=>cases h; exact yv
  | If t a b p=>
   replace h:(match cE br Γ t,qJ (cS n Γ) a,qJ (cS n Γ) b with|some t',ba a',ba b'=>ba (Sm.ite t' a' b')|_,_,_=>gV)=ba s':=h
   split at h
   ·rename_i t' a' b' h1 h2 h3;cases h;exact DD (bq _ K h1).2 (eZ ih h2) (eZ ih h3)
   ·cases h
  | While t b o p=>
   cases o with
   | cons _ _=>exact aD h
   | nil=>
    replace h:(match cE br Γ t,qJ (cS n Γ) b with|some t',ba b'=>ba (Sm.whl t' b')|_,_=>gV)=ba s':=h
    split at h
    ·rename_i t' b' h1 h2;cases h;exact uP fuel own (bq _ K h1).2 (eZ ih h2)
    ·cases h
  | For tg it b o p=>
   cases o with
   | cons _ _=>exact aD h
   | nil=>
    replace h:(match cT Γ tg,cI Γ (cE br Γ) tg it,qJ (cS n Γ) b with|some t,ba i,ba b'=>ba (Sm.loop t i b')|_,_,_=>gV)=ba s':=h
    split at h
    ·rename_i t i b' h1 h2 h3;cases h;exact BE own K.calm (po K (λz=>(bq _ K z).1) h2) (qF K h1) (eZ ih h3) (lK (n:=br) (λel k p=>rfl) h2)
    ·cases h
  | Assign ts e p=>
   match ts,h with
   | [],h=>exact aD h
   | a::_::_,h=>cases a <;> exact aD h
   | [t],h=>
    cases t with
    | Name x px=>
     replace h:(match cr Γ x,cE br Γ e with|some i,ba e'=>ba (Sm.set i e')|_,_=>gV)=ba s':=h
     split at h
     ·rename_i i e' h1 h2;cases h;exact DO K h1 h2
     ·cases h
    | Subscript o k q=>
     replace h:(if qI k then gV else match cE br Γ o,cE br Γ k,cE br Γ e with|some o',ba k',ba e'=>ba (Sm.put o' k' e')|_,_,_=>gV)=ba s':=h
     split at h
     ·cases h
     ·rename_i hc;split at h
      ·rename_i o' k' e' h1 h2 h3;cases h;show pb (bq _ K h3).1 (BA (by have:=K.un; have:d7=20:=rfl; omega) (bq _ K h1).1 (bq _ K h2).1 ?_) (by cases e <;> rfl) (by cases e <;> rfl) rfl
       intro v;cases k <;> first|rfl|exact absurd rfl hc
      ·cases h
    | Tuple ts' k q=>
     have par:∀ {x y:Ha} {px py:Jt} {a b:PySem.Expr} {k2:GX} {q2:Jt},(match Γ.N.findIdx? (· == x),Γ.N.findIdx? (· == y),cA (cE br Γ) [a,b]with
       | some i,ba j,ba es=>if !(i==j)&&(Γ.sc.lookup x==ba .local)&&(Γ.sc.lookup y==ba .local)&&(py.line==px.line) && !([a,b].all (foldedForSure 8)) && !([a,b].all (constantsAlone 8))then ba (Sm.par i j es)else gV
       | _,_,_=>gV)=ba s'->GS X (.Assign [.Tuple [.Name x px,.Name y py] k q] (.Tuple [a,b] k2 q2) p) (eW M fuel s'):=λ{x y px py a b k2 q2} h=>by
      split at h
      ·rename_i i j es h1 h2 h3;split at h
       ·rename_i hc;cases h;rw[GV,GV,GV,GV,GV]at hc;obtain⟨⟨⟨⟨⟨c1,c2⟩,c3⟩,c4⟩,c5⟩,c6⟩:=hc;have hij:i≠j:=by simpa using c1
        have ns:=bC h3;rw[HR,HR,GV,GV]at ns;have hi:X.N[i]?=ba x:=by rw[K.N]; exact cJ h1
        have hj:X.N[j]?=ba y:=by rw[K.N]; exact cJ h2
        show BB K.calm hN hi hj hij (by rw[K.names]; exact eq_of_beq c2) (by rw[K.names]; exact eq_of_beq c3) (cu (λz=>(bq _ K z).1) h3) (nD K ?_ (eq_of_beq c2) (eq_of_beq c3) c4 (by rw[<- Nt]; exact c5) (by rw[<- Nt]; exact c6) ns.1 ns.2.1) rfl
        rintro rfl;rw[h1]at h2;cases h2;exact hij rfl
       ·cases h
      ·cases h
     replace h:(if isTup e then BL Γ ts' e else if hZ e then gV else match CH Γ ts',cE br Γ e with|some is,ba e'=>ba (Sm.asg is e')|_,_=>gV)=ba s':=h
     split at h
     ·unfold BL at h;split at h
      ·exact par h
      ·cases h
     ·split at h
      ·cases h
      ·rename_i hc1 hc2;split at h
       ·rename_i is e' h1 h2;cases h;show pb (bq _ K h2).1 (qF (tg:=.Tuple ts' k q) (t:=.tp is) K (by(dsimp only[cT]; simp[h1]))) (jn (t:=ba (.Tuple ts' k q)) (l:=p.line) (env:=X.env) (by simpa using hc2) _ h2) ?_ rfl
        cases e <;> first|rfl|exact absurd rfl hc1
       ·cases h
    | _=>exact aD h
  | _=>exact aD h
end
structure Df where
 ps:GK Ha
 N:GK Ha
 body:Ss
abbrev ee (N:GK Ha)(ws:GK W):Fm:=ws.map ba++HB (N.length - ws.length) gV
abbrev aj (defs:GK (Ha×Df))(fuel:GX):GX->Ha->FF
 | 0,_,_,_=>gV
 | d+1,f,ws,S=>match defs.lookup f with
  | some df=>if ws.length=df.ps.length then match eO (aj defs fuel d) fuel df.body (ee df.N ws) S with
    | some (.rt w,S')=>ba (w,S')
    | some (.nx _,S')=>ba (.non,S')
    | _=>gV
   else gV
  | none=>gV
structure Md where
 fns:GK (Ha×GX)
 blt:GK Ha
 cst:GK (Ha×W)
abbrev vn (tv:Md)(st:JO)(N:GK Ha):Gam:={ sc:=(aN st).names,N:=N,fns:=tv.fns,blt:=tv.blt,dfn:=true,cst:=tv.cst }
abbrev DP (tv:Md)(st:JO)(df:Df):Prop:=qJ (cS 20 (vn tv st df.N)) (bM st)=ba df.body
def kj {K:G0}{A:GK GZ}{H:Hp}{ws:GK W}{vs:GK V}{N:GK Ha}(r:RelL K A H ws vs):EnvRel K A H (ee N ws) (eG N vs):=by
 show#[by simp[ee,L2.eG,r.length],λi w h=>?_]
 unfold ee at h;unfold L2.eG
 by_cases hi:i < ws.length
 ·rw[HL (by simpa using hi),G1]at h
  rw[HL (by rw[GU,<- r.length]; exact hi),G1]
  cases q:ws[i]? with
  | none=>rw[q]at h; cases h
  | some w'=>
   rw[q]at h;simp only[HC,Hm]at h;subst h;obtain⟨v,h1,h2⟩:=r.get q;exact#[v,by rw[h1]; rfl,h2]
 ·rw[JC (by simpa using hi)]at h
  have:=He h;simp at this
section
variable{P:Hs}{w:HA}{K:G0}{mg:Ha->GR GM}{base:HQ}
abbrev zW (P:Hs)(w:HA)(K:G0)(mg:Ha->GR GM)(base:HQ)(tv:Md)(defs:GK (Ha×Df))(fuel d:GX):Prop:=
 ∀f n,tv.fns.lookup f=ba n->∃fa fd ps,FnOk P w K mg base sL d fa fd ps (spF w K n (aj defs fuel d f))/\mg f=ba (.ref fa)/\Iz K (.ref fa)=true/\Binds K fd ps []
structure MdOk (w:HA)(K:G0)(mg:Ha->GR GM)(tv:Md):Prop where
 blt:∀y∈tv.blt,mg y=gV
 cst:∀X:Cx,X.w=w->X.K=K->X.mg=mg->∀x w,tv.cst.lookup x=ba w->u8 X x w
def zX {tv:Md}{defs:GK (Ha×Df)}{fuel d:GX}{x qual:Ha}{st:JO}{f:GZ}{fd:JB}{df:Df}(F:Fun K x qual st f fd)(S:FnScope df.N df.ps (aN st))(hd:defs.lookup x=ba df)(hc:DP tv st df)
  (hb:MdOk w K mg tv) (prev:zW P w K mg base tv defs fuel d):FnOk P w K mg base sL (d+1) f fd df.ps (spF w K df.ps.length (aj defs fuel (d+1) x)):=by
 show F.ok S (λvs H Q E h=>?_) (λcdv A outer s H vs Q E hr h=>?_)
 ·obtain⟨A,S,ws,w',S',_,rl,hl,_⟩:=h;rw[<- rl.length]; exact hl
 ·obtain⟨A',St,ws,w',S',so,rl,hl,e,hq⟩:=h;have K':CtxOk (aj defs fuel d) (oO sL P w K mg base df.N qual (aN st) f cdv A outer s H E).nox (vn tv st df.N):=by
   show#[rfl,S.kind,rfl,S.nd,rfl,rfl,?_,λ_ _=>rfl,hb.blt,hb.cst _ rfl rfl rfl,λg n hg=>?_]
   ·have:=hr.un;show(A.deeper _).units+20 < cLine;omega
   ·obtain⟨fa,fd',ps',h1,h2,h3,h4⟩:=prev g n hg;exact#[d,fa,fd',ps',h1,hr,h2,h3,h4]
  show#[tS _ (eO (aj defs fuel d) fuel df.body),eZ (λz=>yY fuel K' 20 z) hc,?_]
  (dsimp only[aj]at e; simp only[hd]at e)
  rw[Hk hl]at e;split at e
  ·rename_i w1 S1 h1;cases e;show#[A',ee df.N ws,St,_,_,kj rl,so,h1,#[λY' H' #[_,_,z,_,_,_]=>(by cases z),λv H' #[w2,A2,z0,z1,z2,z3]=>?_,λY' H' #[_,_,z,_,_,_]=>(by cases z),λY' H' #[_,_,z,_,_,_]=>(by cases z)]]
   cases z0;exact hq v H' #[A2,z1,z2,z3]
  ·rename_i Z1 S1 h1;cases e;show#[A',ee df.N ws,St,_,_,kj rl,so,h1,#[λY' H' #[w2,A2,z0,z1,z2,z3]=>?_,λY' H' #[_,_,z,_,_,_]=>(by cases z),λY' H' #[_,_,z,_,_,_]=>(by cases z),λY' H' #[_,_,z,_,_,_]=>(by cases z)]]
   exact hq _ H' #[A2,z1,z2,.non]
  ·cases e
def sn {H:Hp}{a:GZ}{ns:GK G7}(hO:tJ H)(hS:SqL K H a (ns.map V.int)):StoreOk w K [a] H [.fro (ns.map W.int)]/\RelL K [a] H [.ref 0] [.ref a]:=by
 have rl:∀ns:GK G7,RelL K [a] H (ns.map W.int) (ns.map V.int):=by
  intro ns
  induction ns with
  | nil=>exact .nil
  | cons n ns ih=>exact .cons .int ih
 have fr:FroL K H a (ns.map V.int):=by
  rcases hS with(h|⟨o,h⟩)|h
  ·rcases hO a with z|⟨o,xs,z⟩ <;> (rw[z]at h; cases h)
  ·exact .inl #[o,h]
  ·exact .inr h
 show#[#[rfl,λi j b o u e1 m1 e2 m2 _ _=>?_,λi o b e1 e2=>?_],.cons (.ref rfl) .nil]
 ·cases i with
  | zero=>simp at e1; subst e1; cases m1
  | succ i=>simp at e1
 ·cases i with
  | zero=>
   simp at e1 e2;subst e1 e2;exact#[_,fr,rl ns]
  | succ i=>simp at e1
def BM {g:FF}{H:Hp}{a:GZ}{ns:GK G7}(h:∃S',g [.ref 0] [.fro (ns.map W.int)]=ba (.bl true,S'))(hO:tJ H)(hS:SqL K H a (ns.map V.int)):spF w K 1 g [.ref a] H (λv _=>v=.bl true) λ_ _ _=>Iq:=by
 obtain⟨S',e⟩:=h;obtain⟨so,rl⟩:=sn hO hS;exact#[[a],_,_,_,S',so,rl,rfl,e,λv H' #[A',z1,z2,z3]=>by cases z3; rfl]
end
abbrev Wp {α:Type}(o:GR α)(Q:α->Prop):Prop:=∃a,o=ba a/\Q a
def ac {α:Type}{a:α}{Q:α->Prop}:Wp (ba a) Q↔Q a:=#[λ#[b,e,h]=>(by cases e; exact h),λh=>#[a,rfl,h]]
def ae {α:Type}{Q:α->Prop}:Wp (gV:GR α) Q↔Iq:=#[λ#[b,e,h]=>(by cases e),λh=>h.elim]
def Wp.mono {α:Type}{o:GR α}{Q Q':α->Prop}(h:Wp o Q)(k:∀a,Q a->Q' a):Wp o Q':=let ⟨a,e,q⟩:=h; #[a,e,k a q]
def FC {α β:Type}{o:GR α}{f:α->β}{Q:β->Prop}:Wp (o.map f) Q↔Wp o λa=>Q (f a):=by cases o <;> simp[ac,ae]
section
variable{M:Ha->FF}{fuel:GX}{Z:Fm}{S:aa}
noncomputable abbrev QW:=W×aa->Prop
def Gz {w:W}{Q:QW}:Wp (aq M (.c w) Z S) Q↔Q (w,S):=by(dsimp only[aq]; simp[fC,ac,ae])
def Gg {i:GX}{Q:QW}:Wp (aq M (.v i) Z S) Q↔∃w,Z[i]?=ba (ba w)/\Q (w,S):=by
 (dsimp only[aq]; simp only[fV])
 rcases h:Z[i]? with _|_|w <;> simp[ac,ae]
def vo {g:W->W->aa->GR (W×aa)}{a b:FE}{Q:QW}:Wp (ye g a b Z S) Q↔Wp (a Z S) λp=>Wp (b Z p.2) λq=>Wp (g p.1 q.1 q.2) Q:=by
 unfold ye;rcases h:a Z S with _|⟨x,S1⟩
 ·simp[ac,ae]
 ·rcases h2:b Z S1 with _|⟨y,S2⟩ <;> simp[ac,ae,h2]
def FD {o:BOp}{a b:E}{Q:QW}:Wp (aq M (.op o a b) Z S) Q↔Wp (aq M a Z S) λp=>Wp (aq M b Z p.2) λq=>Wp (eI o p.1 q.1 q.2) Q:=by dsimp only[aq]; exact vo
def zY {o:COp}{a b:E}{Q:QW}:Wp (aq M (.cmp o a b) Z S) Q↔Wp (aq M a Z S) λp=>Wp (aq M b Z p.2) λq=>Wp (bS o p.1 q.1 q.2) Q:=by dsimp only[aq]; exact vo
def FH {a b:E}{Q:QW}:Wp (aq M (.ix a b) Z S) Q↔Wp (aq M a Z S) λp=>Wp (aq M b Z p.2) λq=>Wp (mj p.1 q.1 q.2) Q:=by dsimp only[aq]; exact vo
def DQ {a b:E}{Q:QW}:Wp (aq M (.and a b) Z S) Q↔Wp (aq M a Z S) λp=>∃k,p.1=.bl k/\(k=true->Wp (aq M b Z p.2) Q)/\(k=false->Q (.bl false,p.2)):=by
 (dsimp only[aq]; dsimp only[qt])
 rcases h:aq M a Z S with _|⟨x,S1⟩
 ·simp[ac,ae]
 ·cases x <;> simp[ac,ae]
  rename_i b; cases b <;> simp[ac,ae]
def FJ {a b:E}{Q:QW}:Wp (aq M (.or a b) Z S) Q↔Wp (aq M a Z S) λp=>∃k,p.1=.bl k/\(k=true->Q (.bl true,p.2))/\(k=false->Wp (aq M b Z p.2) Q):=by
 (dsimp only[aq]; dsimp only[yj])
 rcases h:aq M a Z S with _|⟨x,S1⟩
 ·simp[ac,ae]
 ·cases x <;> simp[ac,ae]
  rename_i b; cases b <;> simp[ac,ae]
def DR {a:E}{Q:QW}:Wp (aq M (.not a) Z S) Q↔Wp (aq M a Z S) λp=>∃k,p.1=.bl k/\Q (.bl (!k),p.2):=by
 (dsimp only[aq]; dsimp only[qu])
 rcases h:aq M a Z S with _|⟨x,S1⟩
 ·simp[ac,ae]
 ·cases x <;> simp[ac,ae]
  rename_i k; cases k <;> simp
def DS {t a b:E}{Q:QW}:Wp (aq M (.ite t a b) Z S) Q↔Wp (b6 M t Z S) λp=>(p.1=true->Wp (aq M a Z p.2) Q)/\(p.1=false->Wp (aq M b Z p.2) Q):=by
 (dsimp only[aq]; simp only[yk])
 rcases h:b6 M t Z S with _|⟨x,S1⟩
 ·simp[ac,ae]
 ·cases x <;> simp[ac,ae]
def zZ {f:Ha}{n:GX}{es:Es}{Q:QW}:Wp (aq M (.own f n es) Z S) Q↔Wp (b7 M es Z S) λp=>p.1.length=n/\Wp (M f p.1 p.2) Q:=by
 (dsimp only[aq]; dsimp only[ni])
 rcases h:b7 M es Z S with _|⟨x,S1⟩
 ·simp[ac,ae]
 ·by_cases hl:x.length=n <;> simp[ac,ae,hl]
def DT {b:Bi}{es:Es}{Q:QW}:Wp (aq M (.bi b es) Z S) Q↔Wp (b7 M es Z S) λp=>Wp (b.fn p.1 p.2) Q:=by
 (dsimp only[aq]; dsimp only[iC])
 rcases h:b7 M es Z S with _|⟨x,S1⟩ <;> simp[ac,ae]
def FK {m:Me}{o:E}{es:Es}{Q:QW}:Wp (aq M (.me m o es) Z S) Q↔Wp (aq M o Z S) λp=>tyOk m.ty p.2 p.1=true/\Wp (b7 M es Z p.2) λq=>Wp (m.fn p.1 q.1 q.2) Q:=by
 (dsimp only[aq]; dsimp only[CF])
 rcases h:aq M o Z S with _|⟨x,S1⟩
 ·simp[ac,ae]
 ·by_cases ht:tyOk m.ty S1 x=true
  ·rcases h2:b7 M es Z S1 with _|⟨y,S2⟩ <;> simp[ac,ae,ht,h2]
  ·simp[ac,ae,ht]
def FL {a:E}{lo hi:Ep}{Q:QW}:Wp (aq M (.sl a lo hi) Z S) Q↔Wp (aq M a Z S) λp=>Wp (qB M lo Z p.2) λq=>Wp (qB M hi Z q.2) λr=>Wp (oF p.1 q.1 r.1 r.2) Q:=by
 (dsimp only[aq]; dsimp only[Dz])
 rcases h:aq M a Z S with _|⟨x,S1⟩
 ·simp[ac,ae]
 ·rcases h2:qB M lo Z S1 with _|⟨y,S2⟩
  ·simp[ac,ae,h2]
  ·rcases h3:qB M hi Z S2 with _|⟨z,S3⟩ <;> simp[ac,ae,h2,h3]
def FM {Q:GR G7×aa->Prop}:Wp (qB M .no Z S) Q↔Q (gV,S):=by(dsimp only[qB]; simp[Bv,ac,ae])
def DU {a:E}{Q:GR G7×aa->Prop}:Wp (qB M (.yes a) Z S) Q↔Wp (aq M a Z S) λp=>∃i,p.1=.int i/\Q (ba i,p.2):=by
 (dsimp only[qB]; simp only[qv])
 rcases h:aq M a Z S with _|⟨x,S1⟩
 ·simp[ac,ae]
 ·cases x <;> simp[ac,ae]
def DV {es:Es}{Q:QW}:Wp (aq M (.tup es) Z S) Q↔Wp (b7 M es Z S) λp=>p.1.length<=sizeLine/\Q (.tup p.1,p.2):=by
 (dsimp only[aq]; (dsimp only[uI]; simp only[oV]))
 rcases h:b7 M es Z S with _|⟨x,S1⟩
 ·simp[ac,ae]
 ·by_cases hl:x.length<=sizeLine <;> simp[ac,ae,hl]
def DW {es:Es}{Q:QW}:Wp (aq M (.lst es) Z S) Q↔Wp (b7 M es Z S) λp=>p.1.length<=sizeLine/\Q (.ref p.2.length,p.2++[.lst p.1]):=by
 (dsimp only[aq]; (dsimp only[uJ]; simp only[jG]))
 rcases h:b7 M es Z S with _|⟨x,S1⟩
 ·simp[ac,ae]
 ·by_cases hl:x.length<=sizeLine <;> simp[ac,ae,hl]
def z5 {c:Iw}{a:E}{Q:QW}:Wp (aq M (.isi c a) Z S) Q↔Wp (aq M a Z S) λp=>∃k,nq p.2 p.1 c=ba k/\Q (.bl k,p.2):=by
 (dsimp only[aq]; simp only[uS])
 rcases h:aq M a Z S with _|⟨x,S1⟩
 ·simp[ac,ae]
 ·cases h2:nq S1 x c <;> simp[ac,ae,h2]
  rename_i k; cases k <;> simp
def DX {a:E}{Q:QW}:Wp (aq M (.neg a) Z S) Q↔Wp (aq M a Z S) λp=>∃i,p.1=.int i/\Q (.int (-i),p.2):=by
 (dsimp only[aq]; simp only[uC])
 rcases h:aq M a Z S with _|⟨x,S1⟩
 ·simp[ac,ae]
 ·cases x <;> simp[ac,ae]
def BN {es:Es}{Q:QW}:Wp (aq M (.disp es) Z S) Q↔Wp (b7 M es Z (S++[.dic []])) λp=>p.2[S.length]?=ba (.dic [])/\∃U,cM [] p.1=ba U/\Q (.ref S.length,p.2.set S.length (.dic U)):=by
 have e:aq M (.disp es) Z S=nr (b7 M es) Z S:=by dsimp only[aq]
 rw[e];unfold nr;cases b7 M es Z (S++[.dic []])with
 | none=>simp[ae]
 | some p=>
  obtain⟨x,S1⟩:=p;simp only[ac];cases h2:S1[S.length]? with
  | none=>simp[ae]
  | some o=>
   cases o with
   | lst _=>simp[ae]
   | fro _=>simp[ae]
   | frd _=>simp[ae]
   | sts _=>simp[ae]
   | rng _ _=>simp[ae]
   | dic U=>
    cases U with
    | nil=>cases h3:cM [] x <;> simp[ac,ae]
    | cons a b=>simp[ae]
def z6 {o o':COp}{a b d:E}{Q:QW}(h:Wp (aq M a Z S) λp=>Wp (aq M b Z p.2) λq=>∃k,oE o p.1 q.1 q.2=ba k/\(k=true->Wp (aq M d Z q.2) λr=>Wp (cg o' q.1 r.1 r.2) Q)/\(k=false->Q (.bl false,q.2))):Wp (aq M (.chn o o' a b d) Z S) Q:=by
 obtain⟨⟨x,S1⟩,e1,⟨y,S2⟩,e2,k,e3,h1,h2⟩:=h;have e:aq M (.chn o o' a b d) Z S=eM o o' (aq M a) (aq M b) (aq M d) Z S:=by dsimp only[aq]
 rw[e];unfold eM;rw[e1];dsimp only;rw[e2];dsimp only;rw[e3];cases k with
 | false=>exact#[_,rfl,h2 rfl]
 | true=>
  obtain⟨⟨z,S3⟩,e4,⟨r,e5,q⟩⟩:=h1 rfl;dsimp only;rw[e4];exact#[_,e5,q]
def DY {Q:GK W×aa->Prop}:Wp (b7 M .nil Z S) Q↔Q ([],S):=by(dsimp only[b7]; (dsimp only[fM]; simp[ac,ae]))
def BO {e:E}{es:Es}{Q:GK W×aa->Prop}:Wp (b7 M (.cons e es) Z S) Q↔Wp (aq M e Z S) λp=>Wp (b7 M es Z p.2) λq=>Q (p.1::q.1,q.2):=by
 (dsimp only[b7]; dsimp only[cG])
 rcases h:aq M e Z S with _|⟨x,S1⟩
 ·simp[ac,ae]
 ·rcases h2:b7 M es Z S1 with _|⟨y,S2⟩ <;> simp[ac,ae,h2]
noncomputable abbrev QB:=Hr×aa->Prop
def z7 {f:FE}{Q:QB}:Wp (mX f Z S) Q↔Wp (f Z S) λp=>∃k,p.1=.bl k/\Q (k,p.2):=by
 unfold mX;rcases h:f Z S with _|⟨x,S1⟩
 ·simp[ac,ae]
 ·cases x <;> simp[ac,ae]
  rename_i k; cases k <;> simp
def qK {f:FE}{Q:QB}:Wp (fu f Z S) Q↔Wp (f Z S) λp=>∃k,dX p.2 p.1=ba k/\Q (k,p.2):=by
 unfold fu;rcases h:f Z S with _|⟨x,S1⟩
 ·simp[ac,ae]
 ·cases h2:dX S1 x <;> simp[ac,ae,h2]
  rename_i k; cases k <;> simp
def DZ {o:COp}{a b:E}{Q:QB}:Wp (b6 M (.cmp o a b) Z S) Q↔Wp (aq M (.cmp o a b) Z S) λp=>∃k,p.1=.bl k/\Q (k,p.2):=by dsimp only[b6,aq]; exact z7
def D0 {o o':COp}{a b d:E}{Q:QB}:Wp (b6 M (.chn o o' a b d) Z S) Q↔Wp (aq M (.chn o o' a b d) Z S) λp=>∃k,p.1=.bl k/\Q (k,p.2):=by dsimp only[b6,aq]; exact z7
def D1 {a b:E}{Q:QB}:Wp (b6 M (.and a b) Z S) Q↔Wp (b6 M a Z S) λp=>(p.1=true->Wp (b6 M b Z p.2) Q)/\(p.1=false->Q (false,p.2)):=by
 (dsimp only[b6]; simp only[uG])
 rcases h:b6 M a Z S with _|⟨x,S1⟩
 ·simp[ac,ae]
 ·cases x <;> simp[ac,ae]
def FN {a b:E}{Q:QB}:Wp (b6 M (.or a b) Z S) Q↔Wp (b6 M a Z S) λp=>(p.1=true->Q (true,p.2))/\(p.1=false->Wp (b6 M b Z p.2) Q):=by
 (dsimp only[b6]; simp only[Dw])
 rcases h:b6 M a Z S with _|⟨x,S1⟩
 ·simp[ac,ae]
 ·cases x <;> simp[ac,ae]
def D2 {a:E}{Q:QB}:Wp (b6 M (.not a) Z S) Q↔Wp (b6 M a Z S) λp=>Q (!p.1,p.2):=by
 (dsimp only[b6]; simp only[yg])
 rcases h:b6 M a Z S with _|⟨x,S1⟩ <;> simp[ac,ae]
def GB {i:GX}{Q:QB}:Wp (b6 M (.v i) Z S) Q↔Wp (aq M (.v i) Z S) λp=>∃k,dX p.2 p.1=ba k/\Q (k,p.2):=by dsimp only[b6,aq]; exact qK
def D3 {f:Ha}{n:GX}{es:Es}{Q:QB}:Wp (b6 M (.own f n es) Z S) Q↔Wp (aq M (.own f n es) Z S) λp=>∃k,dX p.2 p.1=ba k/\Q (k,p.2):=by dsimp only[b6,aq]; exact qK
def FP {b:Bi}{es:Es}{Q:QB}:Wp (b6 M (.bi b es) Z S) Q↔Wp (aq M (.bi b es) Z S) λp=>∃k,dX p.2 p.1=ba k/\Q (k,p.2):=by dsimp only[b6,aq]; exact qK
def D4 {c:Iw}{a:E}{Q:QB}:Wp (b6 M (.isi c a) Z S) Q↔Wp (aq M (.isi c a) Z S) λp=>∃k,dX p.2 p.1=ba k/\Q (k,p.2):=by dsimp only[b6,aq]; exact qK
noncomputable abbrev QO:=Out×aa->Prop
def D5 {Q:QO}:Wp (eO M fuel .nil Z S) Q↔Q (.nx Z,S):=by(dsimp only[eO]; simp[ac,ae])
def BP {s:Sm}{ss:Ss}{Q:QO}:Wp (eO M fuel (.cons s ss) Z S) Q↔Wp (eW M fuel s Z S) λp=>(∀Z',p.1=.nx Z'->Wp (eO M fuel ss Z' p.2) Q)/\((∀Z',p.1≠.nx Z')->Q p):=by
 (dsimp only[eO]; simp only[yr])
 rcases h:eW M fuel s Z S with _|⟨o,S1⟩
 ·simp[ac,ae]
 ·cases o <;> simp[ac,ae]
def vp {f:FE}{g:FG}{Q:QO}:Wp (jg f g Z S) Q↔Wp (f Z S) λp=>Wp (g p.1 Z p.2) λq=>Q (.nx q.1,q.2):=by
 unfold jg;rcases h:f Z S with _|⟨x,S1⟩
 ·simp[ac,ae]
 ·rcases h2:g x Z S1 with _|⟨y,S2⟩ <;> simp[ac,ae,h2]
def BQ {i:GX}{e:E}{Q:QO}:Wp (eW M fuel (.set i e) Z S) Q↔Wp (aq M e Z S) λp=>Q (.nx (Z.set i (ba p.1)),p.2):=by
 dsimp only[eW]; rw[vp]; simp[zR,ac,ae]
def BR {is:GK GX}{e:E}{Q:QO}:Wp (eW M fuel (.asg is e) Z S) Q↔Wp (aq M e Z S) λp=>∃ws Z',p.1=.tup ws/\dh is ws Z=ba Z'/\Q (.nx Z',p.2):=by
 dsimp only[eW]; rw[vp]
 constructor
 ·show λh=>h.mono λp hp=>?_
  obtain⟨w,S1⟩:=p;obtain⟨q,h1,h2⟩:=hp;cases w with
  | tup ws=>
   simp only[CG,GP]at h1;obtain⟨Z',h3,rfl⟩:=h1;exact#[ws,Z',rfl,h3,h2]
  | _=>cases h1
 ·show λh=>h.mono λp hp=>?_
  obtain⟨w,S1⟩:=p;obtain⟨ws,Z',h0,h1,h2⟩:=hp;subst h0;exact#[(Z',S1),by simp[CG,h1],h2]
def BS {i j:GX}{es:Es}{Q:QO}:Wp (eW M fuel (.par i j es) Z S) Q↔Wp (b7 M es Z S) λp=>∃x y,p.1=[x,y]/\Q (.nx ((Z.set i (ba x)).set j (ba y)),p.2):=by
 (dsimp only[eW]; dsimp only[yB])
 rcases h:b7 M es Z S with _|⟨x,S1⟩
 ·simp[ae]
 ·match x with
  | []=>simp[ac,ae]
  | [_]=>simp[ac,ae]
  | [a,b]=>
   simp only[ac];exact#[λh=>#[a,b,rfl,h],λ#[x,y,e,h]=>by cases e; exact h]
  | _::_::_::_=>simp[ac,ae]
def BU {o k e:E}{Q:QO}:Wp (eW M fuel (.put o k e) Z S) Q↔Wp (aq M e Z S) λp=>Wp (aq M o Z p.2) λq=>Wp (aq M k Z q.2) λr=>∃S',gk q.1 r.1 p.1 r.2=ba S'/\Q (.nx Z,S'):=by
 dsimp only[eW]; rw[vp]
 rcases h:aq M e Z S with _|⟨x,S1⟩
 ·simp[ac,ae]
 ·simp only[ac];unfold yA;rcases h2:aq M o Z S1 with _|⟨y,S2⟩
  ·simp[ac,ae]
  ·rcases h3:aq M k Z S2 with _|⟨z,S3⟩
   ·simp[ac,ae,h3]
   ·cases h4:gk y z x S3 <;> simp[ac,ae,h3,h4]
def D6 {e:E}{Q:QO}:Wp (eW M fuel (.ex e) Z S) Q↔Wp (aq M e Z S) λp=>Q (.nx Z,p.2):=by
 (dsimp only[eW]; simp only[yt])
 rcases h:aq M e Z S with _|⟨x,S1⟩ <;> simp[ac,ae]
def BV {e:E}{Q:QO}:Wp (eW M fuel (.ret e) Z S) Q↔Wp (aq M e Z S) λp=>Q (.rt p.1,p.2):=by
 (dsimp only[eW]; simp only[yw])
 rcases h:aq M e Z S with _|⟨x,S1⟩ <;> simp[ac,ae]
def BW {t:E}{a b:Ss}{Q:QO}:Wp (eW M fuel (.ite t a b) Z S) Q↔Wp (b6 M t Z S) λp=>(p.1=true->Wp (eO M fuel a Z p.2) Q)/\(p.1=false->Wp (eO M fuel b Z p.2) Q):=by
 (dsimp only[eW]; simp only[yz])
 rcases h:b6 M t Z S with _|⟨x,S1⟩
 ·simp[ac,ae]
 ·cases x <;> simp[ac,ae]
abbrev vt (I:Fm->aa->Prop)(Q:QO)(o:Out×aa):Prop:=match o.1 with
 | .nx Z'=>I Z' o.2
 | .ct Z'=>I Z' o.2
 | .bk Z'=>Q (.nx Z',o.2)
 | .rt w=>Q (.rt w,o.2)
def ic {mi:MI}{g:FG}{b:FS}{xs:GK W}{Q:QO}(I:GX->Fm->aa->Prop)(hat:∀i Z S,I i Z S->mi.at S i=ba xs[i]?)
  (hstep:∀i w Z S,xs[i]?=ba w->I i Z S->Wp (g w Z S) λq=>Wp (b q.1 q.2) (vt (I (i+1)) Q)) (hend:∀Z S,I xs.length Z S->Q (.nx Z,S)):∀(n i:GX) (Z:Fm) (S:aa),i+n=xs.length->I i Z S->Wp (eN mi g b n i Z S) Q
 | 0,i,Z,S,hl,hI=>by
  have e:mi.at S i=ba gV:=by rw[hat i Z S hI,Mf ∅]
  simp only[eN,e];have hi:i=xs.length:=∅
  exact ac.mpr (hend Z S (hi ▸ hI))
 | n+1,i,Z,S,hl,hI=>by
  have hi:i < xs.length:=∅
  have e:mi.at S i=ba (ba xs[i]):=by rw[hat i Z S hI,G5 hi]
  obtain⟨⟨Z1,S1⟩,h1,⟨o,S2⟩,h2,h3⟩:=hstep i xs[i] Z S (G5 hi) hI;simp only[eN,e,h1,h2];cases o with
  | nx Z2=>exact ic I hat hstep hend n (i+1) Z2 S2 ∅ h3
  | ct Z2=>exact ic I hat hstep hend n (i+1) Z2 S2 ∅ h3
  | bk Z2=>exact ac.mpr h3
  | rt w=>exact ac.mpr h3
def D7 {fi:FI}{g:FG}{b:FS}{Q:QO}:Wp (uQ fi g b Z S) Q↔Wp (fi Z S) λp=>∃n,p.1.len p.2=ba n/\Wp (eN p.1 g b n 0 Z p.2) Q:=by
 unfold uQ;rcases h:fi Z S with _|⟨mi,S1⟩
 ·simp[ae]
 ·cases h2:mi.len S1 <;> simp[ac,ae,h2]
def cR {mi:MI}{g:FG}{c:FT}{f:FE}{xs:GK W}{Q:GK W×aa->Prop}(I:GX->GK W->Fm->aa->Prop)(hat:∀i ys Z S,I i ys Z S->mi.at S i=ba xs[i]?)
  (hstep:∀i w ys Z S,xs[i]?=ba w->I i ys Z S->Wp (g w Z S) λq=>Wp (c q.1 q.2) λk=>(k.1=true->Wp (f q.1 k.2) λy=>I (i+1) (ys++[y.1]) q.1 y.2)/\(k.1=false->I (i+1) ys q.1 k.2))
  (hend:∀ys Z S,I xs.length ys Z S->Q (ys,S)):∀(n i:GX) (ys:GK W) (Z:Fm) (S:aa),i+n=xs.length->I i ys Z S->Wp (a9 mi g c f n i Z S) λp=>Q (ys++p.1,p.2)
 | 0,i,ys,Z,S,hl,hI=>by
  have e:mi.at S i=ba gV:=by rw[hat i ys Z S hI,Mf ∅]
  simp only[a9,e];show ac.mpr ?_;have:i=xs.length:=∅
  simpa using hend ys Z S (this ▸ hI)
 | n+1,i,ys,Z,S,hl,hI=>by
  have hi:i < xs.length:=∅
  have e:mi.at S i=ba (ba xs[i]):=by rw[hat i ys Z S hI,G5 hi]
  obtain⟨⟨Z1,S1⟩,h1,⟨k,S2⟩,h2,h3,h4⟩:=hstep i xs[i] ys Z S (G5 hi) hI;simp only[a9,e,h1,h2];cases k with
  | true=>
   obtain⟨⟨y,S3⟩,h5,h6⟩:=h3 rfl;simp only[h5];obtain⟨⟨zs,S4⟩,h7,h8⟩:=cR I hat hstep hend n (i+1) (ys++[y]) Z1 S3 ∅ h6
   simp only[h7];exact ac.mpr (by simpa using h8)
  | false=>exact cR I hat hstep hend n (i+1) ys Z1 S2 ∅ (h4 rfl)
def vw {elt:E}{tg:Tg}{it:Ie}{cs:Es}{cap:GK (GR GX)}{Q:QW}:Wp (aq M (.comp elt tg it cs cap) Z S) Q↔Wp (fO M it Z S) λp=>∃n,p.1.len p.2=ba n/\Wp (a9 p.1 (gO tg) (yT M cs) (aq M elt) n 0 (cH cap Z) p.2) λq=>q.1.length<=sizeLine/\Q (.ref q.2.length,q.2++[.lst q.1]):=by
 (dsimp only[aq]; simp only[jh,jG])
 rcases h:fO M it Z S with _|⟨mi,S1⟩
 ·simp[ae]
 ·rcases h2:mi.len S1 with _|n
  ·simp[ac,ae,h2]
  ·rcases h3:a9 mi (gO tg) (yT M cs) (aq M elt) n 0 (cH cap Z) S1 with _|⟨ys,S2⟩
   ·simp[ac,ae,h2,h3]
   ·by_cases hl:ys.length<=sizeLine <;> simp[ac,ae,h2,h3,hl]
def D8 {Q:QB}:Wp (yT M .nil Z S) Q↔Q (true,S):=by(dsimp only[yT]; simp[zT,ac])
def D9 {e:E}{Q:QB}:Wp (yT M #v[e] Z S) Q↔Wp (b6 M e Z S) Q:=by dsimp only[yT]; exact Iff.rfl
def jo {c:FT}{b:FS}{Q:QO}(I:GX->Fm->aa->Prop)(hstep:∀m Z S,I m Z S->Wp (c Z S) λk=>(k.1=true->∃m',m=m'+1/\Wp (b Z k.2) (vt (I m') Q))/\(k.1=false->Q (.nx Z,k.2))) :
  ∀(n m:GX) (Z:Fm) (S:aa),m < n->I m Z S->Wp (lH c b n Z S) Q
 | 0,m,Z,S,h,_=>∅
 | n+1,m,Z,S,h,hI=>by
  obtain⟨⟨k,S1⟩,h1,h2,h3⟩:=hstep m Z S hI;simp only[lH,h1];cases k with
  | false=>exact ac.mpr (h3 rfl)
  | true=>
   obtain⟨m',rfl,⟨o,S2⟩,h5,h6⟩:=h2 rfl;simp only[h5];cases o with
   | nx Z2=>exact jo I hstep n m' Z2 S2 ∅ h6
   | ct Z2=>exact jo I hstep n m' Z2 S2 ∅ h6
   | bk Z2=>exact ac.mpr h6
   | rt w=>exact ac.mpr h6
def sr {defs:GK (Ha×Df)}{d:GX}{f:Ha}{ws:GK W}{df:Df}{Q:QW}(h:defs.lookup f=ba df)(hl:ws.length=df.ps.length)
  (hb:Wp (eO (aj defs fuel d) fuel df.body (ee df.N ws) S) λp=>match p.1 with|.rt w=>Q (w,p.2)|.nx _=>Q (.non,p.2)|_=>Iq):Wp (aj defs fuel (d+1) f ws S) Q:=by
 obtain⟨⟨o,S1⟩,h1,h2⟩:=hb;simp only[aj,h,Hk hl,h1];cases o with
 | rt w=>exact ac.mpr h2
 | nx Z=>exact ac.mpr h2
 | bk _=>exact h2.elim
 | ct _=>exact h2.elim
end
section
variable{S:aa}{Q:QW}
def cp {a b:G7}:eI .add (.int a) (.int b) S=ba (.int (a+b),S):=rfl
def qL {a b:G7}:eI .sub (.int a) (.int b) S=ba (.int (a - b),S):=rfl
def lO {c:G7->G7->Hr}{f:G7->G7->G7}{i j:G7}(h:c i j=true):wW c f (.int i) (.int j) S=ba (.int (f i j),S):=by
 unfold wW;dsimp only;rw[Hk h]
def nE {a b:G7}(h : -(2 ^ 64) < b)(h2:b < 2 ^ 64):eI .mul (.int a) (.int b) S=ba (.int (a*b),S):=lO (c:=rH) (f:=(· * ·)) (by
 unfold rH;simp only[Jr,GV,Hw];exact .inr #[h,h2])
def gx {a b:G7}(h:0 < b):eI .mod (.int a) (.int b) S=ba (.int (a % b),S):=lO (c:=λ_ j=>decide (0 < j)) (f:=(· % ·)) (HN h)
def eQ {a b:G7}(h:0 < b)(h2:b < 1073741824):eI .fdiv (.int a) (.int b) S=ba (.int (a / b),S):=lO (c:=λ_ j=>xJ j) (f:=(· / ·)) (by
 unfold xJ;simp only[GV,Hw];exact#[h,h2])
def BX:eI .pow (.int 10) (.int 18) S=ba (.int 1000000000000000000,S):=rfl
def BY {x y:Ha}(h:x.length+y.length<=sizeLine):eI .add (.str x) (.str y) S=ba (.str (x++y),S):=by simp only[eI,rJ]; rw[Hk h]
def pA {xs ys:GK W}(h:(xs++ys).length<=sizeLine):eI .add (.tup xs) (.tup ys) S=ba (.tup (xs++ys),S):=by simp only[eI,rJ,oV]; rw[Hk h]
def pB {i j:GX}{xs ys:GK W}(h1:S[i]?=ba (.lst xs))(h2:S[j]?=ba (.lst ys))(h:(xs++ys).length<=sizeLine):eI .add (.ref i) (.ref j) S=ba (.ref S.length,S++[.lst (xs++ys)]):=by
 simp only[eI,rJ,mh,h1,h2,jG]; rw[Hk h]
def eg {a b:G7}:bS .eq (.int a) (.int b) S=ba (.bl (a==b),S):=rfl
def FQ {a b:G7}:bS .ne (.int a) (.int b) S=ba (.bl (!(a==b)),S):=rfl
def BZ {a b:G7}:bS .lt (.int a) (.int b) S=ba (.bl (decide (a < b)),S):=rfl
def FR {a b:G7}:bS .le (.int a) (.int b) S=ba (.bl (decide (a<=b)),S):=rfl
def Ea {a b:G7}:bS .gt (.int a) (.int b) S=ba (.bl (decide (a > b)),S):=rfl
def FU {a b:G7}:bS .ge (.int a) (.int b) S=ba (.bl (decide (a>=b)),S):=rfl
def z8 {a b:Ha}:bS .eq (.str a) (.str b) S=ba (.bl (a==b),S):=rfl
def Eb {a b:Ha}:bS .ne (.str a) (.str b) S=ba (.bl (!(a==b)),S):=rfl
def ap {r:GX}{xs:GK W}(h:S[r]?=ba (.lst xs)):eF S r=ba xs:=by simp[eF,h]
def yZ {r:GX}{xs:GK W}(h:S[r]?=ba (.fro xs)):eF S r=ba xs:=by simp[eF,h]
def eh {r:GX}{xs:GK W}(h:S[r]?=ba (.lst xs)):mh S r=ba xs:=by simp[mh,h]
def lP {r:GX}{xs:GK W}(h:S[r]?=ba (.lst xs)):gU S r=gV:=by simp[gU,h]
def cx {r:GX}{U:GK (T×W)}(h:S[r]?=ba (.dic U)):gU S r=ba U:=by simp[gU,h]
def lQ {r:GX}{U:GK (T×W)}(h:S[r]?=ba (.dic U)):eF S r=gV:=by simp[eF,h]
def y4 {r:GX}{U:GK (T×W)}(h:S[r]?=ba (.frd U)):gU S r=ba U:=by simp[gU,h]
def atI_nat {α:Type}{xs:GK α}{j:GX}{w:α}(h:xs[j]?=ba w):mB xs (j:G7)=ba w:=by
 have hl:=(G8.mp h).1;unfold mB pW;rw[Hk (Ho j),Hk (by exact_mod_cast hl)]
 simpa using h
def lR {α:Type}{xs:GK α}{i:G7}{w:α}(h0:0<=i)(h:xs[i.toNat]?=ba w):mB xs i=ba w:=by
 have:=atI_nat h
 rwa [MC h0]at this
def vx {r:GX}{xs:GK W}{i:G7}{w:W}(h:S[r]?=ba (.lst xs))(h0:0<=i)(hw:xs[i.toNat]?=ba w):mj (.ref r) (.int i) S=ba (w,S):=by
 change rL (.ref r) (.int i) S=_;simp[rL,ap h,lR h0 hw]
def Ec {xs:GK W}{i:G7}{w:W}(h0:0<=i)(hw:xs[i.toNat]?=ba w):mj (.tup xs) (.int i) S=ba (w,S):=by
 change rL (.tup xs) (.int i) S=_;simp[rL,lR h0 hw]
def z9 {x:Ha}{i:G7}{c:GX}(hz:x.length<=sizeLine)(h0:0<=i)(hw:x.cps.toList[i.toNat]?=ba c):mj (.str x) (.int i) S=ba (.str #[[c].toArray],S):=by
 change rL (.str x) (.int i) S=_;simp[rL,hz,lR h0 hw]
def Aa {r:GX}{xs:GK W}{i:G7}{w:W}(h:S[r]?=ba (.lst xs))(h0:0<=i)(hi:i.toNat < xs.length):gk (.ref r) (.int i) w S=ba (S.set r (.lst (xs.set i.toNat w))):=by
 change rM (.ref r) (.int i) w S=_;have:pW xs.length i=ba i.toNat:=by
  unfold pW;rw[Hk h0,Hk ∅]
 simp[rM,eh h,this]
def Ab {r:GX}{xs:GK W}(h:S[r]?=ba (.lst xs)):Bi.len.fn [.ref r] S=ba (.int xs.length,S):=by
 (dsimp only[Bi.fn,yS,mU,lg]; simp[lP h,ap h])
def qM {r:GX}{xs:GK W}{y:W}(h:S[r]?=ba (.lst xs))(hl:xs.length < sizeLine):gb (.ref r) [y] S=ba (.non,S.set r (.lst (xs++[y]))):=by
 simp[gb,eh h,hl]
def Ed {r:GX}{xs:GK W}(h:S[r]?=ba (.lst xs)):je [.ref r] S=ba (.tup xs,S):=by
 (dsimp only[je,i6]; simp[xX,h,ap h])
def ei {r:GX}{xs:GK W}(h:S[r]?=ba (.lst xs)):tyOk "list" S (.ref r)=true:=by simp[tyOk,ap h]
def bJ {r:GX}{o o':O}(h:S[r]?=ba o):(S.set r o')[r]?=ba o':=by
 rw[IX,Hk rfl,Hk (G8.mp h).1]
def bf {r j:GX}{o':O}(h:r≠j):(S.set r o')[j]?=S[j]?:=by rw[IX,Hu h]
def ag {o:O}:(S++[o])[S.length]?=ba o:=by simp
def am {j:GX}{o u:O}(h:S[j]?=ba o):(S++[u])[j]?=ba o:=by rw[HL (G8.mp h).1]; exact h
def dk {j:GX}{o:O}(h:S[j]?=ba o):j < S.length:=(G8.mp h).1
structure Kp (r:GX)(S S':aa):Prop where
 get:∀j o,j≠r->S[j]?=ba o->S'[j]?=ba o
 len:S.length<=S'.length
def Kp.refl {r:GX}{S:aa}:Kp r S S:=#[λ_ _ _ h=>h,G2 _]
def Kp.trans {r:GX}{S S' S'':aa}(a:Kp r S S')(b:Kp r S' S''):Kp r S S'':=#[λj o n h=>b.get j o n (a.get j o n h),Hz a.len b.len]
def Kp.set {r:GX}{S:aa}{o:O}:Kp r S (S.set r o):=#[λj u n h=>by rw[bf (Ne.symm n)]; exact h,by simp]
def Kp.push {r:GX}{S:aa}{o:O}:Kp r S (S++[o]):=#[λj u n h=>am h,by simp]
def Kp.late {r t:GX}{S0 S:aa}{o:O}(a:Kp r S0 S)(h:S0.length<=t):Kp r S0 (S.set t o):=
 #[λj u n e=>by
  have:=dk e;rw[bf ∅]; exact a.get j u n e,by simpa using a.len]
end
abbrev wO {α:Type}(o:GR α)(Q:α->Prop):Prop:=match o with
 | some a=>Q a
 | none=>Iq
def bn {α:Type}{o:GR α}{Q:α->Prop}(h:wO o Q):Wp o Q:=by
 cases o with
 | none=>exact h.elim
 | some a=>exact#[a,rfl,h]
def Ee {α:Type}{o:GR α}{Q:α->Prop}(h:Wp o Q):wO o Q:=by
 obtain⟨a,rfl,q⟩:=h;exact q
def ab {α:Type}{o:GR α}{a:α}{Q:α->Prop}(e:o=ba a)(h:Q a):wO o Q:=by subst e; exact h
abbrev wB:W->(Hr->Prop)->Prop
 | .bl k,Q=>Q k
 | _,_=>Iq
abbrev wN:W->(G7->Prop)->Prop
 | .int k,Q=>Q k
 | _,_=>Iq
abbrev wU:W->(GK W->Prop)->Prop
 | .tup k,Q=>Q k
 | _,_=>Iq
def nF {w:W}{Q:Hr->Prop}(h:wB w Q):∃k,w=.bl k/\Q k:=by cases w <;> first|exact h.elim|exact#[_,rfl,h]
def Ac {w:W}{Q:G7->Prop}(h:wN w Q):∃k,w=.int k/\Q k:=by cases w <;> first|exact h.elim|exact#[_,rfl,h]
def Ef {w:W}{Q:GK W->Prop}(h:wU w Q):∃k,w=.tup k/\Q k:=by cases w <;> first|exact h.elim|exact#[_,rfl,h]
abbrev w2:GK W->(W->W->Prop)->Prop
 | [x,y],Q=>Q x y
 | _,_=>Iq
def Eg {xs:GK W}{Q:W->W->Prop}(h:w2 xs Q):∃x y,xs=[x,y]/\Q x y:=by
 match xs,h with
 | [x,y],h=>exact#[x,y,rfl,h]
abbrev wG:GR W->(W->Prop)->Prop
 | some w,Q=>Q w
 | none,_=>Iq
abbrev wV:Fm->GX->(W->Prop)->Prop
 | [],_,_=>Iq
 | o::_,0,Q=>wG o Q
 | _::Z,n+1,Q=>wV Z n Q
def vy {Q:W->Prop}:∀ {Z:Fm} {i:GX},wV Z i Q->∃w,Z[i]?=ba (ba w)/\Q w
 | [],i,h=>h.elim
 | some w::Z,0,h=>#[w,rfl,h]
 | none::Z,0,h=>h.elim
 | x::Z,n+1,h=>by
  obtain⟨w,e2,q⟩:=vy (Z:=Z) (i:=n) h;exact#[w,e2,q]
abbrev aL (M:Ha->FF)(f:Ha)(n:GX)(ws:GK W)(S:aa):GR (W×aa):=if ws.length=n then M f ws S else gV
section
variable (M:Ha->FF) (fuel:GX)
mutual
def wE:E->Fm->aa->QW->Prop
 | .c w,_,S,Q=>Q (w,S)
 | .v i,Z,S,Q=>wV Z i λw=>Q (w,S)
 | .op o a b,Z,S,Q=>wE a Z S λp=>wE b Z p.2 λq=>wO (eI o p.1 q.1 q.2) Q
 | .cmp o a b,Z,S,Q=>wE a Z S λp=>wE b Z p.2 λq=>wO (bS o p.1 q.1 q.2) Q
 | .and a b,Z,S,Q=>wE a Z S λp=>wB p.1 λk=>(k=true->wE b Z p.2 Q)/\(k=false->Q (.bl false,p.2))
 | .or a b,Z,S,Q=>wE a Z S λp=>wB p.1 λk=>(k=true->Q (.bl true,p.2))/\(k=false->wE b Z p.2 Q)
 | .not a,Z,S,Q=>wE a Z S λp=>wB p.1 λk=>Q (.bl (!k),p.2)
 | .own f n es,Z,S,Q=>wA es Z S λp=>wO (aL M f n p.1 p.2) Q
 | .bi b es,Z,S,Q=>wA es Z S λp=>wO (b.fn p.1 p.2) Q
 | .me m o es,Z,S,Q=>wE o Z S λp=>tyOk m.ty p.2 p.1=true/\wA es Z p.2 λq=>wO (m.fn p.1 q.1 q.2) Q
 | .ix a b,Z,S,Q=>wE a Z S λp=>wE b Z p.2 λq=>wO (mj p.1 q.1 q.2) Q
 | .sl a lo hi,Z,S,Q=>wE a Z S λp=>wP lo Z p.2 λq=>wP hi Z q.2 λr=>wO (oF p.1 q.1 r.1 r.2) Q
 | .tup es,Z,S,Q=>wA es Z S λp=>Q (.tup p.1,p.2)
 | .lst es,Z,S,Q=>wA es Z S λp=>Q (.ref p.2.length,p.2++[.lst p.1])
 | .isi c a,Z,S,Q=>wE a Z S λp=>wO (nq p.2 p.1 c) λk=>Q (.bl k,p.2)
 | .neg a,Z,S,Q=>wE a Z S λp=>wN p.1 λi=>Q (.int (-i),p.2)
 | .dnew,_,S,Q=>Q (.ref S.length,S++[.dic []])
 | .disp es,Z,S,Q=>wA es Z (S++[.dic []]) λp=>p.2[S.length]?=ba (.dic [])/\wO (cM [] p.1) λU=>Q (.ref S.length,p.2.set S.length (.dic U))
 | .chn o o' a b d,Z,S,Q=>wE a Z S λp=>wE b Z p.2 λq=>wO (oE o p.1 q.1 q.2) λk=>(k=true->wE d Z q.2 λr=>wO (cg o' q.1 r.1 r.2) Q)/\(k=false->Q (.bl false,q.2))
 | .ite t a b,Z,S,Q=>wT t Z S λp=>(p.1=true->wE a Z p.2 Q)/\(p.1=false->wE b Z p.2 Q)
 | .comp elt tg it cs cap,Z,S,Q=>Wp (aq M (.comp elt tg it cs cap) Z S) Q
def wT:E->Fm->aa->QB->Prop
 | .cmp o a b,Z,S,Q=>wE a Z S λp=>wE b Z p.2 λq=>wO (bS o p.1 q.1 q.2) λr=>wB r.1 λk=>Q (k,r.2)
 | .and a b,Z,S,Q=>wT a Z S λp=>(p.1=true->wT b Z p.2 Q)/\(p.1=false->Q (false,p.2))
 | .or a b,Z,S,Q=>wT a Z S λp=>(p.1=true->Q (true,p.2))/\(p.1=false->wT b Z p.2 Q)
 | .not a,Z,S,Q=>wT a Z S λp=>Q (!p.1,p.2)
 | .isi c a,Z,S,Q=>wE a Z S λp=>wO (nq p.2 p.1 c) λk=>Q (k,p.2)
 | .c w,Z,S,Q=>Wp (b6 M (.c w) Z S) Q
 | .v i,Z,S,Q=>wV Z i λw=>wO (dX S w) λk=>Q (k,S)
 | .op o a b,Z,S,Q=>Wp (b6 M (.op o a b) Z S) Q
 | .own f n es,Z,S,Q=>wA es Z S λp=>wO (aL M f n p.1 p.2) λq=>wO (dX q.2 q.1) λk=>Q (k,q.2)
 | .bi b es,Z,S,Q=>wA es Z S λp=>wO (b.fn p.1 p.2) λq=>wO (dX q.2 q.1) λk=>Q (k,q.2)
 | .me m o es,Z,S,Q=>Wp (b6 M (.me m o es) Z S) Q
 | .ix a b,Z,S,Q=>Wp (b6 M (.ix a b) Z S) Q
 | .sl a lo hi,Z,S,Q=>Wp (b6 M (.sl a lo hi) Z S) Q
 | .tup es,Z,S,Q=>Wp (b6 M (.tup es) Z S) Q
 | .lst es,Z,S,Q=>Wp (b6 M (.lst es) Z S) Q
 | .neg a,Z,S,Q=>Wp (b6 M (.neg a) Z S) Q
 | .dnew,Z,S,Q=>Wp (b6 M .dnew Z S) Q
 | .disp es,Z,S,Q=>Wp (b6 M (.disp es) Z S) Q
 | .chn o o' a b d,Z,S,Q=>wE a Z S λp=>wE b Z p.2 λq=>wO (oE o p.1 q.1 q.2) λk=>(k=true->wE d Z q.2 λr=>wO (cg o' q.1 r.1 r.2) λs=>wB s.1 λc=>Q (c,s.2))/\(k=false->Q (false,q.2))
 | .ite t a b,Z,S,Q=>Wp (b6 M (.ite t a b) Z S) Q
 | .comp elt tg it cs cap,Z,S,Q=>Wp (b6 M (.comp elt tg it cs cap) Z S) Q
def wA:Es->Fm->aa->(GK W×aa->Prop)->Prop
 | .nil,_,S,Q=>Q ([],S)
 | .cons e es,Z,S,Q=>wE e Z S λp=>wA es Z p.2 λq=>Q (p.1::q.1,q.2)
def wP:Ep->Fm->aa->(GR G7×aa->Prop)->Prop
 | .no,_,S,Q=>Q (gV,S)
 | .yes a,Z,S,Q=>wE a Z S λp=>wN p.1 λi=>Q (ba i,p.2)
end
abbrev pE (K:Fm->aa->Prop)(Q:QO)(p:Out×aa):Prop:=match p.1 with
 | .nx Z=>K Z p.2
 | o=>Q (o,p.2)
mutual
def wS:Sm->Fm->aa->(Fm->aa->Prop)->QO->Prop
 | .set i e,Z,S,K,_=>wE M e Z S λp=>K (Z.set i (ba p.1)) p.2
 | .asg is e,Z,S,K,_=>wE M e Z S λp=>wU p.1 λws=>wO (dh is ws Z) λZ'=>K Z' p.2
 | .par i j es,Z,S,K,_=>wA M es Z S λp=>w2 p.1 λx y=>K ((Z.set i (ba x)).set j (ba y)) p.2
 | .put o k e,Z,S,K,_=>wE M e Z S λp=>wE M o Z p.2 λq=>wE M k Z q.2 λr=>wO (gk q.1 r.1 p.1 r.2) λS'=>K Z S'
 | .ex e,Z,S,K,_=>wE M e Z S λp=>K Z p.2
 | .ret e,Z,S,_,Q=>wE M e Z S λp=>Q (.rt p.1,p.2)
 | .retN,_,S,_,Q=>Q (.rt .non,S)
 | .pass,Z,S,K,_=>K Z S
 | .brk,Z,S,_,Q=>Q (.bk Z,S)
 | .cont,Z,S,_,Q=>Q (.ct Z,S)
 | .bad,_,_,_,_=>Iq
 | .ite t a b,Z,S,K,Q=>wT M t Z S λp=>∀Q':QO,(∀Z' S',K Z' S'->Q' (.nx Z',S'))->(∀o S',(∀Z',o≠.nx Z')->Q (o,S')->Q' (o,S'))->(p.1=true->y6 a Z p.2 Q')/\(p.1=false->y6 b Z p.2 Q')
 | .whl t b,Z,S,K,Q=>Wp (eW M fuel (.whl t b) Z S) (pE K Q)
 | .loop tg it b,Z,S,K,Q=>Wp (eW M fuel (.loop tg it b) Z S) (pE K Q)
def y6:Ss->Fm->aa->QO->Prop
 | .nil,Z,S,Q=>Q (.nx Z,S)
 | .cons s ss,Z,S,Q=>wS s Z S (λZ' S'=>y6 ss Z' S' Q) Q
end
end
abbrev ER:Es->GX
 | .nil=>0
 | .cons _ es=>ER es+1
mutual
def bW:E->Hr
 | .c _|.v _|.comp _ _ _ _ _|.dnew=>true
 | .op _ a b|.cmp _ a b|.and a b|.or a b|.ix a b=>bW a&&bW b
 | .chn _ _ a b c|.ite a b c=>bW a&&bW b&&bW c
 | .neg a|.not a|.isi _ a=>bW a
 | .own _ n es=>ER es==n&&mo es
 | .bi _ es|.disp es=>mo es
 | .me _ o es=>bW o&&mo es
 | .sl a lo hi=>bW a&&FV lo&&FV hi
 | .tup es|.lst es=>decide (ER es<=1000)&&mo es
def mo:Es->Hr
 | .nil=>true
 | .cons e es=>bW e&&mo es
def FV:Ep->Hr
 | .no=>true
 | .yes e=>bW e
end
mutual
def Gh:Sm->Hr
 | .set _ e|.asg _ e|.ex e|.ret e=>bW e
 | .put o k e=>bW o&&bW k&&bW e
 | .par _ _ es=>mo es
 | .ite t a b=>bW t&&fR a&&fR b
 | _=>true
def fR:Ss->Hr
 | .nil=>true
 | .cons s ss=>Gh s&&fR ss
end
section
variable{M:Ha->FF}{fuel:GX}
def gy:∀ {es:Es} {Z:Fm} {S S':aa} {ws:GK W},b7 M es Z S=ba (ws,S')->ws.length=ER es
 | .nil,Z,S,S',ws,h=>by dsimp only[b7]at h; cases h; rfl
 | .cons e es,Z,S,S',ws,h=>by
  dsimp only[b7]at h;unfold cG at h;split at h
  ·split at h
   ·rename_i h2; cases h; rw[HH,gy h2]; rfl
   ·cases h
  ·cases h
def vz {n:GX}(h:decide (n<=1000)=true):n<=sizeLine:=Hz (HF h) (by rw[HV]; decide)
def bD {a b:Hr}(h:(a&&b)=true):a=true:=by cases a <;> first|rfl|cases h
def cv {a b:Hr}(h:(a&&b)=true):b=true:=by cases a <;> first|exact h|cases h
mutual
theorem aM:∀(e:E) {Z:Fm} {S:aa} {Q:QW},bW e=true->wE M e Z S Q->Wp (aq M e Z S) Q
 | .c w,Z,S,Q,k,h=>Gz.mpr h
 | .v i,Z,S,Q,k,h=>Gg.mpr (vy h)
 | .op o a b,Z,S,Q,k,h=>FD.mpr ((aM a (bD k) h).mono λp hp=>(aM b (cv k) hp).mono λq hq=>bn hq)
 | .cmp o a b,Z,S,Q,k,h=>zY.mpr ((aM a (bD k) h).mono λp hp=>(aM b (cv k) hp).mono λq hq=>bn hq)
 | .and a b,Z,S,Q,k,h=>DQ.mpr ((aM a (bD k) h).mono λp hp=>let ⟨c,e,h1,h2⟩:=nF hp; #[c,e,λz=>aM b (cv k) (h1 z),h2])
 | .or a b,Z,S,Q,k,h=>FJ.mpr ((aM a (bD k) h).mono λp hp=>let ⟨c,e,h1,h2⟩:=nF hp; #[c,e,h1,λz=>aM b (cv k) (h2 z)])
 | .not a,Z,S,Q,k,h=>DR.mpr ((aM a k h).mono λp hp=>nF hp)
 | .own f n es,Z,S,Q,k,h=>zZ.mpr (by
   obtain⟨⟨ws,S1⟩,e,hq⟩:=fG es (cv k) h;have hl:ws.length=n:=(gy e).trans (eq_of_beq (bD k));simp only[aL,Hk hl]at hq;exact#[_,e,hl,bn hq])
 | .bi b es,Z,S,Q,k,h=>DT.mpr ((fG es k h).mono λp hp=>bn hp)
 | .me m o es,Z,S,Q,k,h=>FK.mpr ((aM o (bD k) h).mono λp hp=>#[hp.1,(fG es (cv k) hp.2).mono λq hq=>bn hq])
 | .ix a b,Z,S,Q,k,h=>FH.mpr ((aM a (bD k) h).mono λp hp=>(aM b (cv k) hp).mono λq hq=>bn hq)
 | .sl a lo hi,Z,S,Q,k,h=>FL.mpr ((aM a (bD (bD k)) h).mono λp hp=>(Ad lo (cv (bD k)) hp).mono λq hq=>(Ad hi (cv k) hq).mono λr hr=>bn hr)
 | .tup es,Z,S,Q,k,h=>DV.mpr (by
   obtain⟨⟨ws,S1⟩,e,hq⟩:=fG es (cv k) h;exact#[_,e,by rw[gy e]; exact vz (bD k),hq])
 | .lst es,Z,S,Q,k,h=>DW.mpr (by
   obtain⟨⟨ws,S1⟩,e,hq⟩:=fG es (cv k) h;exact#[_,e,by rw[gy e]; exact vz (bD k),hq])
 | .isi c a,Z,S,Q,k,h=>z5.mpr ((aM a k h).mono λp hp=>bn hp)
 | .neg a,Z,S,Q,k,h=>DX.mpr ((aM a k h).mono λp hp=>Ac hp)
 | .dnew,Z,S,Q,k,h=>#[_,rfl,h]
 | .disp es,Z,S,Q,k,h=>BN.mpr ((fG es k h).mono λp hp=>#[hp.1,let ⟨U,e,q⟩:=bn hp.2; #[U,e,q]])
 | .chn o o' a b d,Z,S,Q,k,h=>z6 ((aM a (bD (bD k)) h).mono λp hp=>(aM b (cv (bD k)) hp).mono λq hq=>let ⟨c,e,h1,h2⟩:=bn hq; #[c,e,λz=>(aM d (cv k) (h1 z)).mono λr hr=>bn hr,h2])
 | .ite t a b,Z,S,Q,k,h=>DS.mpr ((gA t (bD (bD k)) h).mono λp hp=>#[λz=>aM a (cv (bD k)) (hp.1 z),λz=>aM b (cv k) (hp.2 z)])
 | .comp elt tg it cs cap,Z,S,Q,k,h=>h
theorem fG:∀(es:Es) {Z:Fm} {S:aa} {Q:GK W×aa->Prop},mo es=true->wA M es Z S Q->Wp (b7 M es Z S) Q
 | .nil,Z,S,Q,k,h=>DY.mpr h
 | .cons e es,Z,S,Q,k,h=>BO.mpr ((aM e (bD k) h).mono λp hp=>fG es (cv k) hp)
theorem Ad:∀(e:Ep) {Z:Fm} {S:aa} {Q:GR G7×aa->Prop},FV e=true->wP M e Z S Q->Wp (qB M e Z S) Q
 | .no,Z,S,Q,k,h=>FM.mpr h
 | .yes a,Z,S,Q,k,h=>DU.mpr ((aM a k h).mono λp hp=>Ac hp)
theorem gA:∀(e:E) {Z:Fm} {S:aa} {Q:QB},bW e=true->wT M e Z S Q->Wp (b6 M e Z S) Q
 | .cmp o a b,Z,S,Q,k,h=>DZ.mpr (zY.mpr ((aM a (bD k) h).mono λp hp=>(aM b (cv k) hp).mono λq hq=>(bn hq).mono λr hr=>nF hr))
 | .and a b,Z,S,Q,k,h=>D1.mpr ((gA a (bD k) h).mono λp hp=>#[λz=>gA b (cv k) (hp.1 z),hp.2])
 | .or a b,Z,S,Q,k,h=>FN.mpr ((gA a (bD k) h).mono λp hp=>#[hp.1,λz=>gA b (cv k) (hp.2 z)])
 | .not a,Z,S,Q,k,h=>D2.mpr (gA a k h)
 | .isi c a,Z,S,Q,k,h=>D4.mpr (z5.mpr ((aM a k h).mono λp hp=>let ⟨b,e,q⟩:=bn hp; #[b,e,b,rfl,q]))
 | .v i,Z,S,Q,k,h=>GB.mpr (Gg.mpr (let ⟨w,e,q⟩:=vy h; #[w,e,bn q]))
 | .own f n es,Z,S,Q,k,h=>D3.mpr (zZ.mpr (by
   obtain⟨⟨ws,S1⟩,e,hq⟩:=fG es (cv k) h;have hl:ws.length=n:=(gy e).trans (eq_of_beq (bD k));simp only[aL,Hk hl]at hq;exact#[_,e,hl,(bn hq).mono λq hq=>bn hq]))
 | .c w,Z,S,Q,k,h=>h
 | .op o a b,Z,S,Q,k,h=>h
 | .bi b es,Z,S,Q,k,h=>FP.mpr (DT.mpr ((fG es k h).mono λp hp=>(bn hp).mono λq hq=>bn hq))
 | .me m o es,Z,S,Q,k,h=>h
 | .ix a b,Z,S,Q,k,h=>h
 | .sl a lo hi,Z,S,Q,k,h=>h
 | .tup es,Z,S,Q,k,h=>h
 | .lst es,Z,S,Q,k,h=>h
 | .neg a,Z,S,Q,k,h=>h
 | .dnew,Z,S,Q,k,h=>h
 | .disp es,Z,S,Q,k,h=>h
 | .chn o o' a b d,Z,S,Q,k,h=>D0.mpr (z6 ((aM a (bD (bD k)) h).mono λp hp=>(aM b (cv (bD k)) hp).mono λq hq=>let ⟨c,e,h1,h2⟩:=bn hq; #[c,e,λz=>(aM d (cv k) (h1 z)).mono λr hr=>(bn hr).mono λs hs=>nF hs,λz=>#[false,rfl,h2 z]]))
 | .ite t a b,Z,S,Q,k,h=>h
 | .comp elt tg it cs cap,Z,S,Q,k,h=>h
end
mutual
theorem Eh:∀(s:Sm) {Z:Fm} {S:aa} {K:Fm->aa->Prop} {Q:QO},Gh s=true->wS M fuel s Z S K Q->Wp (eW M fuel s Z S) (pE K Q)
 | .set i e,Z,S,K,Q,k,h=>BQ.mpr (aM e k h)
 | .asg is e,Z,S,K,Q,k,h=>BR.mpr ((aM e k h).mono λp hp=>let ⟨ws,e1,h1⟩:=Ef hp; let ⟨Z',e2,h2⟩:=bn h1; #[ws,Z',e1,e2,h2])
 | .par i j es,Z,S,K,Q,k,h=>BS.mpr ((fG es k h).mono λp hp=>Eg hp)
 | .put o i e,Z,S,K,Q,k,h=>BU.mpr ((aM e (cv k) h).mono λp hp=>(aM o (bD (bD k)) hp).mono λq hq=>(aM i (cv (bD k)) hq).mono λr hr=>bn hr)
 | .ex e,Z,S,K,Q,k,h=>D6.mpr (aM e k h)
 | .ret e,Z,S,K,Q,k,h=>BV.mpr (aM e k h)
 | .retN,Z,S,K,Q,k,h=>#[_,rfl,h]
 | .pass,Z,S,K,Q,k,h=>#[_,rfl,h]
 | .brk,Z,S,K,Q,k,h=>#[_,rfl,h]
 | .cont,Z,S,K,Q,k,h=>#[_,rfl,h]
 | .bad,Z,S,K,Q,k,h=>h.elim
 | .ite t a b,Z,S,K,Q,k,h=>BW.mpr ((gA t (bD (bD k)) h).mono λp hp=>by
   obtain⟨h1,h2⟩:=hp (pE K Q) (λZ' S' z=>z) (λo S' hn z=>by cases o <;> first|exact z|exact absurd rfl (hn _))
   exact#[λz=>ie a (cv (bD k)) (h1 z),λz=>ie b (cv k) (h2 z)])
 | .whl t b,Z,S,K,Q,k,h=>h
 | .loop tg it b,Z,S,K,Q,k,h=>h
theorem ie:∀(ss:Ss) {Z:Fm} {S:aa} {Q:QO},fR ss=true->y6 M fuel ss Z S Q->Wp (eO M fuel ss Z S) Q
 | .nil,Z,S,Q,k,h=>D5.mpr h
 | .cons s ss,Z,S,Q,k,h=>BP.mpr ((Eh s (bD k) h).mono λp hp=>by
   obtain⟨o,S1⟩:=p;cases o with
   | nx Z'=>exact#[λZ2 e=>by cases e; exact ie ss (cv k) hp,λz=>absurd rfl (z Z')]
   | _=>exact#[λZ2 e=>(by cases e),λ_=>hp])
end
structure wZ (M:Ha->FF)(fuel:GX)(ss:Ss)(Z:Fm)(S:aa)(Q:QO):Prop where
 out:y6 M fuel ss Z S Q
def Ei {ss:Ss}{Z:Fm}{S:aa}{Q:QO}:y6 M fuel ss Z S Q=wZ M fuel ss Z S Q:=propext #[λh=>#[h],λh=>h.out]
def B0 {defs:GK (Ha×Df)}{d:GX}{f:Ha}{n:GX}{ws:GK W}{df:Df}{S:aa}{Q:QW}(h:defs.lookup f=ba df)(hn:ws.length=n)(hl:ws.length=df.ps.length)(ok:fR df.body=true)
  (hb:∀Q':QO,(∀w S',Q (w,S')->Q' (.rt w,S'))->wZ (aj defs fuel d) fuel df.body (ee df.N ws) S Q'):wO (aL (aj defs fuel (d+1)) f n ws S) Q:=by
 unfold aL;rw[Hk hn];exact Ee (sr h hl ((ie _ ok (hb (λp=>match p.1 with|.rt w=>Q (w,p.2)|_=>Iq) λw S' q=>q).out).mono λp hp=>by
  obtain⟨o,S1⟩:=p;cases o <;> first|exact hp|exact hp.elim))
end
section
variable{M:Ha->FF}{fuel:GX}{Z:Fm}{S:aa}{K:Fm->aa->Prop}{Q:QO}
abbrev vA (M:Ha->FF)(fuel:GX)(b:Ss)(Z:Fm)(S:aa)(I:Fm->aa->Prop)(Q:QO):Prop:=∀Q':QO,(∀Z' S',I Z' S'->Q' (.nx Z',S'))->(∀w S',Q (.rt w,S')->Q' (.rt w,S'))->wZ M fuel b Z S Q'
def ig {tg:Tg}{it:Ie}{b:Ss}{mi:MI}{S1:aa}{xs:GK W}(I:GX->Fm->aa->Prop)(ok:fR b=true)(hi:fO M it Z S=ba (mi,S1))(hat:∀i Z S,I i Z S->mi.at S i=ba xs[i]?)(hl:mi.len S1=ba xs.length)(h0:I 0 Z S1)
  (hstep:∀(i:GX) (w:W) (Z:Fm) (S:aa),xs[i]?=ba w->I i Z S->wO (gO tg w Z S) λq=>vA M fuel b q.1 q.2 (I (i+1)) Q) (hend:∀Z S,I xs.length Z S->K Z S):Wp (eW M fuel (.loop tg it b) Z S) (pE K Q):=by
 rw[eW,D7];show#[_,hi,xs.length,hl,?_];show ic (Q:=pE K Q) I hat (λi w Z S h1 h2=>?_) (λZ S h=>hend Z S h) _ 0 Z S1 ∅ h0
 exact(bn (hstep i w Z S h1 h2)).mono λq hq=>ie b ok (wZ.out (hq _ (λ_ _ h=>h) λ_ _ h=>h))
def aV {e:E}{Q:QW}(ok:bW e=true)(h:wE M e Z S Q):∃w S',aq M e Z S=ba (w,S')/\Q (w,S'):=let ⟨⟨w,S'⟩,a,b⟩:=aM e ok h; #[w,S',a,b]
def gB {i0:GX}{e:E}{b:Ss}(j:G7)(I:GX->Fm->aa->Prop)(oe:bW e=true)(ok:fR b=true)(hj : -(2 ^ 62)<=j/\j < 2 ^ 62)(he:wE M e Z S λp=>p.1=.int j/\I 0 Z p.2)
  (hstep:∀(i:GX) (Z:Fm) (S:aa),(i:G7) < j->I i Z S->vA M fuel b (Z.set i0 (ba (.int i))) S (I (i+1)) Q) (hend:∀Z S,I j.toNat Z S->K Z S):Wp (eW M fuel (.loop (.nm i0) (.rng #v[e]) b) Z S) (pE K Q):=by
 obtain⟨w,S1,e1,rfl,h0⟩:=aV oe he;have hl:(cj 0 j.toNat).length=j.toNat:=by simp[cj]
 show ig (mi:=.its (cj 0 j.toNat)) (S1:=S1) (xs:=cj 0 j.toNat) I ok ?_ (λ_ _ _ _=>rfl) rfl h0 (λi w Z S hw hI=>?_) λZ S hI=>hend Z S (hl ▸ hI)
 ·simp only[fO,b7,cG,fM,pc,e1];rw[Hk hj]
 ·rw[di]at hw;split at hw
  ·rename_i hk;cases hw;rw[LR];exact hstep i Z S ∅ hI
  ·cases hw
def y8 {tg:Tg}{e:E}{b:Ss}(t:GX)(xs:GK W)(I:GX->Fm->aa->Prop)(oe:bW e=true)(ok:fR b=true)(he:wE M e Z S λp=>p.1=.ref t/\I 0 Z p.2)(hat:∀i Z S,I i Z S->S[t]?=ba (.lst xs))
  (hstep:∀(i:GX) (w:W) (Z:Fm) (S:aa),xs[i]?=ba w->I i Z S->wO (gO tg w Z S) λq=>vA M fuel b q.1 q.2 (I (i+1)) Q) (hend:∀Z S,I xs.length Z S->K Z S):Wp (eW M fuel (.loop tg (.seq e) b) Z S) (pE K Q):=by
 obtain⟨w,S1,e1,rfl,h0⟩:=aV oe he;exact ig (mi:=.live t) (S1:=S1) I ok (by simp only[fO,cN,e1,ap (hat _ _ _ h0)]) (λi Z S h=>by simp only[MI.at,ap (hat _ _ _ h)]) (by simp only[MI.len,ap (hat _ _ _ h0),HC]) h0 hstep hend
def Ae {t:E}{b:Ss}(I:GX->Fm->aa->Prop)(m:GX)(ot:bW t=true)(ok:fR b=true)(hm:m < fuel)(h0:I m Z S)
  (hstep:∀m Z S,I m Z S->wT M t Z S λk=>(k.1=true->∃m',m=m'+1/\vA M fuel b Z k.2 (I m') Q)/\(k.1=false->K Z k.2)):Wp (eW M fuel (.whl t b) Z S) (pE K Q):=by
 rw[eW];show jo (Q:=pE K Q) I (λm Z S hI=>(gA t ot (hstep m Z S hI)).mono λk hk=>#[λz=>?_,λz=>hk.2 z]) fuel m Z S hm h0
 obtain⟨m',e,h⟩:=hk.1 z;exact#[m',e,ie b ok (wZ.out (h _ (λ_ _ h=>h) λ_ _ h=>h))]
abbrev wC (M:Ha->FF):Es->Fm->aa->QB->Prop
 | .nil,_,S,Q=>Q (true,S)
 | .cons e .nil,Z,S,Q=>wT M e Z S Q
 | .cons _ (.cons _ _),_,_,_=>Iq
def Ag {cs:Es}{Q:QB}(ok:mo cs=true)(h:wC M cs Z S Q):Wp (yT M cs Z S) Q:=by
 match cs,h,ok with
 | .nil,h,_=>exact D8.mpr h
 | .cons e .nil,h,ok=>exact D9.mpr (gA e (bD ok) h)
abbrev iF (M:Ha->FF)(elt:E)(cs:Es)(Z:Fm)(S:aa)(G:W->Fm->aa->Prop)(N:Fm->aa->Prop):Prop:=wC M cs Z S λk=>(k.1=true->wE M elt Z k.2 λy=>G y.1 Z y.2)/\(k.1=false->N Z k.2)
def lS {elt:E}{tg:Tg}{it:Ie}{cs:Es}{cap:GK (GR GX)}{mi:MI}{S1:aa}{xs:GK W}{Q:QW}(I:GX->GK W->Fm->aa->Prop)(oe:bW elt=true)(oc:mo cs=true)(hi:fO M it Z S=ba (mi,S1))(hat:∀i ys Z S,I i ys Z S->mi.at S i=ba xs[i]?)(hl:mi.len S1=ba xs.length)(h0:I 0 [] (cH cap Z) S1)
  (hstep:∀(i:GX) (w:W) (ys:GK W) (Z:Fm) (S:aa),xs[i]?=ba w->I i ys Z S->wO (gO tg w Z S) λq=>iF M elt cs q.1 q.2 (λy=>I (i+1) (ys++[y])) (I (i+1) ys))
  (hend:∀ys Z S,I xs.length ys Z S->ys.length<=sizeLine/\Q (.ref S.length,S++[.lst ys])):Wp (aq M (.comp elt tg it cs cap) Z S) Q:=by
 rw[vw];show#[_,hi,xs.length,hl,?_];show(cR (xs:=xs) (Q:=λq=>q.1.length<=sizeLine/\Q (.ref q.2.length,q.2++[.lst q.1])) I hat (λi w ys Z S h1 h2=>?_) hend xs.length 0 [] _ S1 ∅ h0).mono λq hq=>by simpa using hq
 exact(bn (hstep i w ys Z S h1 h2)).mono λq hq=>(Ag oc hq).mono λk hk=>#[λz=>aM elt oe (hk.1 z),hk.2]
def cU {elt e:E}{i0:GX}{cs:Es}{cap:GK (GR GX)}{Q:QW}(j:G7)(I:GX->GK W->Fm->aa->Prop)(oi:bW e=true)(oe:bW elt=true)(oc:mo cs=true)(hj : -(2 ^ 62)<=j/\j < 2 ^ 62)(he:wE M e Z S λp=>p.1=.int j/\I 0 [] (cH cap Z) p.2)
  (hstep:∀(i:GX) (ys:GK W) (Z:Fm) (S:aa),(i:G7) < j->I i ys Z S->iF M elt cs (Z.set i0 (ba (.int i))) S (λy=>I (i+1) (ys++[y])) (I (i+1) ys))
  (hend:∀ys Z S,I j.toNat ys Z S->ys.length<=sizeLine/\Q (.ref S.length,S++[.lst ys])):Wp (aq M (.comp elt (.nm i0) (.rng #v[e]) cs cap) Z S) Q:=by
 obtain⟨w,S1,e1,rfl,h0⟩:=aV oi he;have hl:(cj 0 j.toNat).length=j.toNat:=by simp[cj]
 show lS (mi:=.its (cj 0 j.toNat)) (S1:=S1) (xs:=cj 0 j.toNat) I oe oc ?_ (λ_ _ _ _ _=>rfl) rfl h0 (λi w ys Z S hw hI=>?_) λys Z S hI=>hend ys Z S (hl ▸ hI)
 ·simp only[fO,b7,cG,fM,pc,e1];rw[Hk hj]
 ·rw[di]at hw;split at hw
  ·rename_i hk;cases hw;rw[LR];exact hstep i ys Z S ∅ hI
  ·cases hw
def qN {elt e:E}{tg:Tg}{cs:Es}{cap:GK (GR GX)}{Q:QW}(xs:GK W)(I:GX->GK W->Fm->aa->Prop)(oi:bW e=true)(oe:bW elt=true)(oc:mo cs=true)(he:wE M e Z S λp=>p.1=.tup xs/\I 0 [] (cH cap Z) p.2)
  (hstep:∀(i:GX) (w:W) (ys:GK W) (Z:Fm) (S:aa),xs[i]?=ba w->I i ys Z S->wO (gO tg w Z S) λq=>iF M elt cs q.1 q.2 (λy=>I (i+1) (ys++[y])) (I (i+1) ys))
  (hend:∀ys Z S,I xs.length ys Z S->ys.length<=sizeLine/\Q (.ref S.length,S++[.lst ys])):Wp (aq M (.comp elt tg (.seq e) cs cap) Z S) Q:=by
 obtain⟨w,S1,e1,rfl,h0⟩:=aV oi he;exact lS (mi:=.its xs) (S1:=S1) I oe oc (by simp only[fO,cN,e1]) (λ_ _ _ _ _=>rfl) rfl h0 hstep hend
def qO {elt e:E}{tg:Tg}{cs:Es}{cap:GK (GR GX)}{Q:QW}(t:GX)(xs:GK W)(I:GX->GK W->Fm->aa->Prop)(oi:bW e=true)(oe:bW elt=true)(oc:mo cs=true)(he:wE M e Z S λp=>p.1=.ref t/\I 0 [] (cH cap Z) p.2)(hat:∀i ys Z S,I i ys Z S->S[t]?=ba (.lst xs))
  (hstep:∀(i:GX) (w:W) (ys:GK W) (Z:Fm) (S:aa),xs[i]?=ba w->I i ys Z S->wO (gO tg w Z S) λq=>iF M elt cs q.1 q.2 (λy=>I (i+1) (ys++[y])) (I (i+1) ys))
  (hend:∀ys Z S,I xs.length ys Z S->ys.length<=sizeLine/\Q (.ref S.length,S++[.lst ys])):Wp (aq M (.comp elt tg (.seq e) cs cap) Z S) Q:=by
 obtain⟨w,S1,e1,rfl,h0⟩:=aV oi he;exact lS (mi:=.live t) (S1:=S1) I oe oc (by simp only[fO,cN,e1,ap (hat _ _ _ _ h0)]) (λi ys Z S h=>by simp only[MI.at,ap (hat _ _ _ _ h)]) (by simp only[MI.len,ap (hat _ _ _ _ h0),HC]) h0 hstep hend
def st {s:Sm}{ss:Ss}(h:wS M fuel s Z S (λZ' S'=>wZ M fuel ss Z' S' Q) Q):wZ M fuel (.cons s ss) Z S Q:=#[by
 dsimp only[y6];simp only[Ei];exact h]
def bX (h:Q (.nx Z,S)):wZ M fuel .nil Z S Q:=#[h]
def au {t:Hr}{a b:Ss}{Q Q0:QO}{K:Fm->aa->Prop}(ha:t=true->∀Q':QO,(∀Z' S',K Z' S'->Q' (.nx Z',S'))->(∀w S',Q (.rt w,S')->Q' (.rt w,S'))->wZ M fuel a Z S Q')(hb:t=false->∀Q':QO,(∀Z' S',K Z' S'->Q' (.nx Z',S'))->(∀w S',Q (.rt w,S')->Q' (.rt w,S'))->wZ M fuel b Z S Q') :
  ∀Q':QO,(∀Z' S',K Z' S'->Q' (.nx Z',S'))->(∀o S',(∀Z',o≠.nx Z')->Q (o,S')->Q' (o,S'))->(t=true->y6 M fuel a Z S Q')/\(t=false->y6 M fuel b Z S Q'):=
 λQ' h1 h2=>#[λe=>(ha e Q' h1 λw S'=>h2 (.rt w) S' (λ_ z=>nomatch z)).out,λe=>(hb e Q' h1 λw S'=>h2 (.rt w) S' (λ_ z=>nomatch z)).out]
end
abbrev dq:Ss:=
 #v[.ret (.lst #v[.bi .list #v[.v 0],.c (.int 0),.c (.int 0),.c (.int 1),.c (.int 0)])]
abbrev bT:Ss:=
 #v[.ite (.and (.cmp .eq (.ix (.v 0) (.c (.int 2))) (.c (.int 0))) (.cmp .lt (.ix (.v 0) (.c (.int 1))) (.bi .len #v[.ix (.v 0) (.c (.int 0))]))) #v[.set 2 (.ix (.ix (.v 0) (.c (.int 0))) (.ix (.v 0) (.c (.int 1)))),.put (.v 0) (.c (.int 1)) (.op .add (.ix (.v 0) (.c (.int 1))) (.c (.int 1))),.ite (.cmp .ge (.v 2) (.op .pow (.c (.int 10)) (.c (.int 18)))) #v[.put (.v 0) (.c (.int 2)) (.v 2)] #v[.put (.v 0) (.c (.int 3)) (.op .mod (.op .add (.op .add (.op .mul (.ix (.v 0) (.c (.int 3))) (.c (.int 40013))) (.op .mod (.v 2) (.c (.int 1000003)))) (.c (.int 1))) (.c (.int 2147483647)))]] .nil,.ite (.cmp .gt (.ix (.v 0) (.c (.int 2))) (.c (.int 0))) #v[.set 3 (.op .mod (.ix (.v 0) (.c (.int 2))) (.v 1)),.put (.v 0) (.c (.int 2)) (.op .fdiv (.ix (.v 0) (.c (.int 2))) (.v 1)),.ret (.v 3)] .nil,.put (.v 0) (.c (.int 4)) (.op .add (.ix (.v 0) (.c (.int 4))) (.c (.int 1))),.put (.v 0) (.c (.int 3)) (.op .mod (.op .add (.op .add (.op .mul (.ix (.v 0) (.c (.int 3))) (.c (.int 48271))) (.c (.int 12820163))) (.ix (.v 0) (.c (.int 4)))) (.c (.int 2147483647))),.ret (.op .mod (.op .fdiv (.op .mod (.op .mul (.op .add (.op .mod (.ix (.v 0) (.c (.int 3))) (.c (.int 65521))) (.c (.int 1))) (.op .add (.op .fdiv (.ix (.v 0) (.c (.int 3))) (.c (.int 65521))) (.c (.int 7919)))) (.c (.int 1000003))) (.c (.int 7))) (.v 1))]
abbrev cy:Ss:=
 #v[.ret (.me .join (.c (.str "")) #v[.comp (.ix (.c (.str "abcdefghijklmnopqrstuvwxyz")) (.own "_law_pick" 2 #v[.v 2,.c (.int 26)])) (.nm 1) (.rng #v[.v 1]) .nil [gV,gV,ba 0]])]
abbrev en:Ss:=
 #v[.ite (.cmp .ne (.v 1) (.c (.str ""))) #v[.ret (.op .add (.v 1) (.own "_law_letters" 2 #v[.v 0,.op .add (.c (.int 1)) (.own "_law_pick" 2 #v[.v 0,.c (.int 2)])]))] .nil,.ite (.cmp .eq (.own "_law_pick" 2 #v[.v 0,.c (.int 6)]) (.c (.int 0))) #v[.set 2 (.lst #v[.c (.str "markss"),.c (.str "mark"),.c (.str "way"),.c (.str "wayss"),.c (.str "bars"),.c (.str "ba"),.c (.str "somex")]),.set 2 (.op .add (.v 2) (.lst #v[.c (.str "eachx"),.c (.str "note"),.c (.str "no"),.c (.str "ands"),.c (.str "ors"),.c (.str "o"),.c (.str "iss")])),.ret (.ix (.v 2) (.own "_law_pick" 2 #v[.v 0,.c (.int 14)]))] .nil,.ret (.own "_law_letters" 2 #v[.v 0,.op .add (.c (.int 1)) (.own "_law_pick" 2 #v[.v 0,.c (.int 8)])])]
abbrev bV:Ss:=
 #v[.set 2 (.c (.str "")),.ite (.cmp .eq (.own "_law_pick" 2 #v[.v 0,.c (.int 3)]) (.c (.int 0))) #v[.set 2 (.own "_law_letters" 2 #v[.v 0,.op .add (.c (.int 1)) (.own "_law_pick" 2 #v[.v 0,.c (.int 6)])])] .nil,.set 3 (.lst #v[.c (.str "marks"),.c (.str "ways"),.c (.str "bar"),.c (.str "some"),.c (.str "each"),.c (.str "not"),.c (.str "and"),.c (.str "or"),.c (.str "is")]),.loop (.nm 4) (.rng #v[.v 1]) #v[.set 5 (.own "_law_name" 2 #v[.v 0,.v 2]),.set 6 (.c (.int 0)),.whl (.cmp .isin (.v 5) (.v 3)) #v[.set 5 (.op .mul (.ix (.c (.str "abcdefghijklmnopqrstuvwxyz")) (.op .mod (.v 6) (.c (.int 26)))) (.op .add (.c (.int 1)) (.op .fdiv (.v 6) (.c (.int 26))))),.set 6 (.op .add (.v 6) (.c (.int 1)))],.ex (.me .append (.v 3) #v[.v 5])],.ret (.bi .tuple #v[.sl (.v 3) (.yes (.c (.int 9))) .no])]
abbrev cz:Ss:=
 #v[.ite (.cmp .lt (.v 3) (.v 2)) #v[.ret (.ix (.ix (.ix (.v 1) (.v 2)) (.c (.int 1))) (.v 3))] .nil,.ret (.ix (.ix (.ix (.v 0) (.c (.int 1))) (.ix (.ix (.ix (.v 1) (.v 3)) (.c (.int 1))) (.v 2))) (.c (.int 1)))]
abbrev eu:Ss:=
 #v[.set 3 (.lst .nil),.loop (.nm 4) (.rng #v[.bi .len #v[.v 2]]) #v[.set 5 (.ix (.v 2) (.v 4)),.ex (.me .append (.v 3) #v[.tup #v[.ix (.ix (.v 1) (.v 5)) (.c (.int 0)),.bi .tuple #v[.comp (.own "_law_between" 4 #v[.v 3,.v 4,.v 2,.v 1]) (.nm 1) (.seq (.sl (.v 2) .no (.yes (.v 4)))) .nil [gV,gV,ba 5,ba 0,ba 1]]]])],.ret (.bi .tuple #v[.v 3])]
abbrev eR:Ss:=
 #v[.ret (.lst #v[.tup #v[.c (.int 0),.c (.int 1),.c (.int 2)],.tup #v[.c (.int 0),.c (.int 2),.c (.int 1)],.tup #v[.c (.int 1),.c (.int 0),.c (.int 2)],.tup #v[.c (.int 1),.c (.int 2),.c (.int 0)],.tup #v[.c (.int 2),.c (.int 0),.c (.int 1)],.tup #v[.c (.int 2),.c (.int 1),.c (.int 0)]])]
abbrev cV:Ss:=
 #v[.ret (.bi .min #v[.comp (.own "_law_part" 3 #v[.v 2,.v 3,.v 1]) (.nm 1) (.seq (.own "_law_turns" 0 .nil)) .nil [gV,gV,ba 0,ba 1]])]
abbrev dG:Ss:=
 #v[.set 2 (.ix (.lst #v[.lst #v[.tup #v[.c (.int 0)]],.lst #v[.tup #v[.c (.int 0),.c (.int 1)],.tup #v[.c (.int 1),.c (.int 0)]],.lst #v[.tup #v[.c (.int 0),.c (.int 1),.c (.int 2)],.tup #v[.c (.int 1),.c (.int 0),.c (.int 2)],.tup #v[.c (.int 0),.c (.int 2),.c (.int 1)]]]) (.op .sub (.v 1) (.c (.int 1)))),.ret (.ix (.v 2) (.own "_law_pick" 2 #v[.v 0,.bi .len #v[.v 2]]))]
abbrev cC:Ss:=
 #v[.set 4 (.own "_law_names" 2 #v[.v 0,.op .add (.v 1) (.bi .len #v[.v 2])]),.set 5 (.bi .tuple #v[.comp (.tup #v[.ix (.v 4) (.op .add (.v 3) (.v 1)),.ix (.v 2) (.v 1)]) (.nm 1) (.rng #v[.bi .len #v[.v 2]]) .nil [gV,gV,ba 2,ba 1,ba 4]]),.ret (.tup #v[.sl (.v 4) .no (.yes (.v 1)),.v 5,.bi .tuple #v[.bi .sorted #v[.v 3]]])]
abbrev bE:Ss:=
 #v[.set 3 (.lst .nil),.loop (.nm 4) (.rng #v[.c (.int 3)]) #v[.ex (.me .append (.v 3) #v[.tup #v[.own "_law_pick" 2 #v[.v 0,.v 1],.bi .tuple #v[.comp (.own "_law_pick" 2 #v[.v 2,.v 3]) (.nm 1) (.rng #v[.v 4]) .nil [gV,gV,ba 0,ba 2]]]])],.ret (.bi .tuple #v[.v 3])]
abbrev dH:Ss:=
 #v[.set 1 (.lst #v[.tup #v[.c (.int 1),.c (.int 1)],.tup #v[.c (.int 2),.c (.int 1)],.tup #v[.c (.int 3),.c (.int 1)],.tup #v[.c (.int 1),.c (.int 2)],.tup #v[.c (.int 1),.c (.int 2)],.tup #v[.c (.int 2),.c (.int 2)],.tup #v[.c (.int 2),.c (.int 2)],.tup #v[.c (.int 3),.c (.int 2)],.tup #v[.c (.int 1),.c (.int 3)],.tup #v[.c (.int 1),.c (.int 3)],.tup #v[.c (.int 2),.c (.int 3)]]),.ret (.ix (.v 1) (.own "_law_pick" 2 #v[.v 0,.c (.int 11)]))]
abbrev b8:Ss:=
 #v[.asg [1,2] (.own "_law_sizes" 1 #v[.v 0]),.set 3 (.own "_law_rule_of" 4 #v[.v 0,.v 1,.own "_law_backs" 2 #v[.v 0,.v 2],.tup .nil]),.set 4 .dnew,.loop (.nm 5) (.rng #v[.own "_law_pick" 2 #v[.v 0,.c (.int 9)]]) #v[.put (.v 4) (.own "_law_figure" 2 #v[.v 3,.own "_law_free_three" 3 #v[.v 0,.v 1,.v 2]]) (.c (.bl true))],.ret (.tup #v[.ix (.v 3) (.c (.int 0)),.ix (.v 3) (.c (.int 1)),.bi .tuple #v[.bi .sorted #v[.v 4]]])]
abbrev bu:Ss:=
 #v[.set 1 (.lst #v[.tup #v[.tup #v[.c (.int 1),.c (.int 0)],.disp #v[.tup #v[.c (.int 0),.c (.int 0)],.lst #v[.c (.int 0)]],.c (.int 3)],.tup #v[.tup #v[.c (.int 0),.c (.int 2),.c (.int 1)],.disp #v[.tup #v[.c (.int 1),.c (.int 1)],.lst #v[.c (.int 1)]],.c (.int 2)],.tup #v[.tup #v[.c (.int 0),.c (.int 1)],.disp #v[.tup #v[.c (.int 1),.c (.int 1)],.lst #v[.c (.int 1)]],.c (.int 3)]]),.ex (.me .append (.v 1) #v[.tup #v[.tup #v[.c (.int 0),.c (.int 1)],.disp #v[.tup #v[.c (.int 1),.c (.int 1)],.lst #v[.c (.int 1)],.tup #v[.c (.int 0),.c (.int 0)],.lst #v[.c (.int 1)]],.c (.int 3)]]),.ex (.me .append (.v 1) #v[.tup #v[.tup #v[.c (.int 0),.c (.int 1)],.disp #v[.tup #v[.c (.int 1),.c (.int 1)],.lst .nil],.c (.int 1)]]),.ex (.me .append (.v 1) #v[.tup #v[.tup #v[.c (.int 0),.c (.int 2),.c (.int 1)],.disp #v[.tup #v[.c (.int 0),.c (.int 0)],.lst #v[.c (.int 0)],.tup #v[.c (.int 0),.c (.int 1)],.lst #v[.c (.int 1)],.tup #v[.c (.int 1),.c (.int 0)],.lst #v[.c (.int 1)],.tup #v[.c (.int 1),.c (.int 1)],.lst #v[.c (.int 1)]],.c (.int 2)]]),.ex (.me .append (.v 1) #v[.tup #v[.tup #v[.c (.int 1),.c (.int 0)],.dnew,.c (.int 3)]]),.ex (.me .append (.v 1) #v[.tup #v[.tup #v[.c (.int 0),.c (.int 1),.c (.int 2)],.disp #v[.tup #v[.c (.int 2),.c (.int 2)],.lst #v[.c (.int 2)],.tup #v[.c (.int 1),.c (.int 2)],.lst #v[.c (.int 1)],.tup #v[.c (.int 2),.c (.int 1)],.lst #v[.c (.int 1)],.tup #v[.c (.int 1),.c (.int 1)],.lst #v[.c (.int 1),.c (.int 2)]],.c (.int 2)]]),.ex (.me .append (.v 1) #v[.tup #v[.tup #v[.c (.int 0),.c (.int 1),.c (.int 2)],.disp #v[.tup #v[.c (.int 0),.c (.int 0)],.lst #v[.c (.int 0),.c (.int 1)]],.c (.int 2)]]),.ret (.ix (.v 1) (.own "_law_pick" 2 #v[.v 0,.c (.int 9)]))]
abbrev cW:Ss:=
 #v[.set 5 (.disp #v[.tup #v[.c (.int 1),.c (.int 0)],.v 2,.tup #v[.c (.int 2),.c (.int 0)],.v 3,.tup #v[.c (.int 2),.c (.int 1)],.v 4]),.loop (.nm 6) (.seq (.bi .list #v[.v 5])) #v[.put (.v 5) (.tup #v[.ix (.v 6) (.c (.int 1)),.ix (.v 6) (.c (.int 0))]) (.ix (.v 0) (.ix (.v 5) (.v 6)))],.loop (.tp [7,8,9]) (.seq (.own "_law_turns" 0 .nil)) #v[.ite (.cmp .notin (.ix (.v 5) (.tup #v[.v 7,.v 9])) (.me .get (.v 1) #v[.tup #v[.ix (.v 5) (.tup #v[.v 7,.v 8]),.ix (.v 5) (.tup #v[.v 8,.v 9])],.lst #v[.ix (.v 5) (.tup #v[.v 7,.v 9])]])) #v[.ret (.c (.bl true))] .nil],.ret (.c (.bl false))]
abbrev aW:Ss:=
 #v[.set 3 (.bi .len #v[.v 1]),.set 4 (.lst #v[.lst #v[.tup #v[.c (.int 0)]],.lst #v[.tup #v[.c (.int 0),.c (.int 1)],.tup #v[.c (.int 1),.c (.int 0)]]]),.ex (.me .append (.v 4) #v[.lst #v[.tup #v[.c (.int 0),.c (.int 1),.c (.int 2)],.tup #v[.c (.int 0),.c (.int 2),.c (.int 1)],.tup #v[.c (.int 2),.c (.int 0),.c (.int 1)],.tup #v[.c (.int 2),.c (.int 1),.c (.int 0)]]]),.set 5 (.ix (.v 4) (.op .sub (.v 3) (.c (.int 1)))),.ite (.cmp .eq (.v 1) (.tup #v[.c (.int 0),.c (.int 1),.c (.int 2)])) #v[.set 5 (.own "_law_turns" 0 .nil)] .nil,.set 6 (.ix (.v 5) (.own "_law_pick" 2 #v[.v 0,.bi .len #v[.v 5]])),.set 7 (.op .mul (.lst #v[.c (.int 0)]) (.v 3)),.loop (.nm 8) (.rng #v[.v 3]) #v[.put (.v 7) (.ix (.v 6) (.v 8)) (.ix (.v 6) (.ix (.v 1) (.v 8)))],.set 9 .dnew,.loop (.tp [10,11]) (.seq (.v 2)) #v[.put (.v 9) (.tup #v[.ix (.v 6) (.v 10),.ix (.v 6) (.v 11)]) (.comp (.ix (.v 2) (.v 1)) (.nm 1) (.seq (.ix (.v 2) (.tup #v[.v 10,.v 11]))) .nil [gV,gV,ba 6])],.ret (.tup #v[.bi .tuple #v[.v 7],.v 9])]
abbrev bv:Ss:=
 #v[.set 1 (.own "_law_pick" 2 #v[.v 0,.c (.int 7)]),.ite (.cmp .eq (.v 1) (.c (.int 0))) #v[.ret (.own "_law_free_rule" 1 #v[.v 0])] .nil,.ite (.cmp .eq (.v 1) (.c (.int 1))) #v[.ret (.own "_law_one_way_rule" 1 #v[.v 0])] .nil,.asg [2,3,4] (.own "_law_laying_kind" 1 #v[.v 0]),.set 5 (.op .add (.c (.int 1)) (.own "_law_pick" 2 #v[.v 0,.v 4])),.asg [2,3] (.own "_law_numbered" 3 #v[.v 0,.v 2,.v 3]),.set 6 (.own "_law_rule_of" 4 #v[.v 0,.v 5,.v 2,.tup .nil]),.set 7 .dnew,.set 8 (.bi .len #v[.v 2]),.loop (.nm 9) (.rng #v[.op .mul (.op .mul (.v 8) (.v 8)) (.v 8)]) #v[.par 10 11 #v[.op .mod (.v 9) (.v 8),.op .mod (.op .fdiv (.v 9) (.v 8)) (.v 8)],.set 12 (.op .fdiv (.op .fdiv (.v 9) (.v 8)) (.v 8)),.ite (.own "_law_breaks" 5 #v[.v 2,.v 3,.v 10,.v 11,.v 12]) #v[.loop (.nm 13) (.seq (.own "_law_rising" 1 #v[.v 5])) #v[.set 14 (.tup #v[.tup #v[.ix (.v 13) (.c (.int 0)),.tup .nil],.tup #v[.ix (.v 13) (.c (.int 1)),.tup #v[.v 10]]]),.put (.v 7) (.own "_law_figure" 2 #v[.v 6,.op .add (.v 14) (.tup #v[.tup #v[.ix (.v 13) (.c (.int 2)),.tup #v[.v 11,.v 12]]])]) (.c (.bl true))]] .nil],.ret (.tup #v[.ix (.v 6) (.c (.int 0)),.ix (.v 6) (.c (.int 1)),.bi .tuple #v[.bi .sorted #v[.v 7]]])]
abbrev cX:Ss:=
 #v[.set 1 (.lst .nil),.loop (.nm 2) (.rng #v[.v 0]) #v[.loop (.nm 3) (.rng2 #v[.v 2,.v 0]) #v[.set 1 (.op .add (.v 1) (.comp (.tup #v[.v 2,.v 3,.v 1]) (.nm 1) (.rng2 #v[.v 3,.v 0]) .nil [gV,gV,ba 2,ba 3]))]],.ret (.v 1)]
abbrev bP:Ss:=
 #v[.asg [1,2] (.own "_law_sizes" 1 #v[.v 0]),.set 3 (.own "_law_rule_of" 4 #v[.v 0,.v 1,.own "_law_backs" 2 #v[.v 0,.v 2],.tup .nil]),.set 5 (.comp (.v 1) (.nm 1) (.rng #v[.v 2]) #v[.cmp .eq (.ix (.ix (.ix (.v 2) (.c (.int 1))) (.v 1)) (.c (.int 1))) (.v 1)] [gV,gV,ba 3]),.ite (.or (.cmp .eq (.v 5) (.lst .nil)) (.cmp .eq (.v 2) (.c (.int 1)))) #v[.ret (.v 3)] .nil,.set 6 (.ix (.v 5) (.own "_law_pick" 2 #v[.v 0,.bi .len #v[.v 5]])),.set 7 .dnew,.loop (.nm 4) (.rng #v[.own "_law_pick" 2 #v[.v 0,.c (.int 9)]]) #v[.set 8 (.own "_law_free_three" 3 #v[.v 0,.v 1,.v 2]),.ite (.and (.cmp .ne (.ix (.ix (.ix (.v 8) (.c (.int 1))) (.c (.int 1))) (.c (.int 0))) (.v 6)) (.cmp .notin (.v 6) (.ix (.ix (.v 8) (.c (.int 2))) (.c (.int 1))))) #v[.put (.v 7) (.own "_law_figure" 2 #v[.v 3,.v 8]) (.c (.bl true))] .nil],.ret (.tup #v[.ix (.v 3) (.c (.int 0)),.ix (.v 3) (.c (.int 1)),.bi .tuple #v[.bi .sorted #v[.v 7]]])]
abbrev bh:Ss:=
 #v[.set 1 (.op .add (.c (.int 1)) (.own "_law_pick" 2 #v[.v 0,.c (.int 3)])),.set 2 (.comp (.tup #v[.tup #v[.v 1,.tup .nil],.tup #v[.v 1,.tup #v[.c (.int 0)]],.tup #v[.v 1,.tup #v[.c (.int 0),.c (.int 0)]]]) (.nm 1) (.rng #v[.v 1]) #v[.cmp .eq (.own "_law_pick" 2 #v[.v 2,.c (.int 2)]) (.c (.int 0))] [gV,gV,ba 0]),.ret (.own "_law_rule_of" 4 #v[.v 0,.v 1,.tup #v[.c (.int 0)],.v 2])]
abbrev aK:Ss:=
 #v[.set 1 (.own "_law_pick" 2 #v[.v 0,.c (.int 3)]),.ite (.cmp .eq (.v 1) (.c (.int 0))) #v[.ret (.own "_law_rule_of" 4 #v[.v 0,.c (.int 1),.tup #v[.c (.int 0),.c (.int 1)],.comp (.tup #v[.tup #v[.c (.int 0),.tup .nil],.tup #v[.c (.int 0),.tup #v[.v 1]],.tup #v[.c (.int 0),.tup #v[.v 1,.v 1]]]) (.nm 1) (.rng #v[.c (.int 2)]) .nil [gV,gV]])] .nil,.ite (.cmp .eq (.v 1) (.c (.int 1))) #v[.set 2 (.own "_law_rule_of" 4 #v[.v 0,.c (.int 2),.tup #v[.c (.int 0),.c (.int 1)],.tup .nil]),.set 3 .dnew,.loop (.nm 4) (.seq (.own "_law_rising" 1 #v[.c (.int 2)])) #v[.loop (.tp [5,6,7]) (.seq (.lst #v[.tup #v[.c (.int 1),.c (.int 1),.c (.int 0)],.tup #v[.c (.int 1),.c (.int 1),.c (.int 1)],.tup #v[.c (.int 1),.c (.int 0),.c (.int 1)],.tup #v[.c (.int 0),.c (.int 1),.c (.int 1)]])) #v[.set 8 (.tup #v[.tup #v[.ix (.v 4) (.c (.int 0)),.tup .nil],.tup #v[.ix (.v 4) (.c (.int 1)),.tup #v[.v 5]]]),.put (.v 3) (.own "_law_figure" 2 #v[.v 2,.op .add (.v 8) (.tup #v[.tup #v[.ix (.v 4) (.c (.int 2)),.tup #v[.v 6,.v 7]]])]) (.c (.bl true))]],.ret (.tup #v[.ix (.v 2) (.c (.int 0)),.ix (.v 2) (.c (.int 1)),.bi .tuple #v[.bi .sorted #v[.v 3]]])] .nil,.set 9 (.op .add (.c (.int 2)) (.own "_law_pick" 2 #v[.v 0,.c (.int 2)])),.set 3 (.comp (.tup #v[.tup #v[.c (.int 0),.tup .nil],.tup #v[.v 1,.tup #v[.c (.int 0)]],.tup #v[.op .sub (.v 2) (.c (.int 1)),.tup #v[.c (.int 0),.c (.int 0)]]]) (.nm 1) (.rng #v[.v 9]) .nil [gV,gV,ba 9]),.ret (.own "_law_rule_of" 4 #v[.v 0,.v 9,.tup #v[.c (.int 0)],.sl (.v 3) .no (.yes (.op .add (.c (.int 1)) (.own "_law_pick" 2 #v[.v 0,.v 9])))])]
abbrev bz:Ss:=
 #v[.ite (.cmp .is (.v 1) (.c .non)) #v[.ret (.cmp .is (.v 0) (.c .non))] .nil,.ite (.or (.isi "bool" (.v 1)) (.isi "bool" (.v 0))) #v[.ret (.and (.isi "bool" (.v 1)) (.and (.isi "bool" (.v 0)) (.cmp .eq (.v 0) (.v 1))))] .nil,.ite (.isi "int" (.v 1)) #v[.ret (.and (.isi "int" (.v 0)) (.cmp .eq (.v 0) (.v 1)))] .nil,.ite (.isi "str" (.v 1)) #v[.ret (.and (.isi "str" (.v 0)) (.cmp .eq (.v 0) (.v 1)))] .nil,.ite (.or (.cmp .ne (.isi "tuple" (.v 1)) (.isi "tuple" (.v 0))) (.cmp .ne (.isi "list" (.v 1)) (.isi "list" (.v 0)))) #v[.ret (.c (.bl false))] .nil,.ret (.and (.cmp .eq (.bi .len #v[.v 0]) (.bi .len #v[.v 1])) (.bi .all #v[.comp (.own "_law_alike" 2 #v[.ix (.v 3) (.v 1),.ix (.v 2) (.v 1)]) (.nm 1) (.rng #v[.bi .len #v[.v 1]]) .nil [gV,gV,ba 1,ba 0]]))]
abbrev dt:Ss:=
 #v[.set 1 (.own "_law_pick" 2 #v[.v 0,.c (.int 4)]),.ite (.cmp .eq (.v 1) (.c (.int 0))) #v[.ret (.own "_law_laying_rule" 1 #v[.v 0])] .nil,.ite (.cmp .eq (.v 1) (.c (.int 1))) #v[.ret (.own "_law_unlaying_rule" 1 #v[.v 0])] .nil,.ret (.own "_law_any_rule" 1 #v[.v 0])]
abbrev Is (defs:GK (Ha×Df))(f:Ha)(np nn:GX)(b:Ss):Prop:=∃df:Df,defs.lookup f=ba df/\df.ps.length=np/\df.N.length=nn/\df.body=b
def ak {defs:GK (Ha×Df)}{fuel d:GX}{f:Ha}{np nn:GX}{b:Ss}{ws:GK W}{S:aa}{Q:QW}(h:Is defs f np nn b)(hl:ws.length=np)(ok:fR b=true)
  (hb:∀Q':QO,(∀w S',Q (w,S')->Q' (.rt w,S'))->wZ (aj defs fuel d) fuel b (ws.map ba++HB (nn - np) gV) S Q'):wO (aL (aj defs fuel (d+1)) f np ws S) Q:=by
 obtain⟨df,h1,h2,h3,h4⟩:=h;subst h4;show B0 h1 hl (hl.trans h2.symm) ok λQ' hR=>?_
 have:=hb Q' hR;unfold ee;rw[h3,hl];exact this
structure Gen (defs:GK (Ha×Df)):Prop where
 pick:Is defs ("_law_pick" : Ha) 2 4 bT
 letters:Is defs ("_law_letters" : Ha) 2 2 cy
 name:Is defs ("_law_name" : Ha) 2 3 en
 names:Is defs ("_law_names" : Ha) 2 7 bV
 between:Is defs ("_law_between" : Ha) 4 4 cz
 part:Is defs ("_law_part" : Ha) 3 6 eu
 turns:Is defs ("_law_turns" : Ha) 0 0 eR
 figure:Is defs ("_law_figure" : Ha) 2 2 cV
 backs:Is defs ("_law_backs" : Ha) 2 3 dG
 rule_of:Is defs ("_law_rule_of" : Ha) 4 6 cC
 free_three:Is defs ("_law_free_three" : Ha) 3 5 bE
 sizes:Is defs ("_law_sizes" : Ha) 1 2 dH
 any_rule:Is defs ("_law_any_rule" : Ha) 1 6 b8
 laying_kind:Is defs ("_law_laying_kind" : Ha) 1 2 bu
 breaks:Is defs ("_law_breaks" : Ha) 5 10 cW
 numbered:Is defs ("_law_numbered" : Ha) 3 12 aW
 laying_rule:Is defs ("_law_laying_rule" : Ha) 1 15 bv
 rising:Is defs ("_law_rising" : Ha) 1 4 cX
 free_rule:Is defs ("_law_free_rule" : Ha) 1 9 bP
 one_way_rule:Is defs ("_law_one_way_rule" : Ha) 1 3 bh
structure FlA (S:aa)(r q:GX)(ns:GK G7)(i c x n:G7):Prop where
 at_r:S[r]?=ba (.lst [.ref q,.int i,.int c,.int x,.int n])
 at_q:S[q]?=ba (.lst (ns.map W.int))
 lt:q < r
 i0:0<=i
 c0:0<=c
 x0:0<=x
 x1:x < 2147483647
def FlA.ne {S:aa}{r q:GX}{ns:GK G7}{i c x n:G7}(h:FlA S r q ns i c x n):q≠r:=Hn h.lt
abbrev Fl (S:aa)(r:GX):Prop:=∃(q:GX) (ns:GK G7) (i c x n:G7),FlA S r q ns i c x n
def FlA.put {S:aa}{r q:GX}{ns:GK G7}{i c x n i' c' x' n':G7}(h:FlA S r q ns i c x n)(h1:0<=i')(h2:0<=c')(h3:0<=x')(h4:x' < 2147483647):FlA (S.set r (.lst [.ref q,.int i',.int c',.int x',.int n'])) r q ns i' c' x' n':=
 #[bJ h.at_r,by rw[bf (Ne.symm h.ne)]; exact h.at_q,h.lt,h1,h2,h3,h4]
def Fl.keep {S S':aa}{r:GX}(h:Fl S r)(h1:S'[r]?=S[r]?)(k:Kp r S S'):Fl S' r:=
 let ⟨q,ns,i,c,x,n,f⟩:=h; #[q,ns,i,c,x,n,by rw[h1]; exact f.at_r,k.get _ _ f.ne f.at_q,f.lt,f.i0,f.c0,f.x0,f.x1]
def Fl.lt {S:aa}{r:GX}(h:Fl S r):r < S.length:=let ⟨_,_,_,_,_,_,f⟩:=h; dk f.at_r
structure Ka (S S':aa):Prop where
 get:∀(j:GX) (o:O),S[j]?=ba o->S'[j]?=ba o
 len:S.length<=S'.length
def Ka.refl {S:aa}:Ka S S:=#[λ_ _ h=>h,G2 _]
def Ka.trans {S S' S'':aa}(a:Ka S S')(b:Ka S' S''):Ka S S'':=#[λj o h=>b.get j o (a.get j o h),Hz a.len b.len]
def Ka.push {S:aa}{o:O}:Ka S (S++[o]):=#[λj u h=>am h,by simp]
def Ka.late {t:GX}{S0 S:aa}{o:O}(a:Ka S0 S)(h:S0.length<=t):Ka S0 (S.set t o):=
 #[λj u e=>by have:=dk e; rw[bf ∅]; exact a.get j u e,by simpa using a.len]
def Ka.kp {S S':aa}(a:Ka S S')(r:GX):Kp r S S':=#[λj o _ h=>a.get j o h,a.len]
def Fl.ka {S S':aa}{r:GX}(h:Fl S r)(k:Ka S S'):Fl S' r:=h.keep (by obtain⟨q,ns,i,c,x,n,f⟩:=h; rw[k.get _ _ f.at_r,f.at_r]) (k.kp r)
def Fl.own {S:aa}{r t:GX}{o:O}(h:Fl S r)(ht:r < t):Fl (S.set t o) r:=by
 obtain⟨q,ns,i,c,x,n,f⟩:=h;have:=f.lt;exact#[q,ns,i,c,x,n,by rw[bf ∅]; exact f.at_r,by rw[bf ∅]; exact f.at_q,f.lt,f.i0,f.c0,f.x0,f.x1]
def dC {S:aa}{r:GX}{xs:GK W}{i:GX}{w:W}{Q:QW}(h:S[r]?=ba (.lst xs))(hw:xs[i]?=ba w)(q:Q (w,S)):wO (mj (.ref r) (.int (i:G7)) S) Q:=ab (vx h (Ho i) (by rw[Hf]; exact hw)) q
def km {S:aa}{r:GX}{xs:GK W}{i:GX}{w:W}{Q:aa->Prop}(h:S[r]?=ba (.lst xs))(hi:PL (i+1) xs.length=true)(q:Q (S.set r (.lst (xs.set i w)))):wO (gk (.ref r) (.int (i:G7)) w S) Q:=ab (Aa h (Ho i) (by rw[Hf]; exact KG hi)) (by rw[Hf]; exact q)
section
variable{defs:GK (Ha×Df)}{fuel d:GX}{S:aa}{r:GX}{Q:QW}
def aP (hd:Is defs ("_law_pick" : Ha) 2 4 bT){m:G7}(hf:Fl S r)(h0:0 < m)(h1:m < 1073741824)(k:∀v S',0<=v->v < m->Fl S' r->Kp r S S'->Q (.int v,S')) :
  wO (aL (aj defs fuel (d+1)) "_law_pick" 2 [.ref r,.int m] S) Q:=by
 obtain⟨q,ns,i,c,x,n,f⟩:=hf;show ak hd rfl rfl λQ' hR=>?_
 replace k:∀v S',0<=v->v < m->Fl S' r->Kp r S S'->Q' (.rt (.int v),S'):=λv S' a b c e=>hR _ _ (k v S' a b c e)
 clear hR;change wZ _ _ bT [ba (.ref r),ba (.int m),gV,gV] S Q';have bB:∀(S1:aa) (w2:GR W) (i1 c1 x1 n1:G7),FlA S1 r q ns i1 c1 x1 n1->Kp r S S1->wZ (aj defs fuel d) fuel (match bT with|.cons _ ss=>ss|.nil=>.nil) [ba (.ref r),ba (.int m),w2,gV] S1 Q':=by
  intro S1 w2 i1 c1 x1 n1 f1 k1;dsimp only[bT];show st ?_;dsimp only[wS,wT,wE,wV,wG];show dC (i:=2) f1.at_r rfl ?_;dsimp only[Ea,wO,wB];show au (Q0:=Q') (λhg Q2 hn hr=>?_) (λhg Q2 hn hr=>?_)
  ·clear hn;show st ?_;dsimp only[wS,wE,wV,wG];show dC (i:=2) f1.at_r rfl (ab (gx h0) ?_);show st ?_;dsimp only[wS,wE,wV,wG,G9];show dC (i:=2) f1.at_r rfl (ab (eQ h0 h1) (km (i:=2) f1.at_r rfl ?_));show st ?_;dsimp only[wS,wE,wV,wG,G9];exact hr _ _ (k _ _ (Js _ ∅) (IR _ h0) #[q,ns,i1,c1 / m,x1,n1,f1.put f1.i0 (NY f1.c0 ∅) f1.x0 f1.x1] (k1.trans .set))
  ·show bX (hn _ _ ?_);clear hn hr;have f2:FlA (S1.set r (.lst [.ref q,.int i1,.int c1,.int x1,.int (n1+1)])) r q ns i1 c1 x1 (n1+1):=f1.put f1.i0 f1.c0 f1.x0 f1.x1;show st ?_;dsimp only[wS,wE,wV,wG];show dC (i:=4) f1.at_r rfl ?_;dsimp only[cp,wO];show km (i:=4) f1.at_r rfl ?_;show st ?_;dsimp only[wS,wE,wV,wG,G9];show dC (i:=3) f2.at_r rfl (ab (nE #v[] #v[]) ?_)
   dsimp only[cp,wO];show dC (i:=4) f2.at_r rfl ?_;dsimp only[cp,wO];show(km (i:=3) f2.at_r rfl ?_);have f3:FlA ((S1.set r (.lst [.ref q,.int i1,.int c1,.int x1,.int (n1+1)])).set r (.lst [.ref q,.int i1,.int c1,.int ((x1*48271+12820163+(n1+1)) % 2147483647),.int (n1+1)])) r q ns i1 c1 ((x1*48271+12820163+(n1+1)) % 2147483647) (n1+1):=f2.put f1.i0 f1.c0 (Js _ #v[]) (IR _ #v[])
   dsimp only[G9];generalize(x1*48271+12820163+(n1+1)) % 2147483647=y at f3 ⊢;have b1:y / 65521+7919 < 2 ^ 64:=by
    have:=f3.x1;have:=Int.ediv_le_self 65521 f3.x0;omega
   have b2 : -(2 ^ 64) < y / 65521+7919:=by
    have:=NY f3.x0 (show(0:G7)<=65521 by decide)
    omega
   show st ?_;dsimp only[wS,wE,wV,wG,G9];show dC (i:=3) f3.at_r rfl (ab (gx #v[]) ?_)
   dsimp only[cp,wO];show dC (i:=3) f3.at_r rfl ?_;dsimp only[cp,wO];show ab (nE b2 b1) ?_;show ab (gx h0) ?_;exact k _ _ (Js _ ∅) (IR _ h0) #[q,ns,_,_,_,_,f3] (k1.trans (Kp.set.trans .set))
 dsimp only[bT]at bB ⊢;show st ?_;dsimp only[wS,wT,wE,wV,wG,wA];show dC (i:=2) f.at_r rfl ?_;dsimp only[eg,wO,wB];have skip:∀Q2:QO,(∀Z' S',wZ (aj defs fuel d) fuel _ Z' S' Q'->Q2 (.nx Z',S'))->Q2 (.nx [ba (.ref r),ba (.int m),gV,gV],S):=λQ2 hn=>hn _ _ (bB S gV i c x n f .refl)
 show#[λ_=>?_,λ_ Q2 hn hr=>#[λz=>(by cases z),λ_=>(bX (skip Q2 hn)).out]]
 show dC (i:=1) f.at_r rfl (dC (i:=0) f.at_r rfl (ab (Ab f.at_q) ?_));dsimp only[BZ,wO,wB];show au (Q0:=Q') (λhl Q2 hn _=>?_) (λhg Q2 hn hr=>bX (skip Q2 hn))
 clear skip;have hl':i.toNat < ns.length:=by
  have:=HF hl;rw[GU]at this;have:=f.i0;omega
 have hcell:(ns.map W.int)[i.toNat]?=ba (.int ns[i.toNat]):=by simp[hl']
 generalize ns[i.toNat]=cell at hcell;have f1:FlA (S.set r (.lst [.ref q,.int (i+1),.int c,.int x,.int n])) r q ns (i+1) c x n:=f.put (by have:=f.i0; omega) f.c0 f.x0 f.x1
 show st ?_;dsimp only[wS,wE,wV,wG];show dC (i:=0) f.at_r rfl (dC (i:=1) f.at_r rfl (ab (vx f.at_q f.i0 hcell) ?_));show st ?_;dsimp only[wS,wE,wV,wG,G9];show dC (i:=1) f.at_r rfl ?_;dsimp only[cp,wO];show km (i:=1) f.at_r rfl ?_;show st ?_;dsimp only[wS,wT,wE,wV,wG,BX,FU,wO,wB];show au (Q0:=Q') (λhg Q3 hn3 _=>?_) (λhg Q3 hn3 _=>?_)
 ·show st ?_;dsimp only[wS,wE,wV,wG];show km (i:=2) f1.at_r rfl (bX (hn3 _ _ (bX (hn _ _ ?_))));exact bB _ _ (i+1) cell x n (f1.put f1.i0 (by have:=HF hg; omega) f.x0 f.x1) (Kp.set.trans .set)
 ·show st ?_;dsimp only[wS,wE,wV,wG];show dC (i:=3) f1.at_r rfl (ab (nE #v[] #v[]) (ab (gx #v[]) ?_))
  dsimp only[cp,wO];show km (i:=3) f1.at_r rfl (bX (hn3 _ _ (bX (hn _ _ ?_))));exact bB _ _ (i+1) c _ n (f1.put f1.i0 f.c0 (Js _ #v[]) (IR _ #v[])) (Kp.set.trans .set)
end
abbrev dr:GX->Ss->Ss
 | 0,ss=>ss
 | n+1,.cons _ ss=>dr n ss
 | _,.nil=>.nil
def ay {α:Type}{a:α}{Q:α->Prop}:wO (ba a) Q=Q a:=rfl
def aG {M:Ha->FF}{fuel:GX}{Z:Fm}{S:aa}{Q:QO}{s:Sm}{ss:Ss}(h:∀K:Fm->aa->Prop,(∀Z' S',wZ M fuel ss Z' S' Q->K Z' S')->wS M fuel s Z S K Q):wZ M fuel (.cons s ss) Z S Q:=st (h _ λ_ _ h=>h)
def Ej {M:Ha->FF}{fuel:GX}{Z:Fm}{S:aa}{i:GX}{e:E}{K:Fm->aa->Prop}{Q:QO}(h:wE M e Z S λp=>K (Z.set i (ba p.1)) p.2):wS M fuel (.set i e) Z S K Q:=h
def du {n:GX}(h:PL n 1000=true):n<=sizeLine:=Hz (KG h) (by rw[HV]; decide)
def few {n:GX}(h:n<=1000):n<=sizeLine:=Hz h (by rw[HV]; decide)
def jp {S:aa}{r:GX}{xs:GK W}{i:G7}{w:W}{Q:QW}(h:S[r]?=ba (.lst xs))(h0:0<=i)(hw:xs[i.toNat]?=ba w)(q:Q (w,S)):wO (mj (.ref r) (.int i) S) Q:=ab (vx h h0 hw) q
def ah {S:aa}{xs:GK W}{i:G7}{w:W}{Q:QW}(h0:0<=i)(hw:xs[i.toNat]?=ba w)(q:Q (w,S)):wO (mj (.tup xs) (.int i) S) Q:=ab (Ec h0 hw) q
def nG {S:aa}{r:GX}{xs:GK W}{y:W}{Q:QW}(h:S[r]?=ba (.lst xs))(hl:xs.length < 1000)(q:Q (.non,S.set r (.lst (xs++[y])))):wO (Me.append.fn (.ref r) [y] S) Q:=ab (qM h (Ht hl (du rfl))) q
def nH {S:aa}{r:GX}{xs:GK W}{Q:QW}(h:S[r]?=ba (.lst xs))(q:Q (.int xs.length,S)):wO (Bi.len.fn [.ref r] S) Q:=ab (Ab h) q
def bp {S:aa}{xs:GK W}{Q:QW}(q:Q (.int xs.length,S)):wO (Bi.len.fn [.tup xs] S) Q:=q
def eS {S:aa}{r:GX}{xs:GK W}{Q:QW}(h:S[r]?=ba (.lst xs))(q:Q (.tup xs,S)):wO (Bi.tuple.fn [.ref r] S) Q:=ab (Ed h) q
section
variable{M:Ha->FF}{fuel:GX}{Z:Fm}{S S1:aa}{K:Fm->aa->Prop}
def cq {t:E}{a:Ss}{Q:QO}(ht:∀Q:QB,Q (false,S1)->wT M t Z S Q)(h:K Z S1):wS M fuel (.ite t a .nil) Z S K Q:=by
 dsimp only[wS];exact ht _ λQ' h1 h2=>#[λz=>(by cases z),λ_=>(bX (h1 _ _ h)).out]
def jq {t:E}{a b:Ss}{Q:QO}(ht:∀Q:QB,Q (true,S1)->wT M t Z S Q)(h:∀Q':QO,(∀Z' S',K Z' S'->Q' (.nx Z',S'))->(∀w S',Q (.rt w,S')->Q' (.rt w,S'))->wZ M fuel a Z S1 Q'):wS M fuel (.ite t a b) Z S K Q:=by
 dsimp only[wS];exact ht _ λQ' h1 h2=>#[λ_=>(h Q' h1 λw S' q=>h2 (.rt w) S' (λ_ z=>nomatch z) q).out,λz=>(by cases z)]
end
def vB:∀k:Fin 26,("abcdefghijklmnopqrstuvwxyz" : Ha).cps.toList[k.val]?=ba (97+k.val):=by decide
def qP:("abcdefghijklmnopqrstuvwxyz" : Ha).length<=sizeLine:=by decide
def jr:∀cs:GK GX,gS (cs.map λc=>W.str #[[c].toArray])=ba (cs.map λc=>(#[[c].toArray] : Ha))
 | []=>rfl
 | c::cs=>by simp[gS,jr cs]
def kn:∀cs:GK GX,((cs.map λc=>(#[[c].toArray] : Ha)).map (·.length)).sum=cs.length
 | []=>rfl
 | c::cs=>by
  have:=kn cs;simp only[HX,List.sum_cons,HH];rw[this];change 1+cs.length=_;omega
def ev (a b:Ha):(a++b).cps.toList=a.cps.toList++b.cps.toList:=Array.toList_append
def js:∀cs:GK GX,(PC "" (cs.map λc=>(#[[c].toArray] : Ha))).cps.toList=cs
 | []=>rfl
 | [c]=>rfl
 | c::d::cs=>by
  have ih:=js (d::cs);show(((#[[c].toArray] : Ha)++("" : Ha)++PC "" ((d::cs).map λc=>(#[[c].toArray] : Ha))).cps).toList=_
  rw[ev,ev,ih];rfl
def nI (cs:GK GX):(OW "" (cs.map λc=>(#[[c].toArray] : Ha))).cps.toList=cs:=by
 show(Pl "" _).cps.toList=_;rw[StrLaws.glued_eq_join];exact js cs
abbrev qQ (y:Ha):Prop:=∀c∈y.cps.toList,97<=c/\c<=122
abbrev Name (y:Ha):Prop:=1<=y.cps.toList.length/\y.cps.toList.length<=8/\qQ y
def lT (y:Ha):y.length=y.cps.toList.length:=by simp[Pa]
abbrev vC:GK Ha:=["markss","mark","way","wayss","bars","ba","somex","eachx","note","no","ands","ors","o","iss"]
def su:∀y∈vC,Name y:=by
 have h:vC.all (λy=>decide (1<=y.cps.toList.length/\y.cps.toList.length<=8)&&y.cps.toList.all λc=>decide (97<=c/\c<=122))=true:=by decide
 intro y hy;have:=Hq.mp h y hy;rw[GV]at this;obtain⟨a,b⟩:=this;exact#[(HF a).1,(HF a).2,λc hc=>HF (Hq.mp b c hc)]
def jt {α:Type}{f:α->W}{xs:GK α}{i:GX}(h:i < xs.length):∃x∈xs,(xs.map f)[i]?=ba (f x):=#[xs[i],HP _,by rw[G1,G5 h]; rfl]
section
variable{defs:GK (Ha×Df)}{fuel d:GX}{S:aa}{r:GX}{Q:QW}
def ii (G:Gen defs){m:G7}(hf:Fl S r)(h0:0<=m)(h1:m<=1000)(k:∀y S',y.cps.toList.length=m.toNat->qQ y->Fl S' r->Kp r S S'->Q (.str y,S')) :
  wO (aL (aj defs fuel (d+2)) "_law_letters" 2 [.ref r,.int m] S) Q:=by
 show ak G.letters rfl rfl λQ' hR=>?_
 change wZ _ _ cy [ba (.ref r),ba (.int m)] S Q';dsimp only[cy];show st ?_;dsimp only[wS,wE,wA];show#[rfl,cU m (λi ys Z S'=>(∃a,Z=[gV,a,ba (.ref r)])/\Fl S' r/\Kp r S S'/\∃cs:GK GX,ys=cs.map (λc=>W.str #[[c].toArray])/\cs.length=i/\∀c∈cs,97<=c/\c<=122) rfl rfl rfl #[∅,∅] #[rfl,#[gV,rfl],hf,.refl,[],rfl,rfl,λ_ h=>nomatch h] ?_ ?_]
 ·rintro i ys Z S1 hi ⟨⟨a,rfl⟩,f1,k1,cs,rfl,hl,hc⟩;dsimp only[iF,wC,wE,wA,wV,wG,G9];show#[λ_=>aP (d:=d) G.pick f1 #v[] #v[] λv S2 h2 h3 f2 k2=>?_,λz=>by cases z]
  have ha:=vB #[v.toNat,∅]
  show ab (z9 qP h2 ha) #[#[_,rfl],f2,k1.trans k2,cs++[97+v.toNat],by simp,by simp[hl],λc hx=>?_]
  rcases HU.mp hx with h|h
  ·exact hc c h
  ·rw[Hc.mp h]; omega
 ·rintro ys Z S1 ⟨_,f1,k1,cs,rfl,hl,hc⟩;show#[by rw[GU,hl,HV]; omega,?_]
  have hz:((cs.map λc=>(#[[c].toArray] : Ha)).map (·.length)).sum+(cs.map λc=>(#[[c].toArray] : Ha)).length*("" : Ha).length<=16777216:=by
   rw[kn,show("" : Ha).length=0 from rfl,Nat.mul_zero]
   omega
  show ab (a:=(.str (OW "" (cs.map λc=>(#[[c].toArray] : Ha))),S1++[.lst (cs.map λc=>W.str #[[c].toArray])])) ?_ (hR _ _ (k _ _ (by rw[nI,hl]) (λc h=>hc c (by rw[nI]at h; exact h)) (f1.ka .push) (k1.trans .push)))
  simp only[Me.fn,qb,dE,ap ag,jr];rw[Hk hz]
def B1 (G:Gen defs){y:Ha}(hf:Fl S r)(h0:y.cps.toList.length<=6)(h1:qQ y)(k:∀z S',Name z->Fl S' r->Kp r S S'->Q (.str z,S')) :
  wO (aL (aj defs fuel (d+3)) "_law_name" 2 [.ref r,.str y] S) Q:=by
 show ak G.name rfl rfl λQ' hR=>?_
 replace k:∀z S',Name z->Fl S' r->Kp r S S'->Q' (.rt (.str z),S'):=λz S' a b c=>hR _ _ (k z S' a b c)
 clear hR;change wZ _ _ en [ba (.ref r),ba (.str y),gV] S Q';dsimp only[en];nofun
 dsimp only[wS,wT,wE,wV,wG,Eb,wO,wB];show au (Q0:=Q') (λ_ Q2 _ hr=>?_) (λ_ Q2 hn _=>?_)
 ·show st ?_;left;show aP (d:=d+1) G.pick hf #v[] #v[] λv S1 v0 v1 f1 k1=>?_
  dsimp only[cp,wO];show ii (d:=d) G f1 ∅ ∅ λz S2 hz hs f2 k2=>?_
  have hl:(y++z).cps.toList.length=y.cps.toList.length+z.cps.toList.length:=by rw[ev,G3]
  show ab (BY (by rw[lT,lT,HV]; omega)) (hr _ _ (k _ _ #[∅,∅,λc hc=>?_] f2 (k1.trans k2)))
  rw[ev]at hc;exact(HU.mp hc).elim (h1 c) (hs c)
 ·show bX (hn _ _ (hK _ _ ?_));clear hn hK;nofun
  dsimp only[wS,wT,wE,wA,wV,wG];show aP (d:=d+1) G.pick hf #v[] #v[] λv S1 v0 v1 f1 k1=>?_
  dsimp only[eg,wO,wB];show au (Q0:=Q') (λ_ Q2 _ hr=>?_) (λ_ Q2 hn _=>?_)
  ·show st ?_;left;show st ?_;left;show ab (pB (i:=S1.length) (j:=(S1++[_]).length) (am ag) ag (du rfl)) ?_;dsimp only;show st ?_;left;show aP (d:=d+1) G.pick (((f1.ka .push).ka .push).ka .push) #v[] #v[] λv S2 v0 v1 f2 k2=>?_
   have e:=k2.get _ _ (by have:=f1.lt; simp only[G3]; omega) ag
   obtain⟨z,hz,ez⟩:=jt (f:=W.str) (xs:=vC) (i:=v.toNat) (by change v.toNat < 14; omega)
   exact jp e v0 ez (hr _ _ (k _ _ (su z hz) f2 (k1.trans (Kp.push.trans (Kp.push.trans (Kp.push.trans k2))))))
  ·show bX (hn _ _ (hK _ _ ?_));clear hn hK;show st ?_;left;show aP (d:=d+1) G.pick f1 #v[] #v[] λv S2 v0 v1 f2 k2=>?_
   dsimp only[cp,wO];exact ii (d:=d) G f2 ∅ ∅ λz S3 hz hs f3 k3=>k _ _ #[∅,∅,hs] f3 (k1.trans (k2.trans k3))
end
def fS {α:Type}[J6 α]:∀(l m:GK α),l.Nodup->(∀x∈l,x∈m)->l.length<=m.length
 | [],_,_,_=>Jj _
 | x::l,m,hn,hs=>by
  rw[JH]at hn;have hx:x∈m:=hs x (.head _);have h1:=fS l (m.erase x) hn.2 λy hy=>(List.mem_erase_of_ne (λ(e:y=x)=>hn.1 (by rw[<- e]; exact hy))).mpr (hs y (.tail _ hy))
  rw[List.length_erase_of_mem hx]at h1;have:=List.length_pos_of_mem hx;rw[HH]; omega
abbrev jI (k:GX):Ha:=#[[97+k].toArray]
def vD {a b:GX}(h:jI a=jI b):a=b:=by
 unfold jI at h;injection h with h
 injection h with h
 injection h with h
 omega
def nJ (s:GX):((HJ s).map jI).Nodup:=by
 unfold Oi;rw[Jo];exact List.nodup_range.imp λh e=>h (vD e)
def sv {k:GX}(h:k < 26):Name (jI k):=#[G2 1,(by decide:1<=8),λc hc=>by
 cases Hc.mp (show c∈[97+k]from hc)
 omega]
abbrev dU:GK Ha:=["marks","ways","bar","some","each","not","and","or","is"]
def nK (zs:GK Ha):(zs.map W.str).all bH=true:=by
 rw[Hq];intro x hx;obtain⟨z,_,rfl⟩:=Hl.mp hx;rfl
def qR (zs:GK Ha)(y:Ha):((zs.map W.str).any λz=>wX z (.str y))=decide (y∈zs):=by
 induction zs with
 | nil=>rfl
 | cons z zs ih=>
  rw[HX,Jx,ih];show((z==y)||_)=_
  by_cases h:z=y
  ·subst h; simp
  ·have:(z==y)=false:=by simpa using h
   rw[this,Lu];have h2:(y∈z::zs)=(y∈zs):=by simp[Ne.symm h]
   simp only[h2]
def sw {S:aa}{t:GX}{zs:GK Ha}{y:Ha}(h:S[t]?=ba (.lst (zs.map W.str))):bS .isin (.str y) (.ref t) S=ba (.bl (decide (y∈zs)),S):=by
 (dsimp only[bS,ue,cg,oE,wY,dE]; simp only[lP h,ap h])
 rw[Hk (by rw[nK]; rfl),qR]
 rfl
def B2 {S:aa}{k:GX}:eI .mul (.str #[[k].toArray]) (.int 1) S=ba (.str #[[k].toArray],S):=by
 dsimp only[eI,tP];rw[Hk #[#v[],#v[],by change 1*1<=sizeLine; rw[HV]; decide]]
 rfl
def ju {xs:GK W}{k:GX}:fZ xs gV (ba (k:G7))=xs.take k:=by
 unfold fZ;rw[HT.iX,HT.pU,Oj,ON]
 by_cases h:k<=xs.length
 ·rw[NZ h]
 ·rw[NK ∅,JZ (G2 _),JZ ∅]
def nL {xs:GK W}{k:GX}:fZ xs (ba (k:G7)) gV=xs.drop k:=by
 unfold fZ;rw[HT.iX,HT.pU]
 by_cases h:k<=xs.length
 ·rw[NZ h,JZ (by rw[Kb]; exact G2 _)]
 ·rw[NK ∅,LS (G2 _),LS ∅]; exact List.take_nil
section
variable{defs:GK (Ha×Df)}{fuel d:GX}{S:aa}{r:GX}{Q:QW}
def y9 {M:Ha->FF}{m z w:W}{t:GX}{y:Ha}{zs:GK Ha}{K:Fm->aa->Prop}{Q:QO}(hfu:20 < fuel)(hy:Name y)(e:S[t]?=ba (.lst (zs.map W.str)))(hl:zs.length<=15)
  (k:∀y s,Name y->y∉zs->K [ba (.ref r),ba m,ba z,ba (.ref t),ba w,ba (.str y),ba s] S) :
  wS M fuel (.whl (.cmp .isin (.v 5) (.v 3)) #v[.set 5 (.op .mul (.ix (.c (.str "abcdefghijklmnopqrstuvwxyz")) (.op .mod (.v 6) (.c (.int 26)))) (.op .add (.c (.int 1)) (.op .fdiv (.v 6) (.c (.int 26))))),.set 6 (.op .add (.v 6) (.c (.int 1)))])
   [ba (.ref r),ba m,ba z,ba (.ref t),ba w,ba (.str y),ba (.int 0)] S K Q:=by
 dsimp only[wS];show Ae (λmm Z S'=>∃(s:GX) (y:Ha),Z=[ba (.ref r),ba m,ba z,ba (.ref t),ba w,ba (.str y),ba (.int s)]/\S'=S/\mm+s=18/\s<=16/\Name y/\(0 < s->y=jI (s - 1))/\∀k,k+1 < s->jI k∈zs) 18 rfl rfl ∅ #[0,y,rfl,rfl,rfl,∅,hy,λh=>absurd h ∅,λk h=>absurd h ∅] ?_
 rintro mm Z S' ⟨s,y',rfl,rfl,hm,hs,hy',hc1,hc2⟩;dsimp only[wT,wE,wV,wG];show ab (sw e) #[λhin=>?_,λhout=>k _ _ hy' (Iy hout)]
 have all:∀k,k < s->jI k∈zs:=λk hk=>by
  by_cases h:k+1 < s
  ·exact hc2 k h
  ·have e:k=s - 1:=∅
   rw[e,<- hc1 ∅]; exact HF hin
 have hs15:s<=15:=by
  have h7:=fS ((HJ s).map jI) zs (nJ s) λx hx=>by
   obtain⟨k,hk,rfl⟩:=Hl.mp hx;exact all k (HZ.mp hk)
  rw[GU,Iu]at h7;omega
 show#[mm - 1,∅,λQ2 hn _=>?_]
 have em:((s:G7) % 26)=s:=Int.emod_eq_of_lt ∅ ∅
 have ed:((s:G7) / 26)=0:=Int.ediv_eq_zero_of_lt ∅ ∅
 show st ?_;dsimp only[wS,wE,wV,wG,G9];show ab (gx #v[]) ?_
 rw[em];show ab (z9 (i:=(s:G7)) qP (Ho s) (vB #[s,∅])) ?_
 have e2:eI .fdiv (.int s) (.int 26) S'=ba (.int 0,S'):=by rw[eQ ∅ ∅,ed]
 dsimp only;rw[e2];dsimp only[cp,ay];rw[show(1:G7)+0=1 from rfl]
 show ab B2 ?_;show st ?_;dsimp only[wS,wE,wV,wG,G9,cp,ay];exact bX (hn _ _ #[s+1,jI s,rfl,rfl,∅,∅,sv ∅,λ_=>rfl,λk hk=>all k ∅])
def zd (hfu:20 < fuel)(G:Gen defs){m:GX}(hf:Fl S r)(h1:m<=6)(k:∀(ys:GK Ha) S',ys.length=m->(∀y∈ys,Name y)->(dU++ys).Nodup->Fl S' r->Kp r S S'->Q (.tup (ys.map W.str),S')) :
  wO (aL (aj defs fuel (d+4)) "_law_names" 2 [.ref r,.int m] S) Q:=by
 show ak G.names rfl rfl λQ' hR=>?_
 replace k:∀(ys:GK Ha) S',ys.length=m->(∀y∈ys,Name y)->(dU++ys).Nodup->Fl S' r->Kp r S S'->Q' (.rt (.tup (ys.map W.str)),S'):=λz S' a b c e f=>hR _ _ (k z S' a b c e f)
 clear hR;change wZ _ _ bV [ba (.ref r),ba (.int m),gV,gV,gV,gV,gV] S Q';have bB:∀(z:Ha) (S2:aa),z.cps.toList.length<=6->qQ z->Fl S2 r->Kp r S S2->wZ (aj defs fuel (d+3)) fuel (dr 2 bV) [ba (.ref r),ba (.int m),ba (.str z),gV,gV,gV,gV] S2 Q':=by
  intro z S2 hz1 hz2 f2 k2;dsimp only[dr,bV];have hrt:=f2.lt;have hSt:=k2.len;show st ?_;left;nofun
  show gB (m:G7) (λi Z S'=>∃a4 a5 a6 ys,Z=[ba (.ref r),ba (.int m),ba (.str z),ba (.ref S2.length),a4,a5,a6]/\S'[S2.length]?=ba (.lst ((dU++ys).map W.str))/\ys.length=i/\(∀y∈ys,Name y)/\(dU++ys).Nodup/\Fl S' r/\Kp r S S') rfl rfl ∅ ?_ ?_ ?_
  ·dsimp only[wE,wV,wG];exact#[rfl,gV,gV,gV,[],rfl,ag,rfl,λ_ h=>(nomatch h),#v[],f2.ka .push,k2.trans .push]
  ·rintro i Z S3 hi ⟨a4,a5,a6,ys,rfl,e3,hy1,hy2,hy3,f3,k3⟩ Q2 hn _;clear hK;show st ?_;left;show B1 (d:=d) G f3 hz1 hz2 λy S4 hy f4 k4=>?_
   have e4:=k4.get _ _ ∅ e3
   show st ?_;left;show st (y9 hfu hy e4 (by rw[G3,hy1]; show 9+i<=15; omega) λy' s hy' hnot=>?_)
   show st ?_;left;show#[ei e4,nG e4 (by rw[GU,G3,hy1]; show 9+i < 1000; omega) ?_]
   show bX (hn _ _ #[_,_,_,ys++[y'],rfl,?_,by rw[G3,hy1]; rfl,λx hx=>?_,?_,f4.own hrt,(k3.trans k4).late hSt])
   ·rw[bJ e4,<- Jl,HK (l₁:=dU++ys)]; rfl
   ·rcases HU.mp hx with h|h
    ·exact hy2 x h
    ·rw[Hc.mp h]; exact hy'
   ·rw[<- Jl,Jn];show#[hy3,by simp,λa ha b hb e=>?_]
    rw[Hc.mp hb]at e;exact hnot (e ▸ ha)
  ·rintro Z S3 ⟨a4,a5,a6,ys,rfl,e3,hy1,hy2,hy3,f3,k3⟩;show hK _ _ (st ?_);dsimp only[wS,wE,wA,wV,wG,wP,wN];have hs:oF (.ref S2.length) (ba 9) gV S3=ba (.ref S3.length,S3++[.lst (ys.map W.str)]):=by
    have:fZ ((dU++ys).map W.str) (ba ((9:GX):G7)) gV=ys.map W.str:=by
     rw[nL,HK];exact N1 rfl
    simp only[oF,ap e3];rw[show(ba 9:GR G7)=ba ((9:GX):G7)from rfl,this]
   show ab hs (eS ag (k _ _ ?_ hy2 hy3 (f3.ka .push) (k3.trans .push)));rw[hy1]; exact Hf m
 dsimp only[bV];show st ?_;dsimp only[wS,wE,G9];nofun
 dsimp only[wS,wT,wE,wA,wV,wG];show aP (d:=d+2) G.pick hf #v[] #v[] λv S1 v0 v1 f1 k1=>?_
 dsimp only[eg,wO,wB];show au (Q0:=Q') (λ_ Q2 hn _=>?_) (λ_ Q2 hn _=>?_)
 ·show st ?_;left;show aP (d:=d+2) G.pick f1 #v[] #v[] λv S2 v0 v1 f2 k2=>?_
  dsimp only[cp,wO];exact ii (d:=d+1) G f2 ∅ ∅ λz S3 hz hs f3 k3=>bX (hn _ _ (hK _ _ (bB z S3 ∅ hs f3 (k1.trans (k2.trans k3)))))
 ·exact bX (hn _ _ (hK _ _ (bB "" S1 #v[] (λc hc=>nomatch hc) f1 k1)))
end
noncomputable abbrev Pt:=G7×GK G7
noncomputable abbrev Wd:=GK Pt
abbrev b9 (p:Pt):W:=.tup [.int p.1,.tup (p.2.map W.int)]
abbrev aS (u:Wd):W:=.tup (u.map b9)
abbrev fA (p:Pt):T:=.tup [.int p.1,.tup (p.2.map T.int)]
abbrev bU (u:Wd):T:=.tup (u.map fA)
def qS:∀xs:GK G7,T.ws (xs.map T.int)=xs.map W.int
 | []=>rfl
 | x::xs=>by simp[T.ws,T.w,qS xs]
def Ek (p:Pt):(fA p).w=b9 p:=by simp[fA,b9,T.w,T.ws,qS]
def pG:∀u:Wd,T.ws (u.map fA)=u.map b9
 | []=>rfl
 | p::u=>by simp[T.ws,Ek,pG u]
def vE (u:Wd):(bU u).w=aS u:=by simp[bU,aS,T.w,pG]
def vF (u:Wd):W.t (aS u)=ba (bU u):=by rw[<- vE]; exact T.w_t _
def vG:∀us:GK Wd,T.ws (us.map bU)=us.map aS
 | []=>rfl
 | u::us=>by simp[T.ws,vE,vG us]
def Ah (us:GK Wd):W.ts (us.map aS)=ba (us.map bU):=by rw[<- vG]; exact T.ws_ts _
def jv:∀xs:GK G7,T.depths (xs.map T.int)=0
 | []=>rfl
 | x::xs=>by simp[T.depths,T.depth,jv xs]
def vH (p:Pt):(fA p).depth=2:=by simp[fA,T.depth,T.depths,jv]
def ik:∀u:Wd,T.depths (u.map fA)<=2
 | []=>by simp[T.depths]
 | p::u=>by
  have:=ik u;simp only[HX,T.depths,vH]; omega
def gC (u:Wd):(bU u).depth<=3:=by
 have:=ik u;simp only[bU,T.depth]; omega
def im:∀us:GK Wd,T.depths (us.map bU)<=3
 | []=>by simp[T.depths]
 | u::us=>by
  have:=im us;have:=gC u;simp only[HX,T.depths]; omega
def B3 (u:Wd):ft (aS u)=ba (bU u):=by
 unfold ft;rw[vF];show(if (bU u).isTup=true/\(bU u).depth<=aJ then _ else _)=_
 rw[Hk #[rfl,by have:=gC u; unfold aJ; omega]]
mutual
def nM:T->T->Hr
 | .int _,.int _=>true
 | .str _,.str _=>true
 | .tup xs,.tup ys=>gD xs ys
 | _,_=>false
def gD:GK T->GK T->Hr
 | [],_=>true
 | _,[]=>true
 | x::xs,y::ys=>nM x y&&gD xs ys
end
mutual
theorem pH:∀x y:T,nM x y=true->(d8 x y).isSome=true
 | .int _,.int _,_=>rfl
 | .str _,.str _,_=>rfl
 | .tup xs,.tup ys,h=>by
  dsimp only[nM]at h;dsimp only[d8];exact qT xs ys h
 | .int _,.str _,h|.int _,.tup _,h|.str _,.int _,h|.str _,.tup _,h|.tup _,.int _,h|.tup _,.str _,h=>by cases h
theorem qT:∀xs ys:GK T,gD xs ys=true->(ci xs ys).isSome=true
 | [],[],_=>rfl
 | [],_::_,_=>rfl
 | _::_,[],_=>rfl
 | x::xs,y::ys,h=>by
  dsimp only[gD]at h; simp only[GV]at h
  dsimp only[ci];split
  ·exact qT xs ys h.2
  ·exact pH x y h.1
end
def nN:∀xs ys:GK G7,gD (xs.map T.int) (ys.map T.int)=true
 | [],_=>rfl
 | _::_,[]=>rfl
 | x::xs,y::ys=>by dsimp only[PD,gD,nM]; simp[nN xs ys]
def vI (p q:Pt):nM (fA p) (fA q)=true:=by dsimp only[fA,nM,gD]; simp[nN]
def qU:∀u v:Wd,gD (u.map fA) (v.map fA)=true
 | [],_=>rfl
 | _::_,[]=>rfl
 | p::u,q::v=>by dsimp only[PD,gD]; simp[vI,qU u v]
def B4 (u v:Wd):nM (bU u) (bU v)=true:=by dsimp only[bU,nM]; exact qU _ _
def d0 (us:GK Wd):eE (us.map bU)=true:=by
 unfold eE;rw[Hq];intro x hx;obtain⟨u,_,rfl⟩:=Hl.mp hx;rw[Hq];intro y hy;obtain⟨v,_,rfl⟩:=Hl.mp hy;exact pH _ _ (B4 u v)
def B5 (us:GK Wd)(h:∀u∈us,u≠[]):(xZ (us.map bU)).isSome=true:=by
 unfold xZ;split
 ·rfl
 ·split
  ·rfl
  ·split
   ·rfl
   ·split
    ·rfl
    ·split
     ·rfl
     ·rename_i h5;exfalso;apply h5;rw[Hq];intro x hx;obtain⟨u,hu,rfl⟩:=Hl.mp hx;cases u with
      | nil=>exact absurd rfl (h [] hu)
      | cons p u=>rfl
abbrev cm (bs:GK G7)(u:Wd)(i j:GX):G7:=if j < i then((u.getD i (0,[])).2).getD j 0 else bs.getD (((u.getD j (0,[])).2).getD i 0).toNat 0
abbrev ar (bs:GK G7)(u:Wd)(ps:GK GX):Wd:=(HJ ps.length).map λk=>((u.getD (ps.getD k 0) (0,[])).1,(ps.take k).map λj=>cm bs u (ps.getD k 0) j)
abbrev aB:GK (GK GX):=[[0,1,2],[0,2,1],[1,0,2],[1,2,0],[2,0,1],[2,1,0]]
abbrev fT (bs:GK G7)(u:Wd):Wd:=(aB.map (ar bs u)).getD (gY ((aB.map (ar bs u)).map bU)) []
abbrev aH (n:Ha)(b:G7):W:=.tup [.str n,.int b]
structure GoodW (a n:GX)(u:Wd):Prop where
 mark:∀(k:GX) (p:Pt),u[k]?=ba p->0<=p.1/\p.1 < a
 len:∀(k:GX) (p:Pt),u[k]?=ba p->p.2.length=k
 way:∀(k:GX) (p:Pt),u[k]?=ba p->∀w∈p.2,0<=w/\w < n
abbrev GoodB (bs:GK G7):Prop:=bs=[0]\/bs=[0,1]\/bs=[1,0]\/bs=[0,1,2]\/bs=[1,0,2]\/bs=[0,2,1]
def GoodB.rng {bs:GK G7}(h:GoodB bs):∀k:GX,k < bs.length->∃b:G7,bs[k]?=ba b/\0<=b/\b < bs.length:=by
 rcases h with rfl|rfl|rfl|rfl|rfl|rfl <;> intro k hk
 ·match k,hk with
  | 0,_=>exact#[0,rfl,#v[],#v[]]
 ·match k,hk with
  | 0,_=>exact#[0,rfl,#v[],#v[]]
  | 1,_=>exact#[1,rfl,#v[],#v[]]
 ·match k,hk with
  | 0,_=>exact#[1,rfl,#v[],#v[]]
  | 1,_=>exact#[0,rfl,#v[],#v[]]
 ·match k,hk with
  | 0,_=>exact#[0,rfl,#v[],#v[]]
  | 1,_=>exact#[1,rfl,#v[],#v[]]
  | 2,_=>exact#[2,rfl,#v[],#v[]]
 ·match k,hk with
  | 0,_=>exact#[1,rfl,#v[],#v[]]
  | 1,_=>exact#[0,rfl,#v[],#v[]]
  | 2,_=>exact#[2,rfl,#v[],#v[]]
 ·match k,hk with
  | 0,_=>exact#[0,rfl,#v[],#v[]]
  | 1,_=>exact#[2,rfl,#v[],#v[]]
  | 2,_=>exact#[1,rfl,#v[],#v[]]
def getD_some {α:Type}{xs:GK α}{i:GX}{x d:α}(h:xs[i]?=ba x):xs.getD i d=x:=by simp[h]
def aA {α:Type}{xs:GK α}{i:GX}{d:α}(h:i < xs.length):xs[i]?=ba (xs.getD i d):=by simp[h]
def lU {ns:GK Ha}{bs:GK G7}{k:GX}{n:Ha}{b:G7}(h1:ns[k]?=ba n)(h2:bs[k]?=ba b):(Hd aH ns bs)[k]?=ba (aH n b):=by
 rw[KF,h1,h2]
abbrev aw (ps:GK GX):GK W:=ps.map λ(p:GX)=>W.int (p:G7)
def lV {ps:GK GX}{k p:GX}(h:ps[k]?=ba p):(aw ps)[k]?=ba (.int p):=by simp[aw,h]
def bo (bs:GK G7)(u:Wd)(ps:GK GX):(ar bs u ps).length=ps.length:=by unfold ar; rw[GU,Iu]
def ko {u:Wd}{i:GX}(hi:i < u.length):(u.map b9)[((i:GX):G7).toNat]?=ba (b9 (u.getD i (0,[]))):=by
 rw[Hf,G1,aA hi]; rfl
section
variable{defs:GK (Ha×Df)}{fuel d:GX}{S:aa}{r:GX}{Q:QW}
def vJ {M:Ha->FF}{m0 b0:W}{ns:GK Ha}{bs:GK G7}{a:GX}{u:Wd}{i j:GX}{Q:QO}(hb:GoodB bs)(hl:ns.length=bs.length)(hu:GoodW a bs.length u)(hi:i < u.length)(hj:j < u.length)(hij:i≠j)(k:Q (.rt (.int (cm bs u i j)),S)) :
  wZ M fuel cz [ba (.tup [m0,.tup (Hd aH ns bs),b0]),ba (aS u),ba (.int i),ba (.int j)] S Q:=by
 have hpi:=aA (d:=(0,[])) hi;have hpj:=aA (d:=(0,[])) hj;unfold cm at k;dsimp only[cz];nofun
 dsimp only[wS,wT,wE,wV,wG,BZ,wO,wB,aS];show au (Q0:=Q) (λh Q2 _ hr=>?_) (λh Q2 hn _=>?_)
 ·have hji:j < i:=by have:=HF h; omega
  rw[Hk hji]at k;have hw:j < (u.getD i (0,[])).2.length:=by rw[hu.len i _ hpi]; exact hji
  show st ?_;dsimp only[wS,wE,wV,wG];show ah (Ho i) (ko hi) (ah #v[] rfl (ah (Ho j) ?_ (hr _ _ k)))
  rw[Hf,G1,aA (d:=0) hw]; rfl
 ·have hji:¬ j < i:=by have:=Iy h; omega
  rw[Hu hji]at k;show bX (hn _ _ (hK _ _ ?_));clear hn hK;have hw:i < (u.getD j (0,[])).2.length:=by rw[hu.len j _ hpj]; omega
  have hg:=aA (d:=0) hw;obtain⟨g1,g2⟩:=hu.way j _ hpj _ (He hg);obtain⟨b,hb1,hb2,hb3⟩:=hb.rng ((u.getD j (0,[])).2.getD i 0).toNat ∅
  have hn:((u.getD j (0,[])).2.getD i 0).toNat < ns.length:=∅
  rw[getD_some hb1]at k;show st ?_;dsimp only[wS,wE,wV,wG];show ah #v[] rfl (ah (Ho j) (ko hj) (ah #v[] rfl (ah (Ho i) ?_ (ah g1 (lU (G5 hn) hb1) (ah #v[] rfl k)))))
  rw[Hf,G1,hg]; rfl
def sx (G:Gen defs){m0 b0:W}{ns:GK Ha}{bs:GK G7}{a:GX}{u:Wd}{i j:GX}(hb:GoodB bs)(hl:ns.length=bs.length)(hu:GoodW a bs.length u)(hi:i < u.length)(hj:j < u.length)(hij:i≠j)(k:Q (.int (cm bs u i j),S)) :
  wO (aL (aj defs fuel (d+1)) "_law_between" 4 [.tup [m0,.tup (Hd aH ns bs),b0],aS u,.int i,.int j] S) Q:=
 ak G.between rfl rfl λQ' hR=>vJ hb hl hu hi hj hij (hR _ _ k)
def B6 (G:Gen defs){m0 b0:W}{ns:GK Ha}{bs:GK G7}{a:GX}{u:Wd}{ps:GK GX}(hb:GoodB bs)(hl:ns.length=bs.length)(hu:GoodW a bs.length u)(hps:∀p∈ps,p < u.length)(hnd:ps.Nodup)(hsz:ps.length < 1000)(k:∀S',Ka S S'->Q (aS (ar bs u ps),S')) :
  wO (aL (aj defs fuel (d+2)) "_law_part" 3 [.tup [m0,.tup (Hd aH ns bs),b0],aS u,.tup (aw ps)] S) Q:=by
 show ak G.part rfl rfl λQ' hR=>?_
 replace k:∀S',Ka S S'->Q' (.rt (aS (ar bs u ps)),S'):=λS' a=>hR _ _ (k S' a)
 clear hR;change wZ _ _ eu [ba (.tup [m0,.tup (Hd aH ns bs),b0]),ba (aS u),ba (.tup (aw ps)),gV,gV,gV] S Q';generalize hR0:W.tup [m0,.tup (Hd aH ns bs),b0]=R;dsimp only[eu];show st ?_;dsimp only[wS,wE,wA,G9];nofun
 have nl:(aw ps).length=ps.length:=GU ..;show gB (ps.length:G7) (λk Z S'=>∃a4 a5,Z=[ba R,ba (aS u),ba (.tup (aw ps)),ba (.ref S.length),a4,a5]/\S'[S.length]?=ba (.lst (((ar bs u ps).take k).map b9))/\Ka S S') rfl rfl ∅ ?_ ?_ ?_
 ·dsimp only[wE,wA,wV,wG];show bp ?_;rw[nl];exact#[rfl,gV,gV,rfl,ag,.push]
 ·rintro i Z S1 hi ⟨a4,a5,rfl,e1,k1⟩ Q2 hn _;clear hK;have hi':i < ps.length:=∅
  have hp:ps[i]?=ba ps[i]:=G5 hi';have hpu:ps[i] < u.length:=hps _ (HP hi');show st ?_;dsimp only[wS,wE,wV,wG,G9];show ah (Ho i) (by rw[Hf]; exact lV hp) ?_
  show st ?_;left;show#[ei e1,ah (Ho _) (ko hpu) (ah #v[] rfl ?_)]
  show qN (aw (ps.take i)) (λj ys Z2 S2=>(∃a1,Z2=[gV,a1,ba (.int ps[i]),ba R,ba (aS u)])/\ys=((ps.take i).take j).map (λq=>W.int (cm bs u ps[i] q))/\Ka S1 S2) rfl rfl rfl ?_ ?_ ?_
  ·dsimp only[wE,wP,wV,wG,wN];show ab (a:=(.tup (aw (ps.take i)),S1)) ?_ #[rfl,#[gV,rfl],rfl,.refl];simp only[oF,ju];unfold aw;rw[Ly]
  ·rintro j w ys Z2 S2 hw ⟨⟨a1,rfl⟩,rfl,k2⟩;have hjl:j < (ps.take i).length:=by
    have:=(G8.mp hw).1;unfold aw at this
    rwa [GU]at this
   have hq:(ps.take i)[j]?=ba (ps.take i)[j]:=G5 hjl;cases(lV hq).symm.trans hw;have hj:j < i:=by rw[Im]at hjl; omega
   have eq:(ps.take i)[j]=ps[j]'∅:=Lq
   generalize(ps.take i)[j]=q at hq eq ⊢;show ab (show gO (.nm 1) (.int (q:G7)) [gV,a1,ba (.int ps[i]),ba R,ba (aS u)] S2=ba ([gV,ba (.int (q:G7)),ba (.int ps[i]),ba R,ba (aS u)],S2)from rfl) ?_
   dsimp only[iF,wC,wE,wA,wV,wG];subst hR0;show#[λ_=>sx (d:=d) G hb hl hu hpu (by rw[eq]; exact hps _ (HP _)) ?_ #[#[_,rfl],?_,k2],λz=>by cases z]
   ·rw[eq];intro h;have:=(JS hnd).mp h;omega
   ·rw[IL,hq];simp
  ·rintro ys Z2 S2 ⟨_,rfl,k2⟩;rw[show(aw (ps.take i)).length=(ps.take i).length from GU ..,Jd]
   show#[few (by rw[GU,Im]; omega),eS ag ?_]
   have e2:=am (u:=O.lst ((ps.take i).map λq=>W.int (cm bs u ps[i] q))) (k2.get _ _ e1)
   show nG e2 (by rw[GU,Im]; omega) (bX (hn _ _ #[_,_,rfl,?_,((k1.trans k2).trans .push).late (G2 _)]))
   rw[bJ e2];have ep:(ar bs u ps)[i]?=ba ((u.getD ps[i] (0,[])).1,(ps.take i).map λq=>cm bs u ps[i] q):=by
    unfold ar;rw[G1,Kk hi',HC,getD_some hp]
   rw[IL,ep];simp[b9,Np]
 ·rintro Z S1 ⟨a4,a5,rfl,e1,k1⟩;rw[Hf,<- bo bs u ps,Jd]at e1;show hK _ _ (st ?_);left;exact eS e1 (k _ k1)
def lW (G:Gen defs)(k:Q (.ref S.length,S++[.lst (aB.map λt=>W.tup (aw t))])):wO (aL (aj defs fuel (d+1)) "_law_turns" 0 [] S) Q:=by
 show ak G.turns rfl rfl λQ' hR=>?_
 dsimp only[eR];show st ?_;dsimp only[wS,wE,wA];exact hR _ _ k
def dv (bt:GX->GX->Hr):∀n:GX,argBest bt n<=n
 | 0=>G2 _
 | n+1=>by have:=dv bt n; simp only[argBest]; split <;> omega
def eT (G:Gen defs){m0 b0:W}{ns:GK Ha}{bs:GK G7}{a:GX}{u:Wd}(hb:GoodB bs)(hl:ns.length=bs.length)(hu:GoodW a bs.length u)(h3:u.length=3)(k:∀S',Ka S S'->Q (aS (fT bs u),S')) :
  wO (aL (aj defs fuel (d+3)) "_law_figure" 2 [.tup [m0,.tup (Hd aH ns bs),b0],aS u] S) Q:=by
 show ak G.figure rfl rfl λQ' hR=>?_
 replace k:∀S',Ka S S'->Q' (.rt (aS (fT bs u)),S'):=λS' a=>hR _ _ (k S' a)
 clear hR;change wZ _ _ cV [ba (.tup [m0,.tup (Hd aH ns bs),b0]),ba (aS u)] S Q';generalize hR0:W.tup [m0,.tup (Hd aH ns bs),b0]=R;dsimp only[cV];show st ?_;dsimp only[wS,wE,wA];show qO S.length (aB.map λt=>W.tup (aw t)) (λi ys Z2 S2=>(∃a1,Z2=[gV,a1,ba R,ba (aS u)])/\ys=((aB.take i).map λt=>aS (ar bs u t))/\Ka (S++[.lst (aB.map λt=>W.tup (aw t))]) S2) rfl rfl rfl ?_ ?_ ?_ ?_
 ·dsimp only[wE,wA];exact lW (d:=d+1) G #[rfl,#[gV,rfl],rfl,.refl]
 ·rintro i ys Z2 S2 ⟨_,_,k2⟩;exact k2.get _ _ ag
 ·rintro i w ys Z2 S2 hw ⟨⟨a1,rfl⟩,rfl,k2⟩;rw[G1,GP]at hw;obtain⟨t,ht,rfl⟩:=hw;have ht3:(∀p∈t,p < 3)/\t.Nodup/\t.length < 1000:=by
   have:∀t∈aB,(∀p∈t,p < 3)/\t.Nodup/\t.length < 1000:=by decide
   exact this t (He ht)
  show ab (show gO (.nm 1) (.tup (aw t)) [gV,a1,ba R,ba (aS u)] S2=ba ([gV,ba (.tup (aw t)),ba R,ba (aS u)],S2)from rfl) ?_
  dsimp only[iF,wC,wE,wA,wV,wG];subst hR0;show#[λ_=>B6 (d:=d) G hb hl hu (λp hp=>by rw[h3]; exact ht3.1 p hp) ht3.2.1 ht3.2.2 λS3 k3=>#[#[_,rfl],?_,k2.trans k3],λz=>by cases z]
  rw[IL,ht];simp
 ·rintro ys Z2 S2 ⟨_,rfl,k2⟩;have e:((aB.take (aB.map λt=>W.tup (aw t)).length).map λt=>aS (ar bs u t))=(aB.map (ar bs u)).map aS:=by
   rw[GU,Jd,Jg]; rfl
  rw[e];show#[du rfl,ab (a:=(aS (fT bs u),S2++[.lst ((aB.map (ar bs u)).map aS)])) ?_ (k _ ((Ka.push.trans k2).trans .push))]
  (dsimp only[Bi.fn,uu]; simp only[ap ag,Ah])
  rw[Hk #[by have:=im (aB.map (ar bs u)); unfold cQ; omega,d0 _]]
  unfold fT;have hlt:gY ((aB.map (ar bs u)).map bU) < (aB.map (ar bs u)).length:=Nat.lt_of_le_of_lt (dv _ _) (by decide:5 < 6)
  rw[G1,aA (d:=[]) hlt];rfl
end
abbrev af (xs:GK G7):GK W:=xs.map W.int
abbrev dw (us:GK Wd):GK Wd:=dB (jZ (us.map bU)) [] us
def nO {α β:Type}{lt:GX->GX->Hr}{d:α}{d':β}{f:α->β}{us:GK α}:dB lt d' (us.map f)=(dB lt d us).map f:=by
 unfold dB;rw[GU];split
 ·rfl
 ·rw[Jg];show IK λi hi=>?_
  have hl:i < us.length:=lA ∅ i hi
  simp[hl]
def pI {S:aa}{x:W}{us:GK Wd}(h:dg S x=ba (us.map aS))(h64:us.length < 64)(hne:∀u∈us,u≠[]):gm [x] S=ba (.ref S.length,S++[.lst ((dw us).map aS)]):=by
 have ok:lz (us.map bU)=true:=by
  unfold lz;simp only[GV,Jr,Hw,GU];exact#[#[h64,by have:=im us; unfold cQ; omega],.inr #[B5 us hne,d0 us]]
 simp only[gm,h,Ah];rw[Hk ok,nO (d:=[])];rfl
abbrev aQ (ms ns:GK Ha)(bs:GK G7)(us:GK Wd):W:=.tup [.tup (ms.map W.str),.tup (Hd aH ns bs),.tup (us.map aS)]
structure GoodN (ms ns:GK Ha):Prop where
 name:∀y∈ms++ns,Name y
 nd:(dU++(ms++ns)).Nodup
def GoodW.nil {a n:GX}:GoodW a n []:=#[λk p h=>(by simp at h),λk p h=>(by simp at h),λk p h=>(by simp at h)]
def GoodW.snoc {a n:GX}{u:Wd}{m:G7}{ws:GK G7}(h:GoodW a n u)(h1:0<=m/\m < a)(h2:ws.length=u.length)(h3:∀w∈ws,0<=w/\w < (n:G7)):GoodW a n (u++[(m,ws)]):=by
 have key:∀(k:GX) (p:Pt),(u++[(m,ws)])[k]?=ba p->u[k]?=ba p\/(k=u.length/\p=(m,ws)):=λk p e=>by
  rcases Nat.lt_or_ge k u.length with hk|hk
  ·rw[HL hk]at e; exact .inl e
  ·rw[JC hk]at e;have:k - u.length=0:=by
    have:=(G8.mp e).1;simp at this; omega
   rw[this]at e;cases e;exact .inr #[∅,rfl]
 show#[λk p e=>?_,λk p e=>?_,λk p e=>?_] <;> rcases key k p e with e|⟨rfl,rfl⟩
 ·exact h.mark k p e
 ·exact h1
 ·exact h.len k p e
 ·exact h2
 ·exact h.way k p e
 ·exact h3
def GoodB.inv {bs:GK G7}(h:GoodB bs):∀k:GX,k < bs.length->bs.getD (bs.getD k 0).toNat 0=k:=by
 rcases h with rfl|rfl|rfl|rfl|rfl|rfl <;> decide
def GoodB.at {bs:GK G7}(h:GoodB bs){x:G7}(h0:0<=x)(h1:x < bs.length):bs[x.toNat]?=ba (bs.getD x.toNat 0)/\0<=bs.getD x.toNat 0/\bs.getD x.toNat 0 < bs.length:=by
 obtain⟨b,h2,h3⟩:=h.rng x.toNat ∅
 rw[getD_some h2];exact#[h2,h3]
def vK {S:aa}{x:W}{us:GK Wd}{Q:QW}(h:dg S x=ba (us.map aS))(h64:us.length < 64)(hne:∀u∈us,u≠[])(q:Q (.ref S.length,S++[.lst ((dw us).map aS)])):wO (Bi.sorted.fn [x] S) Q:=by
 show ab ?_ q;exact pI h h64 hne
abbrev vL:GK (GX×GX):=[(1,1),(2,1),(3,1),(1,2),(1,2),(2,2),(2,2),(3,2),(1,3),(1,3),(2,3)]
def vM:∀p∈vL,1<=p.1/\p.1<=3/\1<=p.2/\p.2<=3/\p.1*p.2<=6:=by decide
abbrev jw:GX->GK (GK G7)
 | 1=>[[0]]
 | 2=>[[0,1],[1,0]]
 | _=>[[0,1,2],[1,0,2],[0,2,1]]
def vN:∀n:GX,1<=n->n<=3->(∀b∈jw n,GoodB b/\b.length=n)/\0 < (jw n).length/\(jw n).length<=3
 | 1,_,_=>#[λb h=>by cases Hc.mp h; exact#[.inl rfl,rfl],#v[],#v[]]
 | 2,_,_=>#[λb h=>by
   rcases Hj.mp h with rfl|h
   ·exact#[.inr (.inl rfl),rfl]
   ·cases Hc.mp h; exact#[.inr (.inr (.inl rfl)),rfl],#v[],#v[]]
 | 3,_,_=>#[λb h=>by
   rcases Hj.mp h with rfl|h
   ·exact#[.inr (.inr (.inr (.inl rfl))),rfl]
   ·rcases Hj.mp h with rfl|h
    ·exact#[.inr (.inr (.inr (.inr (.inl rfl)))),rfl]
    ·cases Hc.mp h; exact#[.inr (.inr (.inr (.inr (.inr rfl)))),rfl],#v[],#v[]]
 | 0,h,_=>absurd h #v[]
 | n+4,_,h=>absurd h ∅
section
variable{defs:GK (Ha×Df)}{fuel d:GX}{S:aa}{r:GX}{Q:QW}
def qV (G:Gen defs)(hf:Fl S r)(k:∀(a n:GX) S',1<=a->a<=3->1<=n->n<=3->a*n<=6->Fl S' r->Kp r S S'->Q (.tup [.int a,.int n],S')) :
  wO (aL (aj defs fuel (d+2)) "_law_sizes" 1 [.ref r] S) Q:=by
 show ak G.sizes rfl rfl λQ' hR=>?_
 change wZ _ _ dH [ba (.ref r),gV] S Q';dsimp only[dH];show st ?_;dsimp only[wS,wE,wA,G9];show st ?_;left;show aP (d:=d) G.pick (hf.ka .push) #v[] #v[] λv S1 v0 v1 f1 k1=>?_
 have e:=k1.get _ _ (IH hf.lt) ag;obtain⟨p,hp,ep⟩:=jt (f:=λp:GX×GX=>W.tup [.int p.1,.int p.2]) (xs:=vL) (i:=v.toNat) (by change v.toNat < 11; omega)
 obtain⟨a1,a3,n1,n3,an⟩:=vM p hp;exact jp e v0 ep (hR _ _ (k _ _ _ a1 a3 n1 n3 an f1 (Kp.push.trans k1)))
def lX (G:Gen defs){n:GX}(hf:Fl S r)(h1:1<=n)(h3:n<=3)(k:∀(bs:GK G7) S',GoodB bs->bs.length=n->Fl S' r->Kp r S S'->Q (.tup (af bs),S')) :
  wO (aL (aj defs fuel (d+2)) "_law_backs" 2 [.ref r,.int n] S) Q:=by
 show ak G.backs rfl rfl λQ' hR=>?_
 replace k:∀(bs:GK G7) S',GoodB bs->bs.length=n->Fl S' r->Kp r S S'->Q' (.rt (.tup (af bs)),S'):=λz S' a b c e=>hR _ _ (k z S' a b c e)
 clear hR;change wZ _ _ dG [ba (.ref r),ba (.int n),gV] S Q';dsimp only[dG];nofun
 left;dsimp only[qL,ay];obtain⟨hg,g0,g3⟩:=vN n h1 h3;have fin:∀(t:GX) (S1:aa),S.length<=t->S1[t]?=ba (.lst ((jw n).map λb=>.tup (af b)))->Ka S S1->K [ba (.ref r),ba (.int n),ba (.ref t)] S1:=by
  intro t S1 ht et ka;show hK _ _ (st ?_);left;show nH et ?_;rw[GU];show aP (d:=d) G.pick (hf.ka ka) ∅ ∅ λv S2 v0 v1 f2 k2=>?_
  have e2:=k2.get _ _ (by have:=hf.lt; omega) et
  obtain⟨b,hb,eb⟩:=jt (f:=λb:GK G7=>W.tup (af b)) (xs:=jw n) (i:=v.toNat) ∅
  exact jp e2 v0 eb (k b S2 (hg b hb).1 (hg b hb).2 f2 ((ka.kp r).trans k2))
 clear hK g0 g3 hg;rcases(show n=1\/n=2\/n=3 by omega)with rfl|rfl|rfl
 ·exact dC (i:=0) ag rfl (fin _ _ (G2 _) (am (am (am ag))) (Ka.push.trans (Ka.push.trans (Ka.push.trans .push))))
 ·exact dC (i:=1) ag rfl (fin _ _ (by simp) (am (am ag)) (Ka.push.trans (Ka.push.trans (Ka.push.trans .push))))
 ·exact dC (i:=2) ag rfl (fin _ _ (by simp only[G3]; omega) (am ag) (Ka.push.trans (Ka.push.trans (Ka.push.trans .push))))
def ff (hfu:20 < fuel)(G:Gen defs){a:GX}{bs:GK G7}{x:W}{us:GK Wd}(hf:Fl S r)(ha:a<=3)(hb:bs.length<=3)(hx:∀S',Kp r S S'->dg S' x=ba (us.map aS))(h64:us.length < 64)(hne:∀u∈us,u≠[])
  (k:∀(ms ns:GK Ha) S',ms.length=a->ns.length=bs.length->GoodN ms ns->Fl S' r->Kp r S S'->Q (aQ ms ns bs (dw us),S')) :
  wO (aL (aj defs fuel (d+5)) "_law_rule_of" 4 [.ref r,.int a,.tup (af bs),x] S) Q:=by
 show ak G.rule_of rfl rfl λQ' hR=>?_
 replace k:∀(ms ns:GK Ha) S',ms.length=a->ns.length=bs.length->GoodN ms ns->Fl S' r->Kp r S S'->Q' (.rt (aQ ms ns bs (dw us)),S'):=λz y S' a b c e f=>hR _ _ (k z y S' a b c e f)
 clear hR;change wZ _ _ cC [ba (.ref r),ba (.int a),ba (.tup (af bs)),ba x,gV,gV] S Q';have hbl:(af bs).length=bs.length:=GU ..;dsimp only[cC];nofun
 left;show bp ?_;rw[hbl];dsimp only[cp,ay];show zd (d:=d) (m:=a+bs.length) hfu G hf ∅ λys S1 q2 q3 q4 f1 k1=>hK _ _ ?_
 clear hK K;have hzl:(Hd aH (ys.drop a) bs).length=bs.length:=by
  rw[IJ,Kb]; omega
 nofun
 dsimp only[wS,wE,wA,G9];show cU (bs.length:G7) (λk zs Z2 S2=>(∃a1,Z2=[gV,a1,ba (.tup (af bs)),ba (.int a),ba (.tup (ys.map W.str))])/\zs=((Hd aH (ys.drop a) bs).take k)/\S2=S1) rfl rfl rfl ∅ ?_ ?_ ?_
 ·dsimp only[wE,wA,wV,wG];show bp ?_;rw[hbl];exact#[rfl,#[gV,rfl],rfl,rfl]
 ·rintro i zs Z2 S2 hi ⟨⟨a1,rfl⟩,rfl,rfl⟩;clear hK;have hi':i < bs.length:=∅
  have h1:a+i < ys.length:=∅
  dsimp only[iF,wC,wE,wA,wV,wG,G9,cp,ay];show#[λ_=>ah ∅ (w:=.str ys[a+i]) ?_ (ah ∅ (w:=.int bs[i]) ?_ #[#[_,rfl],?_,rfl]),λz=>by cases z]
  ·rw[show((a:G7)+(i:G7)).toNat=a+i by omega,G1,G5 h1]; rfl
  ·unfold af;rw[Hf,G1,G5 hi']; rfl
  ·have ez:(Hd aH (ys.drop a) bs)[i]?=ba (aH ys[a+i] bs[i]):=lU (by rw[List.getElem?_drop]; exact G5 h1) (G5 hi')
   rw[IL,ez];rfl
 ·rintro zs Z2 S2 ⟨_,rfl,rfl⟩;rw[Hf,<- hzl,Jd];show#[few ∅,eS ag (hK _ _ ?_)]
  clear hK K;show st ?_;dsimp only[wS,wE,wA,wP,wV,wG,wN];have hs:oF (.tup (ys.map W.str)) gV (ba (a:G7)) (S2++[O.lst (Hd aH (ys.drop a) bs)])=ba (.tup ((ys.take a).map W.str),S2++[O.lst (Hd aH (ys.drop a) bs)]):=by
   simp only[oF,ju];rw[Ly]
  show ab hs (vK (hx _ (k1.trans .push)) h64 hne (eS ag ?_));show k (ys.take a) (ys.drop a) _ ?_ ?_ #[?_,?_] ((f1.ka .push).ka .push) (k1.trans (Kp.push.trans .push))
  ·rw[Im]; omega
  ·rw[Kb]; omega
  ·rw[KH]; exact q3
  ·rw[KH]; exact q4
def dy (hfu:20 < fuel)(G:Gen defs){a:GX}{bs:GK G7}(hf:Fl S r)(ha:a<=3)(hb:bs.length<=3)
  (k:∀(ms ns:GK Ha) S',ms.length=a->ns.length=bs.length->GoodN ms ns->Fl S' r->Kp r S S'->Q (aQ ms ns bs [],S')) :
  wO (aL (aj defs fuel (d+5)) "_law_rule_of" 4 [.ref r,.int a,.tup (af bs),.tup []] S) Q:=
 ff hfu G hf ha hb (us:=[]) (λ_ _=>rfl) #v[] (λ_ h=>nomatch h) k
def draws {M:Ha->FF}{Z:Fm}{elt e:E}{cap:GK (GR GX)}{n i:GX}{R:Fm}(oe:bW elt=true)(oi:bW e=true)(h1:i<=1000)(hc:cH cap Z=gV::gV::R)(hf:Fl S r)(he:∀Q:QW,Q (.int i,S)->wE M e Z S Q)
  (hp:∀(a:GR W) (S1:aa) (Q:QW),Fl S1 r->(∀v S',0<=v->v < (n:G7)->Fl S' r->Kp r S1 S'->Q (.int v,S'))->wE M elt (gV::a::R) S1 Q)
  (k:∀(vs:GK G7) S',vs.length=i->(∀w∈vs,0<=w/\w < (n:G7))->Fl S' r->Kp r S S'->Q (.ref S'.length,S'++[.lst (af vs)])) :
  Wp (aq M (.comp elt (.nm 1) (.rng #v[e]) .nil cap) Z S) Q:=by
 show cU (i:G7) (λj ys Z2 S3=>(∃a1,Z2=gV::a1::R)/\(∃vs:GK G7,ys=af vs/\vs.length=j/\∀w∈vs,0<=w/\w < (n:G7))/\Fl S3 r/\Kp r S S3) oi oe rfl ∅ (he _ #[rfl,#[gV,hc],#[[],rfl,rfl,λ_ h=>nomatch h],hf,.refl]) ?_ ?_
 ·rintro j ys Z2 S3 hj ⟨⟨a1,rfl⟩,⟨vs,rfl,hvl,hv⟩,f3,k3⟩;show#[λ_=>hp _ _ _ f3 λv S4 v0 v1 f4 k4=>#[#[_,rfl],#[vs++[v],(HK (l₁:=vs) (l₂:=[v])).symm,by rw[G3,hvl]; rfl,λw hw=>?_],f4,k3.trans k4],λz=>by cases z]
  rcases HU.mp hw with h|h
  ·exact hv w h
  ·rw[Hc.mp h]; exact#[v0,v1]
 ·rintro ys Z2 S3 ⟨_,⟨vs,rfl,hvl,hv⟩,f3,k3⟩;rw[Hf]at hvl;exact#[few (by rw[show(af vs).length=vs.length from GU ..]; omega),k vs S3 hvl hv f3 k3]
def gE (G:Gen defs){a n:GX}(hf:Fl S r)(ha:0 < a)(ha3:a<=3)(hn:0 < n)(hn3:n<=3)(k:∀(u:Wd) S',u.length=3->GoodW a n u->Fl S' r->Kp r S S'->Q (aS u,S')) :
  wO (aL (aj defs fuel (d+2)) "_law_free_three" 3 [.ref r,.int a,.int n] S) Q:=by
 show ak G.free_three rfl rfl λQ' hR=>?_
 replace k:∀(u:Wd) S',u.length=3->GoodW a n u->Fl S' r->Kp r S S'->Q' (.rt (aS u),S'):=λz S' a b c e=>hR _ _ (k z S' a b c e)
 clear hR;change wZ _ _ bE [ba (.ref r),ba (.int a),ba (.int n),gV,gV] S Q';dsimp only[bE];have hrt:=hf.lt;show st ?_;dsimp only[wS,wE,wA,G9];nofun
 show gB 3 (λk Z S'=>∃a4 u,Z=[ba (.ref r),ba (.int a),ba (.int n),ba (.ref S.length),a4]/\S'[S.length]?=ba (.lst (u.map b9))/\u.length=k/\GoodW a n u/\Fl S' r/\Kp r S S') rfl rfl #v[] #[rfl,gV,[],rfl,ag,rfl,.nil,hf.ka .push,.push] ?_ ?_
 ·rintro i Z S1 hi ⟨a4,u,rfl,e1,hul,hu,f1,k1⟩ Q2 hn' _;clear hK;show st ?_;left;show#[ei e1,aP (d:=d) G.pick f1 ∅ ∅ λv S2 v0 v1 f2 k2=>?_]
  have e2:=k2.get _ _ ∅ e1
  show draws (n:=n) (i:=i) (R:=[ba (.ref r),ba (.int n)]) rfl rfl ∅ rfl f2 (λQ q=>q) (λa S1 Q f q=>aP (d:=d) G.pick f ∅ ∅ q) λvs S3 hvl hv f3 k3=>?_
  have e3:=am (u:=O.lst (af vs)) (k3.get _ _ ∅ e2)
  show eS ag (nG e3 (by rw[GU]; omega) (bX (hn' _ _ #[_,u++[(v,vs)],rfl,?_,by rw[G3,hul]; rfl,hu.snoc #[v0,v1] (hvl.trans hul.symm) hv,(f3.ka .push).own hrt,(k1.trans (k2.trans (k3.trans .push))).late (G2 _)])))
  rw[bJ e3,HK]; rfl
 ·rintro Z S1 ⟨a4,u,rfl,e1,hul,hu,f1,k1⟩;show hK _ _ (st ?_);left;exact eS e1 (k u _ hul hu f1 k1)
end
abbrev dD (n:GX):GK G7:=(HJ n).map λ(k:GX)=>(k:G7)
abbrev nP (a n:GX):GK Wd:=(dD a).flatMap λm0=>(dD a).flatMap λm1=>(dD a).flatMap λm2=>(dD n).flatMap λw1=>(dD n).flatMap λw2=>(dD n).map λw3=>[(m0,[]),(m1,[w1]),(m2,[w2,w3])]
abbrev aF (a:GX)(bs:GK G7):GK Wd:=((nP a bs.length).map (fT bs)).eraseDups
def ce {n:GX}{x:G7}(h0:0<=x)(h1:x < n):x∈dD n:=Hl.mpr #[x.toNat,HZ.mpr ∅,∅]
def sy {a n:GX}{u:Wd}(h:GoodW a n u)(h3:u.length=3):u∈nP a n:=by
 match u,h3 with
 | [(m0,w0),(m1,w1),(m2,w2)],_=>
  have l0:=h.len 0 _ rfl;have l1:=h.len 1 _ rfl;have l2:=h.len 2 _ rfl;simp only at l0 l1 l2
  match w0,l0 with
  | [],_=>
   match w1,l1 with
   | [x],_=>
    match w2,l2 with
    | [y,z],_=>
     have a0:=h.mark 0 _ rfl;have a1:=h.mark 1 _ rfl;have a2:=h.mark 2 _ rfl;have b1:=h.way 1 _ rfl x (by simp)
     have b2:=h.way 2 _ rfl y (by simp)
     have b3:=h.way 2 _ rfl z (by simp)
     unfold nP;simp only[KQ,Hl];exact#[m0,ce a0.1 a0.2,m1,ce a1.1 a1.2,m2,ce a2.1 a2.2,x,ce b1.1 b1.2,y,ce b2.1 b2.2,z,ce b3.1 b3.2,rfl]
def ze {a:GX}{bs:GK G7}{u:Wd}(h:GoodW a bs.length u)(h3:u.length=3):fT bs u∈aF a bs:=by
 unfold aF;rw[Le];exact Hl.mpr #[u,sy h h3,rfl]
structure SizeOk (a:GX)(bs:GK G7):Prop where
 pos:0 < a
 good:GoodB bs
 most:a*bs.length<=6
 a3:a<=3
def SizeOk.n3 {a:GX}{bs:GK G7}(h:SizeOk a bs):0 < bs.length/\bs.length<=3:=by
 rcases h.good with rfl|rfl|rfl|rfl|rfl|rfl <;> decide
def FW:(aF 1 [0]).length < 64/\(aF 2 [0]).length < 64/\(aF 3 [0]).length < 64:=by decide +kernel
def ES:(aF 1 [0,1]).length < 64/\(aF 2 [0,1]).length < 64/\(aF 1 [1,0]).length < 64/\(aF 2 [1,0]).length < 64:=by decide +kernel
def FX:(aF 1 [0,1,2]).length < 64/\(aF 1 [1,0,2]).length < 64/\(aF 1 [0,2,1]).length < 64:=by decide +kernel
def FY:(aF 3 [0,1]).length < 64:=by decide +kernel
def FZ:(aF 3 [1,0]).length < 64:=by decide +kernel
def F0:(aF 2 [0,1,2]).length < 64:=by decide +kernel
def F1:(aF 2 [1,0,2]).length < 64:=by decide +kernel
def F2:(aF 2 [0,2,1]).length < 64:=by decide +kernel
def lY {a:GX}{bs:GK G7}(h:SizeOk a bs):(aF a bs).length < 64:=by
 obtain⟨h0,hb,hm,h3⟩:=h;have ha:a=1\/a=2\/a=3:=∅
 rcases hb with rfl|rfl|rfl|rfl|rfl|rfl <;> rcases ha with rfl|rfl|rfl
 ·exact FW.1
 ·exact FW.2.1
 ·exact FW.2.2
 ·exact ES.1
 ·exact ES.2.1
 ·exact FY
 ·exact ES.2.2.1
 ·exact ES.2.2.2
 ·exact FZ
 ·exact FX.1
 ·exact F0
 ·simp at hm
 ·exact FX.2.1
 ·exact F1
 ·simp at hm
 ·exact FX.2.2
 ·exact F2
 ·simp at hm
def vO (bs:GK G7)(u:Wd):∃t∈aB,fT bs u=ar bs u t:=by
 have h7:(aB.map (ar bs u)).length=6:=by rw[GU]; rfl
 have h8:((aB.map (ar bs u)).map bU).length=6:=by rw[GU,h7]
 have hlt:gY ((aB.map (ar bs u)).map bU) < (aB.map (ar bs u)).length:=by
  unfold gY;have h6:=dv (jZ ((aB.map (ar bs u)).map bU)) (((aB.map (ar bs u)).map bU).length - 1);rw[h7]; omega
 unfold fT;rw[getD_some (G5 hlt)];obtain⟨t,ht,e⟩:=Hl.mp (HP hlt);exact#[t,ht,e.symm]
def zf (bs:GK G7)(u:Wd):fT bs u≠[]:=by
 obtain⟨t,ht,e⟩:=vO bs u;rw[e];have:∀t∈aB,t≠[]:=by decide
 have h:=this t ht;intro z;have hl:(ar bs u t).length=t.length:=by simp[ar]
 rw[z]at hl;exact h (JW.mp hl.symm)
def nQ:∀ {xs ys:GK G7},xs.map T.int=ys.map T.int->xs=ys
 | [],[],_=>rfl
 | [],_::_,h=>by cases h
 | _::_,[],h=>by cases h
 | x::xs,y::ys,h=>by
  rw[HX,HX]at h;injection h with h1 h2
  injection h1 with h1
  rw[h1,nQ h2]
def zh {p q:Pt}(h:fA p=fA q):p=q:=by
 unfold fA at h;injection h with h
 injection h with h1 h2
 injection h1 with h1
 injection h2 with h2 _
 injection h2 with h2
 exact Py h1 (nQ h2)
def gF {u v:Wd}(h:bU u=bU v):u=v:=by
 unfold bU at h;injection h with h
 have inj:∀ {u v:Wd},u.map fA=v.map fA->u=v:=by
  intro u
  induction u with
  | nil=>intro v h; cases v with
   | nil=>rfl
   | cons _ _=>cases h
  | cons p u ih=>intro v h; cases v with
   | nil=>cases h
   | cons q v=>
    rw[HX,HX]at h;injection h with h1 h2
    rw[zh h1,ih h2]
 exact inj h
def kw {U:GK (T×W)}{k:T}{v:W}:(dP U k v).map (·.1)=if k∈U.map (·.1)then U.map (·.1)else U.map (·.1)++[k]:=by
 have hany:(U.any λp=>decide (p.1=k))=decide (k∈U.map (·.1)):=by
  induction U with
  | nil=>rfl
  | cons p U ih=>
   rw[Jx,ih,HX]
   by_cases e:p.1=k
   ·subst e; simp
   ·rw[Hv e,Lu];have:(k∈p.1::U.map (·.1))=(k∈U.map (·.1)):=by simp[Ne.symm e]
    simp only[this]
 unfold dP;rw[hany]
 by_cases h:k∈U.map (·.1)
 ·rw[Hk h,Hk (HN h),Jg];show IK λp _=>?_
  show(if p.1=k then(p.1,v)else p).1=p.1
  split <;> rfl
 ·rw[Hu h,Hu (by simpa using h),HK]
  rfl
structure FigD (L:GK Wd)(U:GK (T×W))(fs:GK Wd):Prop where
 keys:U.map (·.1)=fs.map bU
 nd:fs.Nodup
 mem:∀f∈fs,f∈L
def FigD.nil {L:GK Wd}:FigD L [] []:=#[rfl,Mq,λ_ h=>nomatch h]
def FigD.len {L:GK Wd}{U:GK (T×W)}{fs:GK Wd}(h:FigD L U fs):U.length=fs.length/\fs.length<=L.length:=by
 have:=congrArg OR h.keys;rw[GU,GU]at this;exact#[this,fS fs L h.nd h.mem]
def FigD.put {L:GK Wd}{U:GK (T×W)}{fs:GK Wd}{f:Wd}{v:W}(h:FigD L U fs)(hf:f∈L):∃fs',FigD L (dP U (bU f) v) fs':=by
 by_cases hm:f∈fs
 ·show#[fs,?_,h.nd,h.mem];rw[kw,Hk (by rw[h.keys]; exact Hl.mpr #[f,hm,rfl]),h.keys]
 ·show#[fs++[f],?_,?_,λg hg=>?_]
  ·rw[kw,Hu,h.keys,HK]
   ·rfl
   ·rw[h.keys];intro z;obtain⟨g,hg,e⟩:=Hl.mp z;exact hm (gF e ▸ hg)
  ·rw[Jn];show#[h.nd,by simp,λa ha b hb e=>?_]
   rw[Hc.mp hb]at e;exact hm (e ▸ ha)
  ·rcases HU.mp hg with h'|h'
   ·exact h.mem g h'
   ·rw[Hc.mp h']; exact hf
def FigD.items {S:aa}{t:GX}{L:GK Wd}{U:GK (T×W)}{fs:GK Wd}(h:FigD L U fs)(e:S[t]?=ba (.dic U)):dg S (.ref t)=ba (fs.map aS):=by
 simp only[dg,lQ e,cx e,HC];congr 1;have:(U.map (·.1)).map T.w=(fs.map bU).map T.w:=by rw[h.keys]
 rw[Jg,Jg]at this
 calc U.map (λp=>p.1.w)=U.map (T.w∘λx=>x.1):=rfl
  _=fs.map (T.w∘bU):=this
  _=fs.map aS:=by
   show IK λf _=>?_
   exact vE f
def nR {a:GX}{bs:GK G7}{f:Wd}(h:f∈aF a bs):f≠[]:=by
 unfold aF at h;rw[Le]at h;obtain⟨u,_,rfl⟩:=Hl.mp h;exact zf bs u
def El {S:aa}{t:GX}{U:GK (T×W)}{u:Wd}{v:W}(h:S[t]?=ba (.dic U))(hl:U.length < sizeLine):gk (.ref t) (aS u) v S=ba (S.set t (.dic (dP U (bU u) v))):=by
 have hk:=B3 u;unfold aS at hk ⊢
 (dsimp only[gk,lv]; simp only[h,hk])
 rw[Hk hl]
structure RuleAt (a:GX)(bs:GK G7)(ms ns:GK Ha)(gs:GK Wd):Prop where
 size:SizeOk a bs
 ml:ms.length=a
 nl:ns.length=bs.length
 nm:GoodN ms ns
 nd:gs.Nodup
 mem:∀g∈gs,g∈aF a bs
abbrev bA (w:W):Prop:=∃a bs ms ns gs,w=aQ ms ns bs (dw gs)/\RuleAt a bs ms ns gs
section
variable{M:Ha->FF}{fuel:GX}{Z:Fm}{S:aa}{K:Fm->aa->Prop}{Q:QO}
def jx {i0:GX}{e:E}{b:Ss}(oe:bW e=true)(ok:fR b=true)(he:wE M e Z S λp=>∃(j:G7) (I:GX->Fm->aa->Prop),p.1=.int j/\(-(2 ^ 62)<=j/\j < 2 ^ 62)/\I 0 Z p.2/\
  (∀(i:GX) (Z:Fm) (S:aa),(i:G7) < j->I i Z S->vA M fuel b (Z.set i0 (ba (.int i))) S (I (i+1)) Q)/\∀Z S,I j.toNat Z S->K Z S):Wp (eW M fuel (.loop (.nm i0) (.rng #v[e]) b) Z S) (pE K Q):=by
 obtain⟨w,S1,e1,j,I,rfl,hj,h0,hs,hend⟩:=aV oe he;have hl:(cj 0 j.toNat).length=j.toNat:=by simp[cj]
 show ig (mi:=.its (cj 0 j.toNat)) (S1:=S1) (xs:=cj 0 j.toNat) I ok ?_ (λ_ _ _ _=>rfl) rfl h0 (λi w Z S hw hI=>?_) λZ S hI=>hend Z S (hl ▸ hI)
 ·(dsimp only[fO,b7,cG,fM,pc]; simp only[e1])
  rw[Hk hj]
 ·rw[di]at hw;split at hw
  ·rename_i hk;cases hw;rw[LR];exact hs i Z S ∅ hI
  ·cases hw
def dz {tg:Tg}{e:E}{b:Ss}(oe:bW e=true)(ok:fR b=true)(he:wE M e Z S λp=>∃(t:GX) (xs:GK W) (I:GX->Fm->aa->Prop),p.1=.ref t/\I 0 Z p.2/\(∀i Z S,I i Z S->S[t]?=ba (.lst xs))/\
  (∀(i:GX) (w:W) (Z:Fm) (S:aa),xs[i]?=ba w->I i Z S->wO (gO tg w Z S) λq=>vA M fuel b q.1 q.2 (I (i+1)) Q)/\∀Z S,I xs.length Z S->K Z S):Wp (eW M fuel (.loop tg (.seq e) b) Z S) (pE K Q):=by
 obtain⟨w,S1,e1,t,xs,I,rfl,h0,hat,hs,hend⟩:=aV oe he;exact ig (mi:=.live t) (S1:=S1) I ok (by simp only[fO,cN,e1,ap (hat _ _ _ h0)]) (λi Z S h=>by simp only[MI.at,ap (hat _ _ _ h)]) (by simp only[MI.len,ap (hat _ _ _ h0),HC]) h0 hs hend
end
section
variable{defs:GK (Ha×Df)}{fuel d:GX}{S:aa}{r:GX}{Q:QW}
def nS {q:GX}{a:GX}{bs:GK G7}{ms ns:GK Ha}{fs0:GK Wd}{U:GK (T×W)}{fs:GK Wd}(h3:S[q]?=ba (.dic U))(h4:FigD (aF a bs) U fs)(hs:SizeOk a bs)(hml:ms.length=a)(hnl:ns.length=bs.length)(hnm:GoodN ms ns)(k:∀w S',bA w->Ka S S'->Q (w,S')) :
  wO (mj (aQ ms ns bs fs0) (.int 0) S) λp=>wO (mj (aQ ms ns bs fs0) (.int 1) p.2) λq'=>wO (Bi.sorted.fn [.ref q] q'.2) λs=>wO (Bi.tuple.fn [s.1] s.2) λz=>Q (.tup [p.1,q'.1,z.1],z.2):=by
 show ah #v[] rfl (ah #v[] rfl ?_)
 have hl:=h4.len;exact vK (h4.items h3) (by have:=lY hs; omega) (λf hf=>nR (h4.mem f hf)) (eS ag (k _ _ #[a,bs,ms,ns,fs,rfl,hs,hml,hnl,hnm,h4.nd,h4.mem] .push))
def nT {q:GX}{a:GX}{bs:GK G7}{u:Wd}{U:GK (T×W)}{fs:GK Wd}{Q:aa->Prop}(h3:S[q]?=ba (.dic U))(h4:FigD (aF a bs) U fs)(hs:SizeOk a bs)(hu:GoodW a bs.length u)(hu3:u.length=3)
  (k:∀o,(∃U fs,(S.set q o)[q]?=ba (.dic U)/\FigD (aF a bs) U fs)->Q (S.set q o)):wO (gk (.ref q) (aS (fT bs u)) (.bl true) S) Q:=by
 have hl:=h4.len;have:=lY hs;obtain⟨fs',h5⟩:=h4.put (v:=.bl true) (ze hu hu3);exact ab (El h3 (by rw[HV]; omega)) (k _ #[_,fs',bJ h3,h5])
def pJ (hfu:20 < fuel)(G:Gen defs)(hf:Fl S r)(k:∀w S',bA w->Fl S' r->Kp r S S'->Q (w,S')):wO (aL (aj defs fuel (d+6)) "_law_any_rule" 1 [.ref r] S) Q:=by
 show ak G.any_rule rfl rfl λQ' hR=>?_
 replace k:∀w S',bA w->Fl S' r->Kp r S S'->Q' (.rt w,S'):=λz S' a b c=>hR _ _ (k z S' a b c)
 clear hR;change wZ _ _ b8 [ba (.ref r),gV,gV,gV,gV,gV] S Q';dsimp only[b8];nofun
 left;show qV (d:=d+3) G hf λa n S1 a1 a3 n1 n3 an f1 k1=>?_
 dsimp only[wU];show ab (show dh [1,2] [.int a,.int n] [ba (.ref r),gV,gV,gV,gV,gV]=ba [ba (.ref r),ba (.int a),ba (.int n),gV,gV,gV]from rfl) (hK _ _ ?_)
 clear hK K;nofun
 left;show lX (d:=d+3) G f1 n1 n3 λbs S2 hb hbl f2 k2=>?_
 have hsz:SizeOk a bs:=#[∅,hb,by rw[hbl]; exact an,a3]
 show dy (d:=d) hfu G f2 a3 ∅ λms ns S3 hml hnl hnm f3 k3=>hK _ _ ?_
 clear hK K;have hrt:=f3.lt;replace k3:Kp r S S3:=k1.trans (k2.trans k3);clear k1 k2 f1 f2;show st ?_;dsimp only[wS,wE,G9];nofun
 show jx rfl rfl ?_;dsimp only[wE,wA,wV,wG];show aP (d:=d+4) G.pick (f3.ka .push) #v[] #v[] λv S4 v0 v9 f4 k4=>?_
 show#[v,λk Z S'=>(∃a5,Z=[ba (.ref r),ba (.int a),ba (.int n),ba (aQ ms ns bs []),ba (.ref S3.length),a5])/\(∃U fs,S'[S3.length]?=ba (.dic U)/\FigD (aF a bs) U fs)/\Fl S' r/\Kp r S S',rfl,∅,#[#[gV,rfl],#[[],[],k4.get _ _ ∅ ag,.nil],f4,(k3.trans .push).trans k4],?_,?_]
 ·rintro i Z S5 hi ⟨⟨a5,rfl⟩,⟨U,fs,e5,hd⟩,f5,k5⟩ Q2 hn _;clear hK;show st ?_;left;show gE (d:=d+3) G f5 ∅ a3 ∅ n3 λu S6 hu3 hu f6 k6=>?_
  have hu:GoodW a bs.length u:=hbl.symm ▸ hu;show eT (d:=d+2) G hb hnl hu hu3 λS7 k7=>?_
  have e7:=k7.get _ _ (k6.get _ _ ∅ e5)
  exact nT e7 hd hsz hu hu3 λo ho=>bX (hn _ _ #[#[_,rfl],ho,(f6.ka k7).own hrt,((k5.trans k6).trans (k7.kp r)).late k3.len])
 ·rintro Z S5 ⟨⟨a5,rfl⟩,⟨U,fs,e5,hd⟩,f5,k5⟩;show hK _ _ (st ?_);left;exact nS (Q:=λp=>Q' (.rt p.1,p.2)) e5 hd hsz hml hnl hnm λw S6 hw k6=>k w S6 hw (f5.ka k6) (k5.trans (k6.kp r))
end
abbrev cw (t:G7×G7×G7):W:=.tup [.int t.1,.int t.2.1,.int t.2.2]
abbrev kz (a:GX)(t:G7×G7×G7):Prop:=(0<=t.1/\t.1 < a)/\(0<=t.2.1/\t.2.1 < a)/\(0<=t.2.2/\t.2.2 < a)
abbrev vP (k:G7):Wd:=[(k,[]),(k,[0]),(k,[0,0])]
def F3:∀k∈dD 1,vP k∈aF 1 [0]:=by decide +kernel
def F4:∀k∈dD 2,vP k∈aF 2 [0]:=by decide +kernel
def F5:∀k∈dD 3,vP k∈aF 3 [0]:=by decide +kernel
def zj {a:GX}{k:G7}(h0:1<=a)(h3:a<=3)(hk:0<=k)(hk2:k < a):vP k∈aF a [0]:=by
 have ha:a=1\/a=2\/a=3:=∅
 rcases ha with rfl|rfl|rfl
 ·exact F3 k (ce hk hk2)
 ·exact F4 k (ce hk hk2)
 ·exact F5 k (ce hk hk2)
def zm {a b:G7}(h:vP a=vP b):a=b:=by
 unfold vP at h;injection h with h1 h2
 injection h1
def gG:GoodB [0]:=.inl rfl
def Em {S:aa}{i j:GX}{xs:GK W}(h1:S[i]?=ba (.lst xs))(h2:S[j]?=ba (.lst [])):bS .eq (.ref i) (.ref j) S=ba (.bl xs.isEmpty,S):=by
 show(iw S (19+1) (.ref i) (.ref j)).map _=_
 (dsimp only[iw]; simp only[eh h1,eh h2])
 cases xs with
 | nil=>rfl
 | cons x xs=>rfl
def zn {S:aa}{f:G7}{ws:GK G7}:∃b,bS .notin (.int f) (.tup (af ws)) S=ba (.bl b,S):=by
 have hf:(bH (.int f)&&(af ws).all bH)=true:=by
  (dsimp only[bH]; simp only[Lx,Hq])
  intro x hx;obtain⟨z,_,rfl⟩:=Hl.mp hx;rfl
 show#[!(af ws).any λz=>wX z (.int f),?_]
 change cg .notin (.int f) (.tup (af ws)) S=_
 (dsimp only[cg,oE,wY,dE]; simp only[hf,JQ,HC])
section
variable{M:Ha->FF}{fuel:GX}{Z:Fm}{S:aa}{K:Fm->aa->Prop}{Q:QO}
def vQ {i0:GX}{a b:E}{bd:Ss}(i j:G7)(I:GX->Fm->aa->Prop)(oa:bW a=true)(ob:bW b=true)(ok:fR bd=true)(hj : -(2 ^ 62)<=i/\i < 2 ^ 62/\-(2 ^ 62)<=j/\j < 2 ^ 62)(he:wE M a Z S λp=>p.1=.int i/\wE M b Z p.2 λq=>q.1=.int j/\I 0 Z q.2)
  (hstep:∀(k:GX) (Z:Fm) (S:aa),(k:G7) < j - i->I k Z S->vA M fuel bd (Z.set i0 (ba (.int (i+k)))) S (I (k+1)) Q) (hend:∀Z S,I (j - i).toNat Z S->K Z S):Wp (eW M fuel (.loop (.nm i0) (.rng2 #v[a,b]) bd) Z S) (pE K Q):=by
 obtain⟨w,S1,e1,rfl,h1⟩:=aV oa he;obtain⟨w,S2,e2,rfl,h0⟩:=aV ob h1;have hl:(cj i (j - i).toNat).length=(j - i).toNat:=by simp[cj]
 show ig (mi:=.its (cj i (j - i).toNat)) (S1:=S2) (xs:=cj i (j - i).toNat) I ok ?_ (λ_ _ _ _=>rfl) rfl h0 (λk w Z S hw hI=>?_) λZ S hI=>hend Z S (hl ▸ hI)
 ·simp only[fO,b7,cG,fM,iRng2,e1,e2];rw[Hk hj]
 ·rw[di]at hw;split at hw
  ·rename_i hk;cases hw;exact hstep k Z S ∅ hI
  ·cases hw
def vR {elt a b:E}{i0:GX}{cs:Es}{cap:GK (GR GX)}{Q:QW}(i j:G7)(I:GX->GK W->Fm->aa->Prop)(oa:bW a=true)(ob:bW b=true)(oe:bW elt=true)(oc:mo cs=true)(hj : -(2 ^ 62)<=i/\i < 2 ^ 62/\-(2 ^ 62)<=j/\j < 2 ^ 62)(he:wE M a Z S λp=>p.1=.int i/\wE M b Z p.2 λq=>q.1=.int j/\I 0 [] (cH cap Z) q.2)
  (hstep:∀(k:GX) (ys:GK W) (Z:Fm) (S:aa),(k:G7) < j - i->I k ys Z S->iF M elt cs (Z.set i0 (ba (.int (i+k)))) S (λy=>I (k+1) (ys++[y])) (I (k+1) ys))
  (hend:∀ys Z S,I (j - i).toNat ys Z S->ys.length<=sizeLine/\Q (.ref S.length,S++[.lst ys])):Wp (aq M (.comp elt (.nm i0) (.rng2 #v[a,b]) cs cap) Z S) Q:=by
 obtain⟨w,S1,e1,rfl,h1⟩:=aV oa he;obtain⟨w,S2,e2,rfl,h0⟩:=aV ob h1;have hl:(cj i (j - i).toNat).length=(j - i).toNat:=by simp[cj]
 show lS (mi:=.its (cj i (j - i).toNat)) (S1:=S2) (xs:=cj i (j - i).toNat) I oe oc ?_ (λ_ _ _ _ _=>rfl) rfl h0 (λk w ys Z S hw hI=>?_) λys Z S hI=>hend ys Z S (hl ▸ hI)
 ·simp only[fO,b7,cG,fM,iRng2,e1,e2];rw[Hk hj]
 ·rw[di]at hw;split at hw
  ·rename_i hk;cases hw;exact hstep k ys Z S ∅ hI
  ·cases hw
end
section
variable{defs:GK (Ha×Df)}{fuel d:GX}{S:aa}{r:GX}{Q:QW}
def nU (G:Gen defs){a:GX}(ha:a<=3)(k:∀(q:GX) (ts:GK (G7×G7×G7)) (S':aa),S'[q]?=ba (.lst (ts.map cw))->(∀t∈ts,kz a t)->ts.length<=27->S.length<=q->Ka S S'->Q (.ref q,S')) :
  wO (aL (aj defs fuel (d+1)) "_law_rising" 1 [.int a] S) Q:=by
 show ak G.rising rfl rfl λQ' hR=>?_
 replace k:∀(q:GX) (ts:GK (G7×G7×G7)) (S':aa),S'[q]?=ba (.lst (ts.map cw))->(∀t∈ts,kz a t)->ts.length<=27->S.length<=q->Ka S S'->Q' (.rt (.ref q),S'):=λq ts S' a b l c e=>hR _ _ (k q ts S' a b l c e)
 clear hR;change wZ _ _ cX [ba (.int a),gV,gV,gV] S Q';dsimp only[cX];show st ?_;dsimp only[wS,wE,wA,G9];nofun
 show gB (a:G7) (λi Z S'=>∃(q:GX) (ts:GK (G7×G7×G7)) (a2 a3:GR W),Z=[ba (.int a),ba (.ref q),a2,a3]/\S'[q]?=ba (.lst (ts.map cw))/\(∀t∈ts,kz a t)/\S.length<=q/\ts.length<=9*i/\Ka S S') rfl rfl ∅ #[rfl,_,[],_,_,rfl,ag,λ_ h=>(nomatch h),G2 _,Jj _,.push] ?_ ?_
 ·rintro i Z S1 hi ⟨q,ts,a2,a3,rfl,e1,ht,hq,hl,k1⟩ Q2 hn _;clear hK k;nofun
  show vQ (i:G7) (a:G7) (λj Z S'=>∃(q:GX) (ts:GK (G7×G7×G7)) (a3:GR W),Z=[ba (.int a),ba (.ref q),ba (.int i),a3]/\S'[q]?=ba (.lst (ts.map cw))/\(∀t∈ts,kz a t)/\S.length<=q/\ts.length<=9*i+3*j/\Ka S S') rfl rfl rfl ∅ #[rfl,rfl,q,ts,a3,rfl,e1,ht,hq,∅,k1] ?_ ?_
  ·rintro j Z S2 hj ⟨q,ts,a3,rfl,e2,ht,hq,hl,k2⟩ Q3 hn3 _;clear hK hn;show st ?_;dsimp only[wS,wE,wV,wG,G9];show vR ((i:G7)+j) (a:G7) (λm ys Z2 S3=>(∃a1,Z2=[gV,a1,ba (.int i),ba (.int ((i:G7)+j))])/\(∃us:GK (G7×G7×G7),ys=us.map cw/\us.length=m/\∀t∈us,kz a t)/\S3=S2) rfl rfl rfl rfl ∅ #[rfl,rfl,#[gV,rfl],#[[],rfl,rfl,λ_ h=>nomatch h],rfl] ?_ ?_
   ·rintro m ys Z2 S3 hm ⟨⟨a1,rfl⟩,⟨us,rfl,hul,hu⟩,rfl⟩;show#[λ_=>#[#[_,rfl],#[us++[((i:G7),(i:G7)+j,(i:G7)+j+m)],by rw[HK]; rfl,by rw[G3,hul]; rfl,λt h=>?_],rfl],λz=>by cases z]
    rcases HU.mp h with h|h
    ·exact hu t h
    ·rw[Hc.mp h];exact#[#[∅,∅],#[by dsimp only; omega,by dsimp only; omega],#[by dsimp only; omega,by dsimp only; omega]]
   ·rintro ys Z2 S3 ⟨_,⟨us,rfl,hul,hu⟩,rfl⟩;show#[few (by rw[GU]; omega),ab (pB (am e2) ag ?_) (bX (hn3 _ _ #[_,ts++us,_,rfl,?_,λt h=>(HU.mp h).elim (ht t) (hu t),?_,?_,k2.trans (Ka.push.trans .push)]))]
    ·show few ?_;rw[G3,GU,GU];omega
    ·rw[HK]; exact ag
    ·have:=k2.len;simp only[G3]; omega
    ·rw[G3]; omega
  ·rintro Z S2 ⟨q,ts,a3,rfl,e2,ht,hq,hl,k2⟩;exact hK _ _ (bX (hn _ _ #[q,ts,_,_,rfl,e2,ht,hq,∅,k2]))
 ·rintro Z S1 ⟨q,ts,a2,a3,rfl,e1,ht,hq,hl,k1⟩;show hK _ _ (st ?_);exact k q ts S1 e1 ht ∅ hq k1
def nV (G:Gen defs){a:GX}(ha:a<=3)(k:∀(q:GX) (ts:GK (G7×G7×G7)) (S':aa),S'[q]?=ba (.lst (ts.map cw))->(∀t∈ts,kz a t)->S.length<=q->Ka S S'->Q (.ref q,S')) :
  wO (aL (aj defs fuel (d+1)) "_law_rising" 1 [.int a] S) Q:=nU G ha λq ts S' a b _ c e=>k q ts S' a b c e
def sA (hfu:20 < fuel)(G:Gen defs)(hf:Fl S r)(k:∀w S',bA w->Fl S' r->Kp r S S'->Q (w,S')):wO (aL (aj defs fuel (d+6)) "_law_one_way_rule" 1 [.ref r] S) Q:=by
 show ak G.one_way_rule rfl rfl λQ' hR=>?_
 replace k:∀w S',bA w->Fl S' r->Kp r S S'->Q' (.rt w,S'):=λz S' a b c=>hR _ _ (k z S' a b c)
 clear hR;change wZ _ _ bh [ba (.ref r),gV,gV] S Q';dsimp only[bh];nofun
 left;show aP (d:=d+4) G.pick hf #v[] #v[] λv S1 v0 v3 f1 k1=>?_
 dsimp only[cp,ay];obtain⟨a,ea⟩ : ∃a:GX,1+v=a:=#[(1+v).toNat,∅]
 rw[ea];show hK _ _ ?_;clear hK K;nofun
 dsimp only[wS,wE,G9];show cU (a:G7) (λk zs Z2 S2=>(∃a1,Z2=[gV,a1,ba (.ref r)])/\(∃ks:GK G7,zs=(ks.map vP).map aS/\ks.Pairwise (·≠·)/\ks.length<=k/\∀x∈ks,0<=x/\x < k)/\Fl S2 r/\Kp r S1 S2) rfl rfl rfl ∅ #[rfl,#[gV,rfl],#[[],rfl,.nil,G2 _,λ_ h=>(nomatch h)],f1,.refl] ?_ ?_
 ·rintro i zs Z2 S2 hi ⟨⟨a1,rfl⟩,⟨ks,rfl,hkp,hkl,hks⟩,f2,k2⟩;clear hK k;dsimp only[iF,wC,wT,wE,wA,wV,wG,G9];show aP (d:=d+4) G.pick f2 #v[] #v[] λv S3 _ _ f3 k3=>?_
  dsimp only[eg,ay,wB];show#[λ_=>#[#[_,rfl],#[ks++[(i:G7)],by simp[vP,aS,b9],?_,by rw[G3]; exact KL hkl,λx hx=>?_],f3,k2.trans k3],λ_=>#[#[_,rfl],#[ks,rfl,hkp,∅,λx hx=>#[(hks x hx).1,by have:=(hks x hx).2; omega]],f3,k2.trans k3]]
  ·rw[List.pairwise_append];show#[hkp,by simp,λx hx y hy e=>?_]
   have:=(hks x hx).2;rw[Hc.mp hy]at e;omega
  ·rcases HU.mp hx with h|h
   ·exact#[(hks x h).1,by have:=(hks x h).2; omega]
   ·rw[Hc.mp h]; omega
 ·rintro zs Z2 S2 ⟨_,⟨ks,rfl,hkp,hkl,hks⟩,f2,k2⟩;rw[Hf]at hkl hks;show#[few (by rw[GU,GU]; omega),hK _ _ (st ?_)]
  clear hK K;left;have hlt:=f2.lt;show ff (d:=d) (a:=a) (bs:=[0]) (us:=ks.map vP) hfu G (f2.ka .push) ∅ #v[] (λS' kk=>?_) (by rw[GU]; omega) (λu hu=>by obtain⟨x,_,rfl⟩:=Hl.mp hu; exact NL _ _) λms ns S3 hml hnl hnm f3 k3=>?_
  ·simp only[dg,ap (kk.get _ _ ∅ ag)]
  show k _ _ #[a,[0],ms,ns,ks.map vP,rfl,#[#[∅,gG,by simp; omega,∅],hml,hnl,hnm,?_,λg hg=>?_]] f3 (k1.trans (k2.trans (Kp.push.trans k3)))
  ·unfold Oi;rw[Jo];exact hkp.imp λh e=>h (zm e)
  ·obtain⟨x,hx,rfl⟩:=Hl.mp hg;exact zj ∅ ∅ (hks x hx).1 (hks x hx).2
def nW (hfu:20 < fuel)(G:Gen defs)(hf:Fl S r)(k:∀w S',bA w->Fl S' r->Kp r S S'->Q (w,S')):wO (aL (aj defs fuel (d+6)) "_law_free_rule" 1 [.ref r] S) Q:=by
 show ak G.free_rule rfl rfl λQ' hR=>?_
 replace k:∀w S',bA w->Fl S' r->Kp r S S'->Q' (.rt w,S'):=λz S' a b c=>hR _ _ (k z S' a b c)
 clear hR;change wZ _ _ bP [ba (.ref r),gV,gV,gV,gV,gV,gV,gV,gV] S Q';dsimp only[bP];nofun
 left;show qV (d:=d+3) G hf λa n S1 a1 a3 n1 n3 an f1 k1=>?_
 dsimp only[wU];show ab (show dh [1,2] [.int a,.int n] [ba (.ref r),gV,gV,gV,gV,gV,gV,gV,gV]=ba [ba (.ref r),ba (.int a),ba (.int n),gV,gV,gV,gV,gV,gV]from rfl) (hK _ _ ?_)
 clear hK K;nofun
 left;show lX (d:=d+3) G f1 n1 n3 λbs S2 hb hbl f2 k2=>?_
 have hsz:SizeOk a bs:=#[∅,hb,by rw[hbl]; exact an,a3]
 show dy (d:=d) hfu G f2 a3 ∅ λms ns S3 hml hnl hnm f3 k3=>hK _ _ ?_
 clear hK K;have hrt:=f3.lt;replace k3:Kp r S S3:=k1.trans (k2.trans k3);clear k1 k2 f1 f2;nofun
 dsimp only[wS,wE,G9];show cU (n:G7) (λi zs Z2 S2=>(∃a1,Z2=[gV,a1,ba (aQ ms ns bs [])])/\(∃ks:GK G7,zs=af ks/\ks.length<=i)/\S2=S3) rfl rfl rfl ∅ #[rfl,#[gV,rfl],#[[],rfl,G2 _],rfl] ?_ ?_
 ·rintro i zs Z2 S2 hi ⟨⟨a1,rfl⟩,⟨ks,rfl,hkl⟩,rfl⟩;clear hK k;have hi':i < bs.length:=∅
  dsimp only[iF,wC,wT,wE,wA,wV,wG,G9];show ah #v[] rfl (ah (Ho i) (by rw[Hf]; exact lU (G5 ∅) (G5 hi')) (ah #v[] rfl ?_))
  dsimp only[eg,ay,wB];exact#[λ_=>#[#[_,rfl],#[ks++[(i:G7)],by unfold af; rw[HK]; rfl,by rw[G3]; exact KL hkl],rfl],λ_=>#[#[_,rfl],#[ks,rfl,∅],rfl]]
 ·rintro zs Z2 S2 ⟨_,⟨ks,rfl,hkl⟩,rfl⟩;rw[Hf]at hkl;have il:(af ks).length=ks.length:=GU ..;show#[few ∅,hK _ _ ?_]
  clear hK K;nofun
  dsimp only[wS,wT,wE,wA,wV,wG,G9];show ab (Em (am ag) ag) ?_;dsimp only[wB];have f4:=(f3.ka (Ka.push (o:=O.lst (af ks)))).ka (Ka.push (o:=O.lst []));have k4:=k3.trans ((Kp.push (o:=O.lst (af ks))).trans (Kp.push (o:=O.lst [])));have e4:=am (u:=O.lst []) (ag (S:=S2) (o:=O.lst (af ks)));have hl4:S2.length < (S2++[O.lst (af ks)]++[O.lst []]).length:=by simp
  generalize hS4:S2++[O.lst (af ks)]++[O.lst []]=S4 at f4 k4 e4 hl4;clear hS4;have ret:∀Q2:QO,(∀w S',Q' (.rt w,S')->Q2 (.rt w,S'))->wZ (aj defs fuel (d+5)) fuel #v[.ret (.v 3)] [ba (.ref r),ba (.int a),ba (.int n),ba (aQ ms ns bs []),gV,ba (.ref S2.length),gV,gV,gV] S4 Q2:=λQ2 hr=>st (hr _ _ (k _ _ #[a,bs,ms,ns,[],rfl,hsz,hml,hnl,hnm,.nil,λ_ h=>(nomatch h)] f4 k4))
  show#[λ_=>au (Q0:=Q') (λ_ Q2 _ hr=>ret Q2 hr) (λz=>by cases z),λhne=>?_]
  dsimp only[eg,ay,wB];show au (Q0:=Q') (λ_ Q2 _ hr=>ret Q2 hr) (λ_ Q2 hn _=>bX (hn _ _ (hK _ _ ?_)))
  clear hK ret hn;have hk0:0 < ks.length:=by
   cases ks with
   | nil=>cases hne
   | cons x ks=>exact Nat.succ_pos _
  nofun
  left;show nH e4 ?_;rw[il];show aP (d:=d+4) G.pick f4 ∅ ∅ λv S5 v0 v1 f5 k5=>?_
  have e5:=k5.get _ _ ∅ e4
  obtain⟨x,_,ex⟩:=jt (f:=W.int) (xs:=ks) (i:=v.toNat) ∅
  show jp e5 v0 ex (hK _ _ ?_);clear hK K;replace k5:Kp r S S5:=k4.trans k5;have hrt5:=f5.lt;show st ?_;dsimp only[wS,wE,G9];nofun
  show jx rfl rfl ?_;dsimp only[wE,wA,wV,wG];show aP (d:=d+4) G.pick (f5.ka .push) #v[] #v[] λv S6 v0 v9 f6 k6=>?_
  show#[v,λ_ Z S'=>(∃a4 a8,Z=[ba (.ref r),ba (.int a),ba (.int n),ba (aQ ms ns bs []),a4,ba (.ref S2.length),ba (.int x),ba (.ref S5.length),a8])/\(∃U fs,S'[S5.length]?=ba (.dic U)/\FigD (aF a bs) U fs)/\Fl S' r/\Kp r S S',rfl,∅,#[#[gV,gV,rfl],#[[],[],k6.get _ _ ∅ ag,.nil],f6,(k5.trans .push).trans k6],?_,?_]
  ·rintro i Z S7 hi ⟨⟨a4,a8,rfl⟩,⟨U,fs,e7,hd⟩,f7,k7⟩ Q2 hn _;clear hK k;show st ?_;left;show gE (d:=d+3) G f7 ∅ a3 ∅ n3 λu S8 hu3 hu f8 k8=>?_
   have hu:GoodW a bs.length u:=hbl.symm ▸ hu;have e8:=k8.get _ _ ∅ e7
   obtain⟨p0,p1,p2,rfl⟩ : ∃p0 p1 p2,u=[p0,p1,p2]:=by
    match u,hu3 with
    | [p0,p1,p2],_=>exact#[p0,p1,p2,rfl]
   have l1:=hu.len 1 p1 rfl;obtain⟨m1,ws1⟩:=p1;obtain⟨w1,rfl⟩ : ∃w1,ws1=[w1]:=by
    match ws1,l1 with
    | [w1],_=>exact#[w1,rfl]
   obtain⟨b,hb2⟩:=zn (S:=S8) (f:=x) (ws:=p2.2);have kk:=k7.trans k8;nofun
   dsimp only[wS,wT,wE,wA,wV,wG];show ah #v[] rfl (ah #v[] rfl (ah #v[] rfl ?_))
   dsimp only[FQ,ay,wB];have skip:K [ba (.ref r),ba (.int a),ba (.int n),ba (aQ ms ns bs []),ba (.int i),ba (.ref S2.length),ba (.int x),ba (.ref S5.length),ba (aS [p0,(m1,[w1]),p2])] S8:=hK _ _ (bX (hn _ _ #[#[_,_,rfl],#[U,fs,e8,hd],f8,kk]));show#[λ_=>?_,λ_=>au (Q0:=Q2) (λz=>by cases z) λ_ Q3 hn3 _=>bX (hn3 _ _ skip)]
   show ah #v[] rfl (ah #v[] rfl (ab hb2 ?_))
   dsimp only[wB];show au (Q0:=Q2) (λ_ Q3 hn3 _=>?_) λ_ Q3 hn3 _=>bX (hn3 _ _ skip)
   clear skip;show st ?_;left;show eT (d:=d+2) G hb hnl hu hu3 λS9 k9=>?_
   exact nT (k9.get _ _ e8) hd hsz hu hu3 λo ho=>bX (hn3 _ _ (hK _ _ (bX (hn _ _ #[#[_,_,rfl],ho,(f8.ka k9).own hrt5,(kk.trans (k9.kp r)).late k5.len]))))
  ·rintro Z S7 ⟨⟨a4,a8,rfl⟩,⟨U,fs,e7,hd⟩,f7,k7⟩;show hK _ _ (st ?_);left;exact nS (Q:=λp=>Q' (.rt p.1,p.2)) e7 hd hsz hml hnl hnm λw S8 hw k8=>k w S8 hw (f7.ka k8) (k7.trans (k8.kp r))
end
abbrev bg (u v:G7):T:=.tup [.int u,.int v]
abbrev cK (u v:G7):W:=.tup [.int u,.int v]
def gH {u v:G7}:ft (cK u v)=ba (bg u v):=rfl
def vS {U:GK (T×W)}{k:T}{v:W}{p:T×W}(h:p∈dP U k v):p∈U\/p=(k,v):=by
 unfold dP at h;split at h
 ·obtain⟨q,hq,rfl⟩:=Hl.mp h;split
  ·rename_i e; exact .inr (by rw[e])
  ·exact .inl hq
 ·rcases HU.mp h with h|h
  ·exact .inl h
  ·exact .inr (Hc.mp h)
def nX {U:GK (T×W)}{k:T}{v:W}(h:bR U k=ba v):(k,v)∈U:=by
 unfold bR at h;rw[GP]at h;obtain⟨p,h1,rfl⟩:=h;have:=L4 h1;rw[<- HF this];exact List.mem_of_find?_eq_some h1
def zo {U:GK (T×W)}{p:T×W}(h:p∈U):∃v,bR U p.1=ba v:=by
 unfold bR;cases e:U.find? λq=>decide (q.1=p.1)with
 | some q=>exact#[q.2,rfl]
 | none=>exact absurd (List.find?_eq_none.mp e p h) (by simp)
abbrev MustE (S:aa)(n b:GX)(U:GK (T×W)):Prop:=∀p∈U,∃(u v:G7) (l:GX) (ws:GK G7),p=(bg u v,W.ref l)/\(0<=u/\u < n)/\(0<=v/\v < n)/\b<=l/\S[l]?=ba (.lst (af ws))/\ws.length<=3/\∀w∈ws,0<=w/\w < (n:G7)
def MustE.mono {S S':aa}{n b:GX}{U:GK (T×W)}(h:MustE S n b U)(k:∀(l:GX) (ws:GK G7),b<=l->S[l]?=ba (.lst (af ws))->S'[l]?=ba (.lst (af ws))):MustE S' n b U:=λp hp=>
 let ⟨u,v,l,ws,h1,h2,h3,h4,h5,h6⟩:=h p hp
 #[u,v,l,ws,h1,h2,h3,h4,k l ws h4 h5,h6]
def MustE.ka {S S':aa}{n b:GX}{U:GK (T×W)}(h:MustE S n b U)(k:Ka S S'):MustE S' n b U:=h.mono λl ws _ e=>k.get _ _ e
def MustE.kp {S S':aa}{n b r:GX}{U:GK (T×W)}(h:MustE S n b U)(hr:r < b)(k:Kp r S S'):MustE S' n b U:=h.mono λl ws hl e=>k.get _ _ ∅ e
def MustE.set {S:aa}{n b t:GX}{U k:GK (T×W)}{o:O}(h:MustE S n b U)(ht:S[t]?=ba (.dic k)):MustE (S.set t o) n b U:=h.mono λl ws hl e=>by
 rw[bf (by rintro rfl; rw[ht]at e; cases e)]; exact e
def MustE.put {S:aa}{n b:GX}{U:GK (T×W)}{u v:G7}{l:GX}{ws:GK G7}(h:MustE S n b U)(h2:0<=u/\u < n)(h3:0<=v/\v < n)(h4:b<=l)(h5:S[l]?=ba (.lst (af ws)))(h6:ws.length<=3)(h7:∀w∈ws,0<=w/\w < (n:G7)):MustE S n b (dP U (bg u v) (.ref l)):=λp hp=>by
 rcases vS hp with hp|rfl
 ·exact h p hp
 ·exact#[u,v,l,ws,rfl,h2,h3,h4,h5,h6,h7]
noncomputable abbrev zp:=G7×G7×GK G7
abbrev nY (ws:GK G7):Es:=ws.foldr (λw es=>.cons (.c (.int w)) es) .nil
abbrev qW:GK zp->Es
 | []=>.nil
 | e::L=>.cons (.tup #v[.c (.int e.1),.c (.int e.2.1)]) (.cons (.lst (nY e.2.2)) (qW L))
abbrev sB:GK zp->GX->GK W
 | [],_=>[]
 | e::L,s=>cK e.1 e.2.1::.ref s::sB L (s+1)
abbrev sC (L:GK zp):aa:=L.map λe=>O.lst (af e.2.2)
abbrev qX (n:GX)(e:zp):Hr:=decide ((0<=e.1/\e.1 < n)/\(0<=e.2.1/\e.2.1 < n)/\e.2.2.length<=3)&&e.2.2.all λw=>decide (0<=w/\w < (n:G7))
section
variable{M:Ha->FF}{Z:Fm}
def pK {S:aa}:∀ {ws:GK G7} {Q:GK W×aa->Prop},Q (af ws,S)->wA M (nY ws) Z S Q
 | [],Q,q=>by change wA M .nil Z S Q; exact q
 | w::ws,Q,q=>by change wA M (.cons (.c (.int w)) (nY ws)) Z S Q; dsimp only[wA,wE]; exact pK q
def vT:∀ {L:GK zp} {S:aa} {Q:GK W×aa->Prop},Q (sB L S.length,S++sC L)->wA M (qW L) Z S Q
 | [],S,Q,q=>by
  change wA M .nil Z S Q;dsimp only[wA]
  rwa [show S++sC []=S from Jq S]at q
 | e::L,S,Q,q=>by
  change wA M (.cons (.tup #v[.c (.int e.1),.c (.int e.2.1)]) (.cons (.lst (nY e.2.2)) (qW L))) Z S Q;dsimp only[wA,wE];show pK (vT ?_);rw[G3,Jl];exact q
end
def kA {S:aa}{n b:GX}:∀(L:GK zp) (s:GX) (U:GK (T×W)),MustE S n b U->b<=s->(∀e∈L,qX n e=true)->(∀i e,L[i]?=ba e->S[s+i]?=ba (.lst (af e.2.2)))->∃U',cM U (sB L s)=ba U'/\MustE S n b U'/\U'.length<=U.length+L.length
 | [],s,U,hm,hb,hL,hS=>#[U,by simp[sB,cM],hm,by simp]
 | e::L,s,U,hm,hb,hL,hS=>by
  have h1:=hL e (by simp)
  unfold qX at h1;rw[GV,Hq]at h1;obtain⟨h2,h3,h4⟩:=HF h1.1;obtain⟨U',k1,k2,k3⟩:=kA L (s+1) (dP U (bg e.1 e.2.1) (.ref s)) (hm.put h2 h3 hb (by have:=hS 0 e rfl; simpa using this) h4 (λw hw=>HF (h1.2 w hw))) ∅ (λx hx=>hL x (by simp[hx])) (λi x hx=>by have:=hS (i+1) x (by simpa using hx); rw[show s+1+i=s+(i+1) by omega]; exact this)
  show#[U',?_,k2,?_]
  ·simp only[sB,cM,gH]; exact k1
  ·have:=cF U (bg e.1 e.2.1) (.ref s);rw[HH]; omega
abbrev KB:GK (GK G7):=[[1,0],[0,2,1],[0,1],[0,1,2]]
abbrev KindOk (S:aa)(b:GX)(w:W):Prop:=∃(bs:GK G7) (q:GX) (U:GK (T×W)) (most:G7),w=.tup [.tup (af bs),.ref q,.int most]/\bs∈KB/\1<=most/\most<=3/\most*bs.length<=6/\S[q]?=ba (.dic U)/\b<=q/\U.length<=4/\MustE S bs.length b U
def KindOk.mono {S S':aa}{b:GX}{w:W}(h:KindOk S b w)(k1:∀(l:GX) (ws:GK G7),b<=l->S[l]?=ba (.lst (af ws))->S'[l]?=ba (.lst (af ws)))(k2:∀(l:GX) (U:GK (T×W)),b<=l->S[l]?=ba (.dic U)->S'[l]?=ba (.dic U)):KindOk S' b w:=
 let ⟨bs,q,U,most,h1,h2,h3,h4,h5,h6,h7,h8,h9⟩:=h
 #[bs,q,U,most,h1,h2,h3,h4,h5,k2 _ _ h7 h6,h7,h8,h9.mono k1]
def KindOk.ka {S S':aa}{b:GX}{w:W}(h:KindOk S b w)(k:Ka S S'):KindOk S' b w:=h.mono (λl ws _ e=>k.get _ _ e) (λl ws _ e=>k.get _ _ e)
abbrev vU (bs:GK G7)(L:GK zp)(most:G7):E:=.tup #v[.tup (nY bs),.disp (qW L),.c (.int most)]
section
variable{M:Ha->FF}{Z:Fm}{S:aa}
def lZ (bs:GK G7)(L:GK zp)(most:G7){b:GX}{Q:QW}(hb:b<=S.length)(h1:bs∈KB)(h2:1<=most/\most<=3/\most*bs.length<=6)(hL:∀e∈L,qX bs.length e=true)(h4:L.length<=4)(k:∀w S',KindOk S' b w->Ka S S'->Q (w,S')) :
  wE M (vU bs L most) Z S Q:=by
 unfold vU;dsimp only[wE,wA];show pK (vT ?_);obtain⟨U,k1,k2,k3⟩:=kA (S:=S++[O.dic []]++sC L) (n:=bs.length) (b:=b) L (S.length+1) [] (λ_ h=>nomatch h) ∅ hL (λi e he=>by
  rw[JC (by simp),show S.length+1+i - (S++[O.dic []]).length=i by simp]
  simp[sC,he])
 have hat:(S++[O.dic []]++sC L)[S.length]?=ba (.dic []):=by
  rw[HL (by simp)]; exact ag
 show#[hat,ab (show cM [] (sB L (S++[O.dic []]).length)=ba U by rw[G3]; exact k1) (k _ _ #[bs,S.length,U,most,rfl,h1,h2.1,h2.2.1,h2.2.2,bJ hat,hb,?_,k2.set hat] #[λj o h=>?_,by simp])]
 ·simp only[IP]at k3; omega
 ·have:j < S.length:=dk h;show((S++[O.dic []]++sC L).set S.length (O.dic U))[j]?=ba o;rw[bf ∅,HL (by simp; omega)]
  exact am h
structure Menu (S0 S:aa)(r t m:GX):Prop where
 at_t:∃xs:GK W,S[t]?=ba (.lst xs)/\xs.length=m/\∀x∈xs,KindOk S S0.length x
 pos:0 < m
 few:m<=9
 fl:Fl S r
 kp:Kp r S0 S
 lt:S0.length<=t
 rlt:r < S0.length
def nZ {S0 S S':aa}{r t m:GX}{w:W}(h:Menu S0 S r t m)(hw:KindOk S' S0.length w)(k:Ka S S')(hm:m < 9):∃xs,S'[t]?=ba (.lst xs)/\xs.length < sizeLine/\Menu S0 (S'.set t (.lst (xs++[w]))) r t (m+1):=by
 obtain⟨⟨xs,h1,h2,h3⟩,hp,hf,fl,kp,lt,rlt⟩:=h;have e:S'[t]?=ba (.lst xs):=k.get _ _ h1;have stay:∀x,KindOk S' S0.length x->KindOk (S'.set t (.lst (xs++[w]))) S0.length x:=λx hx=>hx.mono (λl ws hl el=>by
  by_cases hlt:t=l
  ·exfalso;subst hlt;rw[e]at el;injection el with el
   injection el with el
   match xs,h2,h3 with
   | [],h2,_=>simp at h2; omega
   | x::xs,_,h3=>
    obtain⟨bs,q,U,most,hx,_⟩:=h3 x (by simp)
    subst hx
    match ws with
    | []=>simp[af]at el
    | w::ws=>simp[af]at el
  ·rw[bf hlt]; exact el) (λl U hl el=>by
  rw[bf (by rintro rfl; rw[e]at el; cases el)]; exact el)
 show#[xs,e,(by rw[HV]; omega),#[xs++[w],bJ e,by simp; omega,λx hx=>?_],∅,∅,(fl.ka k).own ∅,(kp.trans (k.kp r)).late lt,lt,rlt]
 rcases HU.mp hx with hx|hx
 ·exact stay x ((h3 x hx).ka k)
 ·rw[Hc.mp hx]; exact stay w hw
def n0 (bs:GK G7)(L:GK zp)(most:G7){fuel:GX}{S0:aa}{r t m:GX}{x0:GR W}{K:Fm->aa->Prop}{Q:QO}(h:Menu S0 S r t m)(hm:m < 9)(h1:bs∈KB)(h2:1<=most/\most<=3/\most*bs.length<=6)(hL:∀e∈L,qX bs.length e=true)(h4:L.length<=4)(k:∀S',Menu S0 S' r t (m+1)->K [x0,ba (.ref t)] S') :
  wS M fuel (.ex (.me .append (.v 1) #v[vU bs L most])) [x0,ba (.ref t)] S K Q:=by
 left;obtain⟨xs,e1,e2,e3⟩:=h.at_t;show#[ei e1,lZ bs L most (Hz h.lt (Kw (dk e1))) h1 h2 hL h4 λw S' k1 k2=>?_]
 obtain⟨xs',f1,f2,f3⟩:=nZ h k1 k2 hm;exact ab (qM f1 f2) (k _ f3)
def jJ {defs:GK (Ha×Df)}{fuel d:GX}{r:GX}{Q:QW}(G:Gen defs)(hf:Fl S r)(k:∀w S',KindOk S' S.length w->Fl S' r->Kp r S S'->Q (w,S')):wO (aL (aj defs fuel (d+2)) "_law_laying_kind" 1 [.ref r] S) Q:=by
 show ak G.laying_kind rfl rfl λQ' hR=>?_
 replace k:∀w S',KindOk S' S.length w->Fl S' r->Kp r S S'->Q' (.rt w,S'):=λz S' a b c=>hR _ _ (k z S' a b c)
 clear hR;change wZ _ _ bu [ba (.ref r),gV] S Q';have hrt:=hf.lt;unfold bu;nofun
 show Ej ?_;change wA _ _ _ _ _; change wE _ _ _ _ _
 show lZ [1,0] [(0,0,[0])] 3 (b:=S.length) (G2 _) #v[] #v[] #v[] #v[] λw1 S1 k1 a1=>?_
 change wE _ _ _ _ _;show lZ [0,2,1] [(1,1,[1])] 2 (b:=S.length) a1.len #v[] #v[] #v[] #v[] λw2 S2 k2 a2=>?_
 have a12:=a1.trans a2;change wE _ _ _ _ _;show lZ [0,1] [(1,1,[1])] 3 (b:=S.length) a12.len #v[] #v[] #v[] #v[] λw3 S3 k3 a3=>?_
 have a13:=a12.trans a3;dsimp only[wA];show hK _ _ ?_;clear hK K;have m3:Menu S (S3++[O.lst [w1,w2,w3]]) r S3.length 3:=by
  show#[#[[w1,w2,w3],ag,rfl,λx hx=>?_],#v[],#v[],(hf.ka a13).ka .push,(a13.trans .push).kp r,a13.len,hrt]
  rcases Hj.mp hx with rfl|hx
  ·exact(k1.ka (a2.trans a3)).ka .push
  ·rcases Hj.mp hx with rfl|hx
   ·exact(k2.ka a3).ka .push
   ·rw[Hc.mp hx];exact k3.ka .push
 dsimp only[G9];clear k1 k2 k3 a1 a2 a3 a12 a13;generalize S3.length=t at m3;generalize S3++[O.lst [w1,w2,w3]]=S3' at m3;show aG λK hK=>n0 [0,1] [(1,1,[1]),(0,0,[1])] 3 m3 #v[] #v[] #v[] #v[] #v[] λS4 m4=>hK _ _ ?_
 show aG λK hK=>n0 [0,1] [(1,1,[])] 1 m4 #v[] #v[] #v[] #v[] #v[] λS5 m5=>hK _ _ ?_
 show aG λK hK=>n0 [0,2,1] [(0,0,[0]),(0,1,[1]),(1,0,[1]),(1,1,[1])] 2 m5 #v[] #v[] #v[] #v[] #v[] λS6 m6=>hK _ _ ?_
 nofun
 left;obtain⟨xs,e1,e2,e3⟩:=m6.at_t;obtain⟨xs',f1,f2,m7⟩:=nZ (S':=S6++[O.dic []]) (w:=.tup [.tup (af [1,0]),.ref S6.length,.int 3]) m6 #[[1,0],S6.length,[],3,rfl,#v[],#v[],#v[],#v[],ag,m6.kp.len,#v[],λ_ h=>(nomatch h)] .push #v[]
 show#[ei e1,ab (qM f1 f2) (hK _ _ ?_)];show aG λK hK=>n0 [0,1,2] [(2,2,[2]),(1,2,[1]),(2,1,[1]),(1,1,[1,2])] 2 m7 #v[] #v[] #v[] #v[] #v[] λS8 m8=>hK _ _ ?_
 show aG λK hK=>n0 [0,1,2] [(0,0,[0,1])] 2 m8 #v[] #v[] #v[] #v[] #v[] λS9 m9=>hK _ _ ?_
 show st ?_;left;show aP (d:=d) G.pick m9.fl #v[] #v[] λv S10 v0 v9 f10 k10=>?_
 obtain⟨xs,g1,g2,g3⟩:=m9.at_t;have hlt:=m9.lt;have hv:v.toNat < xs.length:=∅
 exact jp (k10.get _ _ ∅ g1) v0 (G5 hv) (k _ _ ((g3 _ (HP hv)).mono (λl ws hl e=>k10.get _ _ ∅ e) (λl ws hl e=>k10.get _ _ ∅ e)) f10 (m9.kp.trans k10))
end
abbrev n6 (bs:GK G7):GK (GK G7):=if bs=[0,1,2]then[[0,1,2],[0,2,1],[1,0,2],[1,2,0],[2,0,1],[2,1,0]]else if bs.length=2 then[[0,1],[1,0]]else[[0,1,2],[0,2,1],[2,0,1],[2,1,0]]
abbrev fH (bs nm:GK G7):GX->GK G7
 | 0=>HB bs.length 0
 | k+1=>(fH bs nm k).set (nm.getD k 0).toNat (nm.getD (bs.getD k 0).toNat 0)
def io (bs nm:GK G7):∀k,(fH bs nm k).length=bs.length
 | 0=>by simp[fH]
 | k+1=>by simp[fH,io bs nm k]
def zq:∀bs∈KB,∀nm∈n6 bs,nm.length=bs.length/\(∀x∈nm,0<=x/\x < (bs.length:G7))/\(∀x∈bs,0<=x/\x < (bs.length:G7))/\GoodB (fH bs nm bs.length):=by
 unfold GoodB;decide +kernel
def vV:∀bs∈KB,(bs.length=2\/bs.length=3)/\0 < (n6 bs).length/\(n6 bs).length < 10:=by decide
section
variable{M:Ha->FF}{fuel:GX}{Z:Fm}{S:aa}{K:Fm->aa->Prop}{Q:QO}
def zr {tg:Tg}{e:E}{b:Ss}(r:GX)(U:GK (T×W))(I:GX->Fm->aa->Prop)(oe:bW e=true)(ok:fR b=true)(he:wE M e Z S λp=>p.1=.ref r/\p.2[r]?=ba (.dic U)/\I 0 Z (p.2.set r (.frd U)))
  (hstep:∀(i:GX) (p:T×W) (Z:Fm) (S:aa),U[i]?=ba p->I i Z S->wO (gO tg p.1.w Z S) λq=>vA M fuel b q.1 q.2 (I (i+1)) Q) (hend:∀Z S,I U.length Z S->K Z S):Wp (eW M fuel (.loop tg (.seq e) b) Z S) (pE K Q):=by
 obtain⟨w,S1,e1,rfl,e2,h0⟩:=aV oe he;show ig (mi:=.its (U.map λp=>p.1.w)) (S1:=S1.set r (.frd U)) (xs:=U.map λp=>p.1.w) I ok (by simp only[fO,cN,e1,lQ e2,cx e2]) (λ_ _ _ _=>rfl) rfl h0 (λi w Z S hw hI=>?_) λZ S hI=>hend Z S (by rwa [GU]at hI)
 rw[G1,GP]at hw;obtain⟨p,hp,rfl⟩:=hw;exact hstep i p Z S hp hI
end
section
variable{defs:GK (Ha×Df)}{fuel d:GX}{S:aa}{r:GX}{Q:QW}
def En {i n:GX}{x:W}(h:S[i]?=ba (.lst [x]))(hn:n<=1000)(q:Q (.ref S.length,S++[.lst (HB n x)])):wO (eI .mul (.ref i) (.int (n:G7)) S) Q:=by
 show ab ?_ q;have:n<=sizeLine:=few hn;simp only[eI,tP,eh h];rw[Hk #[∅,∅,by simpa using this]]
 unfold jG;simp[this]
def kB {q:GX}{U:GK (T×W)}{u v:G7}{w:W}(h:gU S q=ba U)(hg:bR U (bg u v)=ba w):mj (.ref q) (.tup [.int u,.int v]) S=ba (w,S):=by
 have hk:ft (.tup [.int u,.int v])=ba (bg u v):=gH;simp only[mj,h,hk,hg,HC]
def vW {q:GX}{U:GK (T×W)}{u v:G7}{w:W}(h:S[q]?=ba (.dic U))(hl:U.length < sizeLine):gk (.ref q) (.tup [.int u,.int v]) w S=ba (S.set q (.dic (dP U (bg u v) w))):=by
 have hk:ft (.tup [.int u,.int v])=ba (bg u v):=gH;simp only[gk,lv,h,hk];rw[Hk hl]
def ip {xs:GK G7}{x:G7}(h0:0<=x)(h1:x.toNat < xs.length):(af xs)[x.toNat]?=ba (.int (xs.getD x.toNat 0)):=by
 unfold af;rw[G1,aA (d:=0) h1]; rfl
def eU {xs:GK G7}{i:GX}(h:i < xs.length):xs.getD i 0∈xs:=He (aA (d:=0) h)
def jK (G:Gen defs){Q:QO}{bs:GK G7}{x0 x2:GR W}(hb:bs∈KB)
  (hk:∀(m s:GX) (S':aa),Ka S S'->S'[s]?=ba (.lst ((n6 bs).map λnm=>W.tup (af nm)))->S.length<=s->wZ (aj defs fuel (d+1)) fuel (dr 5 aW) [x0,ba (.tup (af bs)),x2,ba (.int bs.length),ba (.ref m),ba (.ref s),gV,gV,gV,gV,gV,gV] S' Q) :
  wZ (aj defs fuel (d+1)) fuel aW [x0,ba (.tup (af bs)),x2,gV,gV,gV,gV,gV,gV,gV,gV,gV] S Q:=by
 generalize hd5:dr 5 aW=bB at hk;unfold aW at hd5 ⊢;dsimp only[dr]at hd5;rw[hd5];clear hd5;nofun
 left;show bp ?_;rw[show(af bs).length=bs.length from GU ..]
 show hK _ _ ?_;clear hK K;nofun
 left;have hm:(((S++[O.lst [.tup [.int 0]]])++[O.lst [.tup [.int 0,.int 1],.tup [.int 1,.int 0]]])++[O.lst [.ref S.length,.ref (S++[O.lst [.tup [.int 0]]]).length]])[((S++[O.lst [.tup [.int 0]]])++[O.lst [.tup [.int 0,.int 1],.tup [.int 1,.int 0]]]).length]?=ba (.lst [.ref S.length,.ref (S++[O.lst [.tup [.int 0]]]).length]):=ag;show hK _ _ ?_;clear hK K;generalize hS1:S++[O.lst [.tup [.int 0]]]=S1 at hm ⊢;generalize hS2:S1++[O.lst [.tup [.int 0,.int 1],.tup [.int 1,.int 0]]]=S2 at hm ⊢;generalize hS3:S2++[O.lst [.ref S.length,.ref S1.length]]=S3 at hm ⊢;have l1:S1.length=S.length+1:=by rw[<- hS1]; simp
 have l2:S2.length=S1.length+1:=by rw[<- hS2]; simp
 have l3:S3.length=S2.length+1:=by rw[<- hS3]; simp
 have kS2:Ka S S2:=by rw[<- hS2,<- hS1]; exact Ka.push.trans .push
 nofun
 left;show#[ei hm,nG (am hm) (by decide:2 < 1000) (hK _ _ ?_)]
 clear hK K;generalize hS5:(S3++[O.lst [.tup [.int 0,.int 1,.int 2],.tup [.int 0,.int 2,.int 1],.tup [.int 2,.int 0,.int 1],.tup [.int 2,.int 1,.int 0]]]).set S2.length (.lst ([.ref S.length,.ref S1.length]++[.ref S3.length]))=S5;have k5:Ka S S5:=by
  rw[<- hS5,<- hS3];exact Ka.late (kS2.trans (Ka.push.trans .push)) ∅
 have m5:S5[S2.length]?=ba (.lst [.ref S.length,.ref S1.length,.ref S3.length]):=by
  rw[<- hS5]; exact bJ (am hm)
 have p5:S5[S1.length]?=ba (.lst [.tup [.int 0,.int 1],.tup [.int 1,.int 0]]):=by
  rw[<- hS5,bf ∅,<- hS3,<- hS2]
  exact am (am ag)
 have t5:S5[S3.length]?=ba (.lst [.tup [.int 0,.int 1,.int 2],.tup [.int 0,.int 2,.int 1],.tup [.int 2,.int 0,.int 1],.tup [.int 2,.int 1,.int 0]]):=by
  rw[<- hS5,bf ∅]
  exact ag
 have h1:S.length<=S1.length:=∅
 have h3:S.length<=S3.length:=∅
 clear hS1 hS2 hS3 hS5 hm l1 l2 l3 kS2;nofun
 dsimp only[wS,wE,wA,wV,wG,G9,qL,ay];have hb':bs=[1,0]\/bs=[0,2,1]\/bs=[0,1]\/bs=[0,1,2]:=by simpa [KB]using hb
 rcases hb' with rfl|rfl|rfl|rfl
 ·show dC (i:=1) m5 rfl (hK _ _ (aG λK hK=>cq (λQ q=>q) (hK _ _ (hk _ _ _ k5 p5 h1))))
 ·show dC (i:=2) m5 rfl (hK _ _ (aG λK hK=>cq (λQ q=>q) (hK _ _ (hk _ _ _ k5 t5 h3))))
 ·show dC (i:=1) m5 rfl (hK _ _ (aG λK hK=>cq (λQ q=>q) (hK _ _ (hk _ _ _ k5 p5 h1))))
 ·show dC (i:=2) m5 rfl (hK _ _ (aG λK hK=>jq (λQ q=>q) λQ2 hn _=>?_))
  show st ?_;left;exact lW (d:=d) G (bX (hn _ _ (hK _ _ (hk _ _ _ (k5.trans .push) ag k5.len))))
def pL (G:Gen defs){S0:aa}{bs:GK G7}{q:GX}{U:GK (T×W)}(hb:bs∈KB)(hf:Fl S r)(hr:r < S0.length)(kp:Kp r S0 S)(hq:S[q]?=ba (.dic U))(hq0:S0.length<=q)(h4:U.length<=4)(hm:MustE S bs.length S0.length U)
  (k:∀(bs':GK G7) (q':GX) (U':GK (T×W)) S',GoodB bs'->bs'.length=bs.length->S'[q']?=ba (.dic U')->S0.length<=q'->MustE S' bs.length S0.length U'->Fl S' r->Kp r S0 S'->Q (.tup [.tup (af bs'),.ref q'],S')) :
  wO (aL (aj defs fuel (d+2)) "_law_numbered" 3 [.ref r,.tup (af bs),.ref q] S) Q:=by
 show ak G.numbered rfl rfl λQ' hR=>?_
 replace k:∀(bs':GK G7) (q':GX) (U':GK (T×W)) S',GoodB bs'->bs'.length=bs.length->S'[q']?=ba (.dic U')->S0.length<=q'->MustE S' bs.length S0.length U'->Fl S' r->Kp r S0 S'->Q' (.rt (.tup [.tup (af bs'),.ref q']),S'):=λa b c e f g h i j l m=>hR _ _ (k a b c e f g h i j l m)
 clear hR;show jK (d:=d) G hb ?_;intro m s S1 k1 e1 hs;dsimp only[dr,aW];have hrt:=hf.lt;obtain⟨hb1,hb2,hb3⟩:=vV bs hb;nofun
 left;show nH e1 ?_;rw[GU];show aP (d:=d) G.pick (hf.ka k1) ∅ ∅ λv S2 v0 v1 f2 k2=>?_
 obtain⟨nm,hnmm,enm⟩:=jt (f:=λnm=>W.tup (af nm)) (xs:=n6 bs) (i:=v.toNat) ∅
 obtain⟨n1,n2,n3,n4⟩:=zq bs hb nm hnmm;show jp (k2.get _ _ ∅ e1) v0 enm (hK _ _ ?_)
 clear hK K;nofun
 left;show En ag ∅ (hK _ _ ?_)
 clear hK K;generalize hS4:S2++[O.lst [.int 0]]=S4;have k24:Ka S2 S4:=hS4 ▸ .push;have f4:Fl S4 r:=f2.ka k24;have kp4:Kp r S0 S4:=(kp.trans (k1.kp r)).trans (k2.trans (k24.kp r));have q4:S4[q]?=ba (.dic U):=k24.get _ _ (k2.get _ _ ∅ (k1.get _ _ hq))
 have m4:MustE S4 bs.length S0.length U:=((hm.ka k1).kp hr k2).ka k24;clear hS4 k24 hm hq f2 k2 k1 e1 enm hf;nofun
 show gB (bs.length:G7) (λk Z S'=>(∃x8,Z=[ba (.ref r),ba (.tup (af bs)),ba (.ref q),ba (.int bs.length),ba (.ref m),ba (.ref s),ba (.tup (af nm)),ba (.ref S4.length),x8,gV,gV,gV])/\S'[S4.length]?=ba (.lst (af (fH bs nm k)))/\Ka S4 S') rfl rfl ∅ #[rfl,#[_,rfl],?_,.push] ?_ ?_
 ·rw[ag]; simp[fH,af]
 ·rintro i Z S5 hi ⟨⟨x8,rfl⟩,e5,k5⟩ Q2 hn _;clear hK k;have hi':i < bs.length:=∅
  have hi1:i < nm.length:=∅
  have c:=n3 _ (eU hi');have c2:=n2 _ (eU hi1);show st ?_;left;show ah (Ho i) (ip (Ho i) hi') (ah c.1 (ip c.1 (by rw[Hf]; omega)) (ah (Ho i) (ip (Ho i) hi1) ?_))
  rw[Hf];show ab (Aa e5 c2.1 (by rw[show(af (fH bs nm i)).length=_ from GU ..,io]; omega)) (bX (hn _ _ #[#[_,rfl],?_,k5.late (G2 _)]))
  rw[bJ e5];unfold af;rw[fH,List.map_set]
 ·rintro Z S5 ⟨⟨x8,rfl⟩,e5,k5⟩;rw[Hf]at e5;show hK _ _ (st ?_);clear hK K;dsimp only[wS,wE,G9];have f5:Fl S5 r:=f4.ka k5;have q5:S5[q]?=ba (.dic U):=k5.get _ _ q4;have m5:MustE S5 bs.length S0.length U:=m4.ka k5;have kp5:Kp r S0 S5:=kp4.trans (k5.kp r);have hq5:=dk q5;have ht5:=dk e5;have hqt:q≠S4.length:=by rintro rfl; rw[e5]at q5; cases q5
  have hn9:(bs.length:G7)<=3:=∅
  have hr5:=f5.lt;clear k5 m4 q4 f4;nofun
  show zr q U (λk Z S'=>(∃x10 x11,Z=[ba (.ref r),ba (.tup (af bs)),ba (.ref q),ba (.int bs.length),ba (.ref m),ba (.ref s),ba (.tup (af nm)),ba (.ref S4.length),x8,ba (.ref S5.length),x10,x11])/\S'[q]?=ba (.frd U)/\MustE S' bs.length S0.length U/\S'[S4.length]?=ba (.lst (af (fH bs nm bs.length)))/\(∃U',S'[S5.length]?=ba (.dic U')/\U'.length<=k/\MustE S' bs.length S0.length U')/\Fl S' r/\Kp r S0 S') rfl rfl #[rfl,am q5,#[gV,gV,rfl],bJ (am q5),(m5.ka .push).set (am q5),?_,#[[],?_,G2 _,λ_ h=>(nomatch h)],(f5.ka .push).own ∅,(kp5.trans .push).late hq0] ?_ ?_
  ·rw[bf hqt]; exact am e5
  ·rw[bf ∅]; exact ag
  ·rintro i p Z S6 hp ⟨⟨x10,x11,rfl⟩,q6,m6,t6,⟨U',o6,l6,mm6⟩,f6,kp6⟩;clear hK k;have hpm:=He hp;have hil:=(G8.mp hp).1;obtain⟨u,v',l,ws,rfl,hu,hv',hl,hws,hl3,hw3⟩:=m6 p hpm;obtain⟨g,hg⟩:=zo hpm;obtain⟨u2,v2,l2,ws2,he2,_,_,hl2,hws2,hl32,hw32⟩:=m6 _ (nX hg);injection he2 with _ he2
   subst he2;have hul:u.toNat < nm.length:=∅
   have hvl:v'.toNat < nm.length:=∅
   show ab (show gO (.tp [10,11]) (bg u v',W.ref l).1.w [ba (.ref r),ba (.tup (af bs)),ba (.ref q),ba (.int bs.length),ba (.ref m),ba (.ref s),ba (.tup (af nm)),ba (.ref S4.length),x8,ba (.ref S5.length),x10,x11] S6=ba ([ba (.ref r),ba (.tup (af bs)),ba (.ref q),ba (.int bs.length),ba (.ref m),ba (.ref s),ba (.tup (af nm)),ba (.ref S4.length),x8,ba (.ref S5.length),ba (.int u),ba (.int v')],S6)from rfl) λQ2 hn _=>?_
   show st ?_;left;show qO l2 (af ws2) (λi zs Z2 S7=>(∃a1,Z2=[gV,a1,ba (.tup (af nm))])/\zs=af ((ws2.take i).map λw=>nm.getD w.toNat 0)/\S7=S6) rfl rfl rfl ?_ ?_ ?_ ?_
   ·dsimp only[wE,wA,wV,wG];exact ab (kB (y4 q6) hg) #[rfl,#[_,rfl],rfl,rfl]
   ·rintro i zs Z2 S7 ⟨_,_,rfl⟩;exact hws2
   ·rintro i w zs Z2 S7 hw ⟨⟨a1,rfl⟩,rfl,rfl⟩;unfold af at hw;rw[G1,GP]at hw;obtain⟨x,hx,rfl⟩:=hw;obtain⟨x0,x1⟩:=hw32 x (He hx);have hxl:x.toNat < nm.length:=∅
    show ab (show gO (.nm 1) (.int x) [gV,a1,ba (.tup (af nm))] S7=ba ([gV,ba (.int x),ba (.tup (af nm))],S7)from rfl) ?_
    dsimp only[iF,wC,wE,wA,wV,wG];show#[λ_=>ah x0 (ip x0 hxl) #[#[_,rfl],?_,rfl],λz=>by cases z]
    rw[IL,hx];simp[af]
   ·rintro zs Z2 S7 ⟨_,rfl,rfl⟩;rw[show(af ws2).length=ws2.length from GU ..,Jd]
    show#[few (by simp[af]; omega),ah hu.1 (ip hu.1 hul) (ah hv'.1 (ip hv'.1 hvl) ?_)]
    show ab (vW (am o6) (by rw[HV]; omega)) (bX (hn _ _ #[#[_,_,rfl],?_,(m6.ka .push).set (am o6),?_,#[_,bJ (am o6),?_,?_],(f6.ka .push).own ∅,(kp6.trans .push).late kp5.len]))
    ·rw[bf ∅]; exact am q6
    ·rw[bf ∅]; exact am t6
    ·exact Hz (cF ..) (KL l6)
    ·show((mm6.ka .push).put (n2 _ (eU hul)) (n2 _ (eU hvl)) kp6.len ag (by simp; omega) ?_).set (am o6)
     intro w hw;obtain⟨x,hx,rfl⟩:=Hl.mp hw;obtain⟨x0,x1⟩:=hw32 x hx;exact n2 _ (eU ∅)
  ·rintro Z S6 ⟨⟨x10,x11,rfl⟩,q6,m6,t6,⟨U',o6,l6,mm6⟩,f6,kp6⟩;show hK _ _ (st ?_);left;exact eS t6 (k _ _ U' _ n4 (io _ _ _) o6 kp5.len mm6 f6 kp6)
end
abbrev sD (x y z:G7):GK (T×W):=[(bg 1 0,.int x),(bg 2 0,.int y),(bg 2 1,.int z)]
abbrev zt (x y z a b c:G7):GX->GK (T×W)
 | 0=>sD x y z
 | 1=>sD x y z++[(bg 0 1,.int a)]
 | 2=>sD x y z++[(bg 0 1,.int a),(bg 0 2,.int b)]
 | _=>sD x y z++[(bg 0 1,.int a),(bg 0 2,.int b),(bg 1 2,.int c)]
def B7 {n x y z a b c:G7}(hx:0<=x/\x < n)(hy:0<=y/\y < n)(hz:0<=z/\z < n)(ha:0<=a/\a < n)(hb:0<=b/\b < n)(hc:0<=c/\c < n):∀i j:GX,i < 3->j < 3->i≠j->∃p:G7,bR (zt x y z a b c 3) (bg i j)=ba (.int p)/\0<=p/\p < n:=by
 intro i j hi hj hij
 match i,j,hi,hj,hij with
 | 0,0,_,_,h=>exact absurd rfl h
 | 0,1,_,_,_=>exact#[a,by rfl,ha]
 | 0,2,_,_,_=>exact#[b,by rfl,hb]
 | 1,0,_,_,_=>exact#[x,by rfl,hx]
 | 1,1,_,_,h=>exact absurd rfl h
 | 1,2,_,_,_=>exact#[c,by rfl,hc]
 | 2,0,_,_,_=>exact#[y,by rfl,hy]
 | 2,1,_,_,_=>exact#[z,by rfl,hz]
 | 2,2,_,_,h=>exact absurd rfl h
def og:∀t∈aB,t.length=3/\t.getD 0 0 < 3/\t.getD 1 0 < 3/\t.getD 2 0 < 3/\t.getD 0 0≠t.getD 1 0/\t.getD 1 0≠t.getD 2 0/\t.getD 0 0≠t.getD 2 0:=by decide
def vX {t:GK GX}(h:t∈aB):∃i j k:GX,t=[i,j,k]/\i < 3/\j < 3/\k < 3/\i≠j/\j≠k/\i≠k:=by
 obtain⟨h1,h2⟩:=og t h
 match t,h1,h2 with
 | [i,j,k],_,h2=>exact#[i,j,k,rfl,h2]
section
variable{defs:GK (Ha×Df)}{fuel d:GX}{S:aa}{r:GX}{Q:QW}
def vY {l:GX}{f:G7}{ws:GK G7}(h:S[l]?=ba (.lst (af ws))):∃b,bS .notin (.int f) (.ref l) S=ba (.bl b,S):=by
 have hf:(bH (.int f)&&(af ws).all bH)=true:=by
  (dsimp only[bH]; simp only[Lx,Hq])
  intro x hx;obtain⟨z,_,rfl⟩:=Hl.mp hx;rfl
 show#[!(af ws).any λz=>wX z (.int f),?_]
 (dsimp only[bS,ue,cg,oE,wY,dE]; simp only[lP h,ap h,hf,JQ,HC])
def B8 {q:GX}{U:GK (T×W)}(h:S[q]?=ba (.dic U)):tyOk "dict" S (.ref q)=true:=by simp[tyOk,cx h]
def zu {q:GX}{U:GK (T×W)}(h:S[q]?=ba (.dic U))(k:Q (.ref S.length,S++[.lst (U.map λp=>p.1.w)])):wO (Bi.list.fn [.ref q] S) Q:=by
 show ab ?_ k;have h1:xX S q=gV:=by simp[xX,h]
 have h2:jV [.ref q] S=gV:=by(dsimp only[jV,ga,dE]; simp[h1,lQ h])
 simp only[Bi.fn,yS,h2,j4,cx h]
def vZ (G:Gen defs){bs:GK G7}{q b0:GX}{U:GK (T×W)}{x y z:G7}(hb:GoodB bs)(hx:0<=x/\x < bs.length)(hy:0<=y/\y < bs.length)(hz:0<=z/\z < bs.length)(hq:S[q]?=ba (.dic U))(hm:MustE S bs.length b0 U)
  (k:∀b S',Ka S S'->Q (.bl b,S')):wO (aL (aj defs fuel (d+2)) "_law_breaks" 5 [.tup (af bs),.ref q,.int x,.int y,.int z] S) Q:=by
 show ak G.breaks rfl rfl λQ' hR=>?_
 replace k:∀b S',Ka S S'->Q' (.rt (.bl b),S'):=λa b c=>hR _ _ (k a b c)
 clear hR;change wZ _ _ cW [ba (.tup (af bs)),ba (.ref q),ba (.int x),ba (.int y),ba (.int z),gV,gV,gV,gV,gV] S Q';obtain⟨a,ha1,ha⟩:=hb.rng x.toNat ∅
 obtain⟨b,hb1,hb2⟩:=hb.rng y.toNat ∅
 obtain⟨c,hc1,hc⟩:=hb.rng z.toNat ∅
 have hqt:=dk hq;unfold cW;nofun
 left;show#[ag,ab (show cM [] [.tup [.int 1,.int 0],.int x,.tup [.int 2,.int 0],.int y,.tup [.int 2,.int 1],.int z]=ba (sD x y z)from rfl) (hK _ _ ?_)]
 clear hK K;have e1:((S++[O.dic []]).set S.length (.dic (sD x y z)))[S.length]?=ba (.dic (sD x y z)):=bJ ag;have k1:Ka S ((S++[O.dic []]).set S.length (.dic (sD x y z))):=Ka.push.late (G2 _);have l1:((S++[O.dic []]).set S.length (.dic (sD x y z))).length=S.length+1:=by simp
 generalize(S++[O.dic []]).set S.length (.dic (sD x y z))=S1 at e1 k1 l1 ⊢;nofun
 show dz rfl rfl ?_;dsimp only[wE,wA,wV,wG];show zu e1 #[S1.length,[cK 1 0,cK 2 0,cK 2 1],(λk Z S'=>(∃x6,Z=[ba (.tup (af bs)),ba (.ref q),ba (.int x),ba (.int y),ba (.int z),ba (.ref S.length),x6,gV,gV,gV])/\S'[S.length]?=ba (.dic (zt x y z a b c k))/\S'[S1.length]?=ba (.lst [cK 1 0,cK 2 0,cK 2 1])/\Ka S S'),rfl,#[#[_,rfl],am e1,ag,k1.trans .push],λi Z S' h=>h.2.2.1,?_,?_]
 ·have step:∀(u v f g:G7) (kv kv':GK (T×W)) (S':aa) (i:GX),bR kv (bg u v)=ba (.int f)->0<=f->bs[f.toNat]?=ba g->kv.length < 10->dP kv (bg v u) (.int g)=kv'->zt x y z a b c (i+1)=kv'->∀x6:GR W,S'[S.length]?=ba (.dic kv)->S'[S1.length]?=ba (.lst [cK 1 0,cK 2 0,cK 2 1])->Ka S S'->
    wO (gO (.nm 6) (cK u v) [ba (.tup (af bs)),ba (.ref q),ba (.int x),ba (.int y),ba (.int z),ba (.ref S.length),x6,gV,gV,gV] S') λp=>vA (aj defs fuel (d+1)) fuel #v[.put (.v 5) (.tup #v[.ix (.v 6) (.c (.int 1)),.ix (.v 6) (.c (.int 0))]) (.ix (.v 0) (.ix (.v 5) (.v 6)))] p.1 p.2 (λZ S'=>(∃x6,Z=[ba (.tup (af bs)),ba (.ref q),ba (.int x),ba (.int y),ba (.int z),ba (.ref S.length),x6,gV,gV,gV])/\S'[S.length]?=ba (.dic (zt x y z a b c (i+1)))/\S'[S1.length]?=ba (.lst [cK 1 0,cK 2 0,cK 2 1])/\Ka S S') Q':=by
   clear hK k;intro u v f g kv kv' S' i h1 h2 h3 h4 h5 h6 x6 e e' k;show ab (show gO (.nm 6) (cK u v) [ba (.tup (af bs)),ba (.ref q),ba (.int x),ba (.int y),ba (.int z),ba (.ref S.length),x6,gV,gV,gV] S'=ba ([ba (.tup (af bs)),ba (.ref q),ba (.int x),ba (.int y),ba (.int z),ba (.ref S.length),ba (cK u v),gV,gV,gV],S')from rfl) λQ2 hn _=>?_
   show st ?_;left;show ab (kB (cx e) h1) (ah h2 (w:=.int g) (by unfold af; rw[G1,h3]; rfl) (ah #v[] rfl (ah #v[] rfl ?_)))
   show ab (vW e (by rw[HV]; omega)) (bX (hn _ _ #[#[_,rfl],?_,?_,k.late (G2 _)]))
   ·rw[bJ e,h5,h6]
   ·rw[bf ∅]; exact e'
  rintro i w Z S2 hw ⟨⟨x6,rfl⟩,e2,l2,k2⟩
  match i,hw,e2 with
  | 0,hw,e2=>cases hw; exact step 1 0 x a _ _ S2 0 (by rfl) hx.1 ha1 (by simp[zt,sD]) (by rfl) (by rfl) x6 e2 l2 k2
  | 1,hw,e2=>cases hw; exact step 2 0 y b _ _ S2 1 (by rfl) hy.1 hb1 (by simp[zt,sD]) (by rfl) (by rfl) x6 e2 l2 k2
  | 2,hw,e2=>cases hw; exact step 2 1 z c _ _ S2 2 (by rfl) hz.1 hc1 (by simp[zt,sD]) (by rfl) (by rfl) x6 e2 l2 k2
  | n+3,hw,_=>simp at hw
 ·rintro Z S2 ⟨⟨x6,rfl⟩,e2,l2,k2⟩;have hv:=B7 hx hy hz ha hb2 hc;have e2:S2[S.length]?=ba (.dic (zt x y z a b c 3)):=e2;show hK _ _ ?_;clear hK K;have hlt2:=dk e2;nofun
  show dz rfl rfl ?_;dsimp only[wE,wA,wV,wG];show lW (d:=d) G #[S2.length,aB.map (λt=>W.tup (aw t)),(λk Z S'=>(∃x7 x8 x9,Z=[ba (.tup (af bs)),ba (.ref q),ba (.int x),ba (.int y),ba (.int z),ba (.ref S.length),x6,x7,x8,x9])/\S'[S.length]?=ba (.dic (zt x y z a b c 3))/\S'[S2.length]?=ba (.lst (aB.map (λt=>W.tup (aw t))))/\Ka S S'),rfl,#[#[_,_,_,rfl],am e2,ag,k2.trans .push],λi Z S' h=>h.2.2.1,?_,?_]
  ·rintro i w Z S3 hw ⟨⟨x7,x8,x9,rfl⟩,e3,l3,k3⟩;clear hK;rw[G1,GP]at hw;obtain⟨t,ht,rfl⟩:=hw;obtain⟨i1,j1,h1,rfl,hi1,hj1,hh1,n1,n2,n3⟩:=vX (He ht);obtain⟨p1,g1,r1⟩:=hv i1 j1 hi1 hj1 n1;obtain⟨p2,g2,r2⟩:=hv j1 h1 hj1 hh1 n2;obtain⟨p3,g3,r3⟩:=hv i1 h1 hi1 hh1 n3;have q3:=k3.get _ _ hq;show ab (show gO (.tp [7,8,9]) (W.tup (aw [i1,j1,h1])) [ba (.tup (af bs)),ba (.ref q),ba (.int x),ba (.int y),ba (.int z),ba (.ref S.length),x6,x7,x8,x9] S3=ba ([ba (.tup (af bs)),ba (.ref q),ba (.int x),ba (.int y),ba (.int z),ba (.ref S.length),x6,ba (.int i1),ba (.int j1),ba (.int h1)],S3)from rfl) λQ2 hn hr=>?_
   nofun
   dsimp only[wS,wT,wE,wA,wV,wG];show ab (kB (cx e3) g3) #[B8 q3,ab (kB (cx e3) g1) (ab (kB (cx e3) g2) (ab (kB (cx e3) g3) ?_))];have hget:Me.get.fn (.ref q) [.tup [.int p1,.int p2],.ref S3.length] (S3++[O.lst [.int p3]])=ba ((bR U (bg p1 p2)).getD (.ref S3.length),S3++[O.lst [.int p3]]):=by
    have hk:ft (.tup [.int p1,.int p2])=ba (bg p1 p2):=gH
    (dsimp only[Me.fn,qe]; simp only[cx (am q3),hk])
   show ab hget ?_;have hres:∃(l:GX) (ws:GK G7),(bR U (bg p1 p2)).getD (.ref S3.length)=.ref l/\(S3++[O.lst [.int p3]])[l]?=ba (.lst (af ws)):=by
    cases hg:bR U (bg p1 p2)with
    | none=>exact#[S3.length,[p3],rfl,ag]
    | some g=>
     obtain⟨u,v,l,ws,he,_,_,_,hl,_⟩:=(hm.ka k3) _ (nX hg);injection he with _ he
     subst he;exact#[l,ws,rfl,am hl]
   obtain⟨l,ws,hl1,hl2⟩:=hres;dsimp only;rw[hl1];obtain⟨kb,hkb⟩:=vY (f:=p3) hl2;show ab hkb ?_;dsimp only[wB];show au (Q0:=Q2) (λ_ Q3 _ hr3=>st (hr3 _ _ (hr _ _ (k _ _ (k3.trans .push))))) λ_ Q3 hn3 _=>bX (hn3 _ _ (hK _ _ (bX (hn _ _ #[#[_,_,_,rfl],am e3,am l3,k3.trans .push]))))
  ·rintro Z S3 ⟨⟨x7,x8,x9,rfl⟩,e3,l3,k3⟩;exact hK _ _ (st (k _ _ k3))
end
abbrev CI (k:G7):Wd:=[(0,[]),(0,[k]),(0,[k,k])]
def zv:∀g∈[CI 0,CI 1],g∈aF 1 [0,1]:=by decide +kernel
abbrev v8 (a k:G7):Wd:=[(0,[]),(k,[0]),(a - 1,[0,0])]
def wa:∀k∈dD 2,v8 2 k∈aF 2 [0]:=by decide +kernel
def wb:∀k∈dD 3,v8 3 k∈aF 3 [0]:=by decide +kernel
def zw {a x y:G7}(h:v8 a x=v8 a y):x=y:=by
 unfold v8 at h;injection h with _ h
 injection h with h _
 injection h
def wc {a n:GX}{m0 m1 m2 x y z:G7}(h0:0<=m0/\m0 < a)(h1:0<=m1/\m1 < a)(h2:0<=m2/\m2 < a)(hx:0<=x/\x < n)(hy:0<=y/\y < n)(hz:0<=z/\z < n):GoodW a n [(m0,[]),(m1,[x]),(m2,[y,z])]:=by
 show#[λk p h=>?_,λk p h=>?_,λk p h=>?_] <;> match k,h with
 | 0,h=>cases h; first|exact h0|rfl|(intro w hw; cases hw)
 | 1,h=>cases h; first|exact h1|rfl|(intro w hw; rw[Hc.mp hw]; exact hx)
 | 2,h=>cases h; first|exact h2|rfl|(intro w hw; rcases Hj.mp hw with e|hw <;> first|exact e ▸ hy|(rw[Hc.mp hw]; exact hz))
 | n+3,h=>simp at h
def B9 {M:Ha->FF}{Z:Fm}{S:aa}{i n:GX}{Q:QW}(hv:∀Q:W->Prop,Q (.int n)->wV Z i Q)(hn:n<=3)(k:∀j:G7,0<=j->j<=27->j=(n:G7)*n*n->Q (.int j,S)):wE M (.op .mul (.op .mul (.v i) (.v i)) (.v i)) Z S Q:=by
 have b1 : -(2 ^ 64) < (n:G7):=∅
 have b2:(n:G7) < 2 ^ 64:=∅
 have hc:(n:G7)*n*n<=27/\0<=(n:G7)*n*n:=by rcases(show n=0\/n=1\/n=2\/n=3 by omega)with h|h|h|h <;> rw[h] <;> decide
 dsimp only[wE];have em:∀m:G7,eI .mul (.int m) (.int n) S=ba (.int (m*n),S):=λm=>nE b1 b2
 generalize eI .mul=B at em ⊢;show hv _ ?_;show hv _ ?_;show ab (em _) ?_;show hv _ ?_;show ab (em _) ?_;have:=k _ hc.2 hc.1 rfl;exact this
def oh {M:Ha->FF}{fuel:GX}{Z:Fm}{S:aa}{K:Fm->aa->Prop}{Q:QO}{i0 i n:GX}{b:Ss}(hv:∀Q:W->Prop,Q (.int n)->wV Z i Q)(hn:n<=3)(ok:fR b=true)
  (h:∀j:G7,0<=j->j<=27->j=(n:G7)*n*n->∃I:GX->Fm->aa->Prop,I 0 Z S/\(∀(i:GX) (Z:Fm) (S:aa),(i:G7) < j->I i Z S->vA M fuel b (Z.set i0 (ba (.int i))) S (I (i+1)) Q)/\∀Z S,I j.toNat Z S->K Z S) :
  Wp (eW M fuel (.loop (.nm i0) (.rng #v[.op .mul (.op .mul (.v i) (.v i)) (.v i)]) b) Z S) (pE K Q):=
 have hw:=B9 (M:=M) (S:=S) (Q:=λp=>∃(j:G7) (I:GX->Fm->aa->Prop),p.1=.int j/\(-(2 ^ 62)<=j/\j < 2 ^ 62)/\I 0 Z p.2/\(∀(i:GX) (Z:Fm) (S:aa),(i:G7) < j->I i Z S->vA M fuel b (Z.set i0 (ba (.int i))) S (I (i+1)) Q)/\∀Z S,I j.toNat Z S->K Z S) hv hn λj j0 j27 e=>let ⟨I,h0,h1,h2⟩:=h j j0 j27 e; #[j,I,rfl,∅,h0,h1,h2]
 jx rfl ok hw
section
variable{defs:GK (Ha×Df)}{fuel d:GX}{S:aa}{r:GX}{Q:QW}
def we (hfu:20 < fuel)(G:Gen defs)(hf:Fl S r)(k:∀w S',bA w->Fl S' r->Kp r S S'->Q (w,S')):wO (aL (aj defs fuel (d+7)) "_law_laying_rule" 1 [.ref r] S) Q:=by
 show ak G.laying_rule rfl rfl λQ' hR=>?_
 replace k:∀w S',bA w->Fl S' r->Kp r S S'->Q' (.rt w,S'):=λz S' a b c=>hR _ _ (k z S' a b c)
 clear hR;change wZ _ _ bv [ba (.ref r),gV,gV,gV,gV,gV,gV,gV,gV,gV,gV,gV,gV,gV,gV] S Q';unfold bv;nofun
 left;show aP (d:=d+5) G.pick hf #v[] #v[] λv S1 v0 v7 f1 k1=>hK _ _ ?_
 clear hK K;nofun
 dsimp only[wS,wT,wE,wV,wG,eg,ay,wB];show au (Q0:=Q') (λ_ Q2 _ hr=>?_) (λ_ Q2 hn _=>bX (hn _ _ (hK _ _ ?_)))
 ·show st ?_;left;exact nW (d:=d) hfu G f1 λw S2 a b c=>hr _ _ (k w S2 a b (k1.trans c))
 clear hK K hn;nofun
 dsimp only[wS,wT,wE,wV,wG,eg,ay,wB];show au (Q0:=Q') (λ_ Q2 _ hr=>?_) (λ_ Q2 hn _=>bX (hn _ _ (hK _ _ ?_)))
 ·show st ?_;left;exact sA (d:=d) hfu G f1 λw S2 a b c=>hr _ _ (k w S2 a b (k1.trans c))
 clear hK K hn;have hr1:=f1.lt;nofun
 left;show jJ (d:=d+4) G f1 λw2 S2 hw2 f2 k2=>?_
 obtain⟨bs0,q0,U0,most,rfl,hbs0,m1,m3,m6,hq0,hq0l,h40,hm0⟩:=hw2;dsimp only[wU];show ab (show dh [2,3,4] [.tup (af bs0),.ref q0,.int most] [ba (.ref r),ba (.int v),gV,gV,gV,gV,gV,gV,gV,gV,gV,gV,gV,gV,gV]=ba [ba (.ref r),ba (.int v),ba (.tup (af bs0)),ba (.ref q0),ba (.int most),gV,gV,gV,gV,gV,gV,gV,gV,gV,gV]from rfl) (hK _ _ ?_)
 clear hK K;nofun
 left;show aP (d:=d+5) G.pick f2 ∅ ∅ λv3 S3 v30 v3m f3 k3=>?_
 dsimp only[cp,ay];obtain⟨a,ea⟩ : ∃a:GX,1+v3=a:=#[(1+v3).toNat,∅]
 rw[ea];show hK _ _ ?_;clear hK K;nofun
 left;show pL (d:=d+4) G (S0:=S1) hbs0 f3 hr1 (k2.trans k3) (k3.get _ _ ∅ hq0) hq0l h40 (hm0.kp hr1 k3) λbs q U S4 hb hbl hq hql hm f4 k4=>?_
 dsimp only[wU];show ab (show dh [2,3] [.tup (af bs),.ref q] [ba (.ref r),ba (.int v),ba (.tup (af bs0)),ba (.ref q0),ba (.int most),ba (.int a),gV,gV,gV,gV,gV,gV,gV,gV,gV]=ba [ba (.ref r),ba (.int v),ba (.tup (af bs)),ba (.ref q),ba (.int most),ba (.int a),gV,gV,gV,gV,gV,gV,gV,gV,gV]from rfl) (hK _ _ ?_)
 clear hK K;rw[<- hbl]at hm m6;have hn:bs.length=2\/bs.length=3:=by rw[hbl]; exact(vV bs0 hbs0).1
 have hsz:SizeOk a bs:=#[∅,hb,by
  have h1:(a:G7)*bs.length<=most*bs.length:=Int.mul_le_mul_of_nonneg_right ∅ ∅
  exact_mod_cast Int.le_trans h1 m6,∅]
 clear m6 hm0 hq0 hq0l h40 hbl hbs0 k2 k3 f2 f3;nofun
 left;show dy (d:=d+1) hfu G f4 ∅ ∅ λms ns S5 hml hnl hnm f5 k5=>hK _ _ ?_
 clear hK K;have kk:Kp r S S5:=k1.trans (k4.trans k5);have hrt:=f5.lt;have hq5:S5[q]?=ba (.dic U):=k5.get _ _ ∅ hq
 have hm5:MustE S5 bs.length S1.length U:=hm.kp hr1 k5;have hqn:q < S5.length:=dk hq5;clear k1 k4 k5 f4 hm hq hql f1;show st ?_;dsimp only[wS,wE,G9];nofun
 left;show bp ?_;rw[show(af bs).length=bs.length from GU ..]
 show hK _ _ ?_;clear hK K;nofun
 show oh (n:=bs.length) (λQ q=>q) ∅ rfl λj j0 j27 hj=>?_
 show#[(λ_ Z S'=>(∃x9 x10 x11 x12 x13 x14,Z=[ba (.ref r),ba (.int v),ba (.tup (af bs)),ba (.ref q),ba (.int most),ba (.int a),ba (aQ ms ns bs []),ba (.ref S5.length),ba (.int bs.length),x9,x10,x11,x12,x13,x14])/\(∃U fs,S'[S5.length]?=ba (.dic U)/\FigD (aF a bs) U fs)/\S'[q]?=ba (.dic U)/\MustE S' bs.length S1.length U/\Fl S' r/\Kp r S S'),#[#[_,_,_,_,_,_,rfl],#[[],[],ag,.nil],am hq5,hm5.ka .push,f5.ka .push,kk.trans .push],?_,?_]
 ·rintro i Z S6 hi ⟨⟨x9,x10,x11,x12,x13,x14,rfl⟩,⟨kvd,fs,e6,hd⟩,hq6,hm6,f6,k6⟩ Q2 hn2 _;clear hK k;have hnp:(0:G7) < bs.length:=∅
  have hnb:(bs.length:G7) < 1073741824:=∅
  have y1:0<=(i:G7) % bs.length/\(i:G7) % bs.length < bs.length:=#[Js _ ∅,IR _ hnp]
  have y2:0<=(i:G7) / bs.length % bs.length/\(i:G7) / bs.length % bs.length < bs.length:=#[Js _ ∅,IR _ hnp]
  have y3:0<=(i:G7) / bs.length / bs.length/\(i:G7) / bs.length / bs.length < bs.length:=by
   rcases hn with h|h <;> rw[h]at hj ⊢ <;> omega
  nofun
  left;show ab (gx hnp) (ab (eQ hnp hnb) (ab (gx hnp) ?_));dsimp only[w2];show hK _ _ ?_;clear hK K;nofun
  left;show ab (eQ hnp hnb) (ab (eQ hnp hnb) (hK _ _ ?_));clear hK K;dsimp only;generalize(i:G7) % bs.length=z1 at y1 ⊢;generalize(i:G7) / bs.length % bs.length=z2 at y2 ⊢;generalize(i:G7) / bs.length / bs.length=z3 at y3 ⊢;nofun
  dsimp only[wS,wT,wA,wE,wV,wG];show vZ (d:=d+4) G hb y1 y2 y3 hq6 hm6 λb S7 k7=>?_
  dsimp only[dX,ay];show au (Q0:=Q2) (λ_ Q3 hn3 _=>?_) (λ_ Q3 hn3 _=>bX (hn3 _ _ (hK _ _ (bX (hn2 _ _ #[#[_,_,_,_,_,_,rfl],#[kvd,fs,k7.get _ _ e6,hd],k7.get _ _ hq6,hm6.ka k7,f6.ka k7,k6.trans (k7.kp r)])))))
  show aG λK3 hK3=>?_
  show dz rfl rfl ?_;dsimp only[wE,wA,wV,wG];have h56:S5.length < S6.length:=dk e6;have h67:=k7.len;show nV (d:=d+5) G (a:=a) ∅ λt ts S8 e8 ht ht7 k8=>?_
  show#[t,ts.map cw,(λ_ Z S'=>(∃x9 x13 x14,Z=[ba (.ref r),ba (.int v),ba (.tup (af bs)),ba (.ref q),ba (.int most),ba (.int a),ba (aQ ms ns bs []),ba (.ref S5.length),ba (.int bs.length),x9,ba (.int z1),ba (.int z2),ba (.int z3),x13,x14])/\(∃U fs,S'[S5.length]?=ba (.dic U)/\FigD (aF a bs) U fs)/\S'[q]?=ba (.dic U)/\MustE S' bs.length S1.length U/\S'[t]?=ba (.lst (ts.map cw))/\Fl S' r/\Kp r S S'),rfl,#[#[_,_,_,rfl],#[kvd,fs,k8.get _ _ (k7.get _ _ e6),hd],k8.get _ _ (k7.get _ _ hq6),(hm6.ka k7).ka k8,e8,(f6.ka k7).ka k8,k6.trans ((k7.trans k8).kp r)],λi Z S' h=>h.2.2.2.2.1,?_,?_]
  ·rintro j w Z S9 hw ⟨⟨x9,x13,x14,rfl⟩,⟨kvd,fs,e9,hd⟩,hq9,hm9,ht9,f9,k9⟩;clear hK3 hn3 hK hn2;rw[G1,GP]at hw;obtain⟨⟨tr1,tr2,tr3⟩,htr,rfl⟩:=hw;obtain⟨t1,t2,t3⟩:=ht _ (He htr);show ab (show gO (.nm 13) (cw (tr1,tr2,tr3)) [ba (.ref r),ba (.int v),ba (.tup (af bs)),ba (.ref q),ba (.int most),ba (.int a),ba (aQ ms ns bs []),ba (.ref S5.length),ba (.int bs.length),x9,ba (.int z1),ba (.int z2),ba (.int z3),x13,x14] S9=ba ([ba (.ref r),ba (.int v),ba (.tup (af bs)),ba (.ref q),ba (.int most),ba (.int a),ba (aQ ms ns bs []),ba (.ref S5.length),ba (.int bs.length),x9,ba (.int z1),ba (.int z2),ba (.int z3),ba (cw (tr1,tr2,tr3)),x14],S9)from rfl) λQ4 hn4 _=>?_
   have hu:GoodW a bs.length [(tr1,[]),(tr2,[z1]),(tr3,[z2,z3])]:=wc t1 t2 t3 y1 y2 y3;nofun
   left;show ah #v[] rfl (ah #v[] rfl (hK _ _ ?_))
   clear hK K;show st ?_;left;show ah #v[] rfl (ab (pA (du rfl)) ?_)
   show eT (d:=d+3) (m0:=.tup (ms.map W.str)) (b0:=.tup []) (u:=[(tr1,[]),(tr2,[z1]),(tr3,[z2,z3])]) G hb hnl hu rfl λS10 k10=>?_
   have e10:=k10.get _ _ e9;exact nT e10 hd hsz hu rfl λo ho=>bX (hn4 _ _ #[#[_,_,_,rfl],ho,by rw[bf ∅]; exact k10.get _ _ hq9,(hm9.ka k10).set e10,by rw[bf ∅]; exact k10.get _ _ ht9,(f9.ka k10).own hrt,(k9.trans (k10.kp r)).late kk.len])
  ·rintro Z S9 ⟨⟨x9,x13,x14,rfl⟩,hdd,hq9,hm9,ht9,f9,k9⟩;exact hK3 _ _ (bX (hn3 _ _ (hK _ _ (bX (hn2 _ _ #[#[_,_,_,_,_,_,rfl],hdd,hq9,hm9,f9,k9])))))
 ·rintro Z S6 ⟨⟨x9,x10,x11,x12,x13,x14,rfl⟩,⟨kvd,fs,e6,hd⟩,hq6,hm6,f6,k6⟩;show hK _ _ (st ?_);left;exact nS (Q:=λp=>Q' (.rt p.1,p.2)) e6 hd hsz hml hnl hnm λw S8 hw k8=>k w S8 hw (f6.ka k8) (k6.trans (k8.kp r))
def pM (hfu:20 < fuel)(G:Gen defs)(hun:Is defs ("_law_unlaying_rule" : Ha) 1 10 aK)(hf:Fl S r)(k:∀w S',bA w->Fl S' r->Kp r S S'->Q (w,S')):wO (aL (aj defs fuel (d+6)) "_law_unlaying_rule" 1 [.ref r] S) Q:=by
 show ak hun rfl rfl λQ' hR=>?_
 replace k:∀w S',bA w->Fl S' r->Kp r S S'->Q' (.rt w,S'):=λz S' a b c=>hR _ _ (k z S' a b c)
 clear hR;change wZ _ _ aK [ba (.ref r),gV,gV,gV,gV,gV,gV,gV,gV,gV] S Q';unfold aK;nofun
 left;show aP (d:=d+4) G.pick hf #v[] #v[] λv S1 v0 v7 f1 k1=>hK _ _ ?_
 clear hK K;have hlt:=f1.lt;nofun
 dsimp only[wS,wT,wE,wV,wG,eg,ay,wB];show au (Q0:=Q') (λ_ Q2 _ hr=>?_) (λ_ Q2 hn _=>bX (hn _ _ (hK _ _ ?_)))
 ·
  show st ?_;left;show cU 2 (λi zs Z2 S2=>(∃a1,Z2=[gV,a1])/\zs=([CI 0,CI 1].take i).map aS/\S2=S1) rfl rfl rfl #v[] #[rfl,#[gV,rfl],rfl,rfl] ?_ ?_
  ·rintro i zs Z2 S2 hi ⟨⟨a1,rfl⟩,rfl,rfl⟩;clear k hr hK;dsimp only[iF,wC,wE,wA,wV,wG,G9];show#[λ_=>#[#[_,rfl],?_,rfl],λz=>by cases z]
   rcases(show i=0\/i=1 by omega)with h|h
   ·subst h; rfl
   ·subst h; rfl
  ·rintro zs Z2 S2 ⟨_,rfl,rfl⟩;show#[du rfl,?_];show ff (d:=d) (a:=1) (bs:=[0,1]) (us:=[CI 0,CI 1]) hfu G (f1.ka .push) #v[] #v[] (λS' kk=>?_) #v[] #v[] λms ns S3 hml hnl hnm f3 k3=>?_
   ·simp only[dg,ap (kk.get _ _ ∅ ag)]; rfl
   exact hr _ _ (k _ _ #[1,[0,1],ms,ns,_,rfl,#[#[#v[],.inr (.inl rfl),#v[],#v[]],hml,hnl,hnm,#v[],zv]] f3 (k1.trans (Kp.push.trans k3)))
 clear hK K hn;nofun
 dsimp only[wS,wT,wE,wV,wG,eg,ay,wB];show au (Q0:=Q') (λ_ Q2 _ hr=>?_) (λ_ Q2 hn _=>bX (hn _ _ (hK _ _ ?_)))
 ·
  clear hK;nofun
  left;show dy (d:=d) (a:=2) (bs:=[0,1]) hfu G f1 #v[] #v[] λms ns S3 hml hnl hnm f3 k3=>hK _ _ ?_
  clear hK K;have hsz:SizeOk 2 [0,1]:=#[#v[],.inr (.inl rfl),#v[],#v[]]
  have hrt:=f3.lt;have kk:Kp r S S3:=k1.trans k3;show st ?_;dsimp only[wS,wE,G9];nofun
  show dz rfl rfl ?_;dsimp only[wE,wA,wV,wG];show nV (d:=d+4) G (a:=2) #v[] λq ts S4 e4 ht hq k4=>?_
  have hq':S3.length < q:=by simp only[G3,HH,IP]at hq; omega
  show#[q,ts.map cw,(λ_ Z S'=>(∃x4 x5 x6 x7 x8 x9,Z=[ba (.ref r),ba (.int v),ba (aQ ms ns [0,1] []),ba (.ref S3.length),x4,x5,x6,x7,x8,x9])/\(∃U fs,S'[S3.length]?=ba (.dic U)/\FigD (aF 2 [0,1]) U fs)/\S'[q]?=ba (.lst (ts.map cw))/\Fl S' r/\Kp r S S'),rfl,#[#[_,_,_,_,_,_,rfl],#[[],[],k4.get _ _ ag,.nil],e4,(f3.ka .push).ka k4,(kk.trans .push).trans (k4.kp r)],λi Z S' h=>h.2.2.1,?_,?_]
  ·rintro i w Z S5 hw ⟨⟨x4,x5,x6,x7,x8,x9,rfl⟩,⟨U,fs,e5,hd⟩,hq5,f5,k5⟩;clear hK;rw[G1,GP]at hw;obtain⟨⟨tr1,tr2,tr3⟩,htt,rfl⟩:=hw;obtain⟨t1,t2,t3⟩:=ht _ (He htt);have h53:S3.length < S5.length:=dk e5;have hq5l:q < S5.length:=dk hq5;show ab (show gO (.nm 4) (cw (tr1,tr2,tr3)) [ba (.ref r),ba (.int v),ba (aQ ms ns [0,1] []),ba (.ref S3.length),x4,x5,x6,x7,x8,x9] S5=ba ([ba (.ref r),ba (.int v),ba (aQ ms ns [0,1] []),ba (.ref S3.length),ba (cw (tr1,tr2,tr3)),x5,x6,x7,x8,x9],S5)from rfl) λQ3 hn3 _=>?_
   nofun
   show dz rfl rfl ?_;dsimp only[wE,wA,wV,wG];show#[S5.length,[(1,1,0),(1,1,1),(1,0,1),(0,1,1)].map cw,(λ_ Z S'=>(∃x5 x6 x7 x8 x9,Z=[ba (.ref r),ba (.int v),ba (aQ ms ns [0,1] []),ba (.ref S3.length),ba (cw (tr1,tr2,tr3)),x5,x6,x7,x8,x9])/\(∃U fs,S'[S3.length]?=ba (.dic U)/\FigD (aF 2 [0,1]) U fs)/\S'[q]?=ba (.lst (ts.map cw))/\S'[S5.length]?=ba (.lst ([(1,1,0),(1,1,1),(1,0,1),(0,1,1)].map cw))/\Fl S' r/\Kp r S S'),rfl,#[#[_,_,_,_,_,rfl],#[U,fs,am e5,hd],am hq5,ag,f5.ka .push,k5.trans .push],λi Z S' h=>h.2.2.2.1,?_,?_]
   ·rintro i w Z S6 hw ⟨⟨x5,x6,x7,x8,x9,rfl⟩,⟨U,fs,e6,hd⟩,hq6,hl6,f6,k6⟩;clear hK hn3;rw[G1,GP]at hw;obtain⟨⟨y1,y2,y3⟩,hy,rfl⟩:=hw;have hy':(0<=y1/\y1 < 2)/\(0<=y2/\y2 < 2)/\(0<=y3/\y3 < 2):=by
     have:∀p∈([(1,1,0),(1,1,1),(1,0,1),(0,1,1)]:GK (G7×G7×G7)),(0<=p.1/\p.1 < 2)/\(0<=p.2.1/\p.2.1 < 2)/\(0<=p.2.2/\p.2.2 < 2):=by decide
     exact this _ (He hy)
    show ab (show gO (.tp [5,6,7]) (cw (y1,y2,y3)) [ba (.ref r),ba (.int v),ba (aQ ms ns [0,1] []),ba (.ref S3.length),ba (cw (tr1,tr2,tr3)),x5,x6,x7,x8,x9] S6=ba ([ba (.ref r),ba (.int v),ba (aQ ms ns [0,1] []),ba (.ref S3.length),ba (cw (tr1,tr2,tr3)),ba (.int y1),ba (.int y2),ba (.int y3),x8,x9],S6)from rfl) λQ4 hn4 _=>?_
    nofun
    left;show ah #v[] rfl (ah #v[] rfl (hK _ _ ?_))
    clear hK K;have hu:GoodW 2 2 [(tr1,[]),(tr2,[y1]),(tr3,[y2,y3])]:=wc t1 t2 t3 hy'.1 hy'.2.1 hy'.2.2;show st ?_;left;show ah #v[] rfl (ab (pA (du rfl)) ?_)
    show eT (d:=d+2) (m0:=.tup (ms.map W.str)) (b0:=.tup []) (bs:=[0,1]) (u:=[(tr1,[]),(tr2,[y1]),(tr3,[y2,y3])]) G (.inr (.inl rfl)) hnl hu rfl λS7 k7=>?_
    have e7:=k7.get _ _ e6;exact nT e7 hd hsz hu rfl λo ho=>bX (hn4 _ _ #[#[_,_,_,_,_,rfl],ho,by rw[bf ∅]; exact k7.get _ _ hq6,by rw[bf ∅]; exact k7.get _ _ hl6,(f6.ka k7).own hrt,(k6.trans (k7.kp r)).late kk.len])
   ·rintro Z S6 ⟨⟨x5,x6,x7,x8,x9,rfl⟩,hdd,hq6,hl6,f6,k6⟩;exact hK _ _ (bX (hn3 _ _ #[#[_,_,_,_,_,_,rfl],hdd,hq6,f6,k6]))
  ·rintro Z S5 ⟨⟨x4,x5,x6,x7,x8,x9,rfl⟩,⟨U,fs,e5,hd⟩,hq5,f5,k5⟩;show hK _ _ (st ?_);left;exact nS (Q:=λp=>Q2 (.rt p.1,p.2)) e5 hd hsz hml hnl hnm λw S8 hw k8=>hr _ _ (k w S8 hw (f5.ka k8) (k5.trans (k8.kp r)))
 clear hK K hn;nofun
 left;show aP (d:=d+4) G.pick f1 #v[] #v[] λv2 S2 v20 v22 f2 k2=>?_
 dsimp only[cp,ay];obtain⟨a,ea⟩ : ∃a:GX,2+v2=a:=#[(2+v2).toNat,∅]
 rw[ea];have ha:a=2\/a=3:=∅
 show hK _ _ ?_;clear hK K;nofun
 dsimp only[wS,wE,G9];show cU (a:G7) (λi zs Z2 S3=>(∃a1,Z2=[gV,a1,ba (.int a)])/\zs=((dD i).map (v8 a)).map aS/\S3=S2) rfl rfl rfl ∅ #[rfl,#[gV,rfl],rfl,rfl] ?_ ?_
 ·rintro i zs Z2 S3 hi ⟨⟨a1,rfl⟩,rfl,rfl⟩;dsimp only[iF,wC,wE,wA,wV,wG,G9,qL,ay];show#[λ_=>#[#[_,rfl],?_,rfl],λz=>by cases z]
  simp[dD,L5,v8,aS,b9]
 ·rintro zs Z2 S3 ⟨_,rfl,rfl⟩;rw[Hf];have hul:(dD a).length=a:=by simp[dD]
  show#[few (by rw[GU,GU,hul]; omega),hK _ _ (st ?_)]
  clear hK K;dsimp only[wS,wE,wA,wP,wV,wG];show aP (d:=d+4) G.pick (f2.ka .push) ∅ ∅ λv4 S4 v40 v4a f4 k4=>?_
  dsimp only[cp,ay,wN];obtain⟨mm,em⟩ : ∃mm:GX,1+v4=mm:=#[(1+v4).toNat,∅]
  rw[em];have hlt2:=f2.lt;have e4:S4[S3.length]?=ba (.lst (((dD a).map (v8 a)).map aS)):=k4.get _ _ ∅ ag
  have hsl:oF (.ref S3.length) gV (ba (mm:G7)) S4=ba (.ref S4.length,S4++[.lst ((((dD a).map (v8 a)).take mm).map aS)]):=by
   simp only[oF,ap e4,ju,Ly]
  show ab hsl ?_;have hlt4:=f4.lt;have hmem:∀g∈((dD a).map (v8 a)).take mm,g∈aF a [0]:=λg hg=>by
   obtain⟨x,hx,rfl⟩:=Hl.mp (Ms hg);rcases ha with rfl|rfl
   ·exact wa x hx
   ·exact wb x hx
  show ff (d:=d) (a:=a) (bs:=[0]) (us:=((dD a).map (v8 a)).take mm) hfu G (f4.ka .push) ∅ #v[] (λS' kk=>?_) (by rw[Im,GU,hul]; omega) (λu hu=>nR (hmem u hu)) λms ns S5 hml hnl hnm f5 k5=>?_
  ·simp only[dg,ap (kk.get _ _ ∅ ag)]
  show k _ _ #[a,[0],ms,ns,_,rfl,#[#[∅,gG,by simp; omega,∅],hml,hnl,hnm,?_,hmem]] f5 (k1.trans (k2.trans (Kp.push.trans (k4.trans (Kp.push.trans k5)))))
  show Pg (Nc _ _) ?_;unfold Oi dD;rw[Jo,Jo];exact(LD (n:=a)).imp λh e=>h (by have:=zw e; omega)
def wf (hfu:20 < fuel)(G:Gen defs)(hun:Is defs ("_law_unlaying_rule" : Ha) 1 10 aK)(hg:Is defs ("_law_rule" : Ha) 1 2 dt)(hf:Fl S r)(k:∀w S',bA w->Fl S' r->Kp r S S'->Q (w,S')):wO (aL (aj defs fuel (d+8)) "_law_rule" 1 [.ref r] S) Q:=by
 show ak hg rfl rfl λQ' hR=>?_
 replace k:∀w S',bA w->Fl S' r->Kp r S S'->Q' (.rt w,S'):=λz S' a b c=>hR _ _ (k z S' a b c)
 clear hR;change wZ _ _ dt [ba (.ref r),gV] S Q';dsimp only[dt];nofun
 left;show aP (d:=d+6) G.pick hf #v[] #v[] λv S1 v0 v7 f1 k1=>hK _ _ ?_
 clear hK K;nofun
 dsimp only[wS,wT,wE,wV,wG,eg,ay,wB];show au (Q0:=Q') (λ_ Q2 _ hr=>?_) (λ_ Q2 hn _=>bX (hn _ _ (hK _ _ ?_)))
 ·show st ?_;left;exact we (d:=d) hfu G f1 λw S2 a b c=>hr _ _ (k w S2 a b (k1.trans c))
 clear hK K hn;nofun
 dsimp only[wS,wT,wE,wV,wG,eg,ay,wB];show au (Q0:=Q') (λ_ Q2 _ hr=>?_) (λ_ Q2 hn _=>bX (hn _ _ (hK _ _ ?_)))
 ·show st ?_;left;exact pM (d:=d+1) hfu G hun f1 λw S2 a b c=>hr _ _ (k w S2 a b (k1.trans c))
 show st ?_;left;exact pJ (d:=d+1) hfu G f1 λw S2 a b c=>k w S2 a b (k1.trans c)
end
abbrev Tr:GX->W->Prop
 | _,.int _=>MQ
 | _,.str _=>MQ
 | _,.non=>MQ
 | n+1,.tup xs=>xs.length<=1000/\∀x∈xs,Tr n x
 | _,_=>Iq
def kC:∀n:GX,ec (HB n (.bl true))=ba (HB n true)
 | 0=>rfl
 | n+1=>by rw[II,ec,kC n]; rfl
def zx (n:GX):(HB n true).all id=true:=by
 rw[Hq];intro x hx;rw[(List.mem_replicate.mp hx).2]; rfl
section
variable{defs:GK (Ha×Df)}{fuel:GX}
def zy (hg:Is defs ("_law_alike" : Ha) 2 2 bz):∀(n d:GX) (w:W) (S:aa) (Q:QW),Tr n w->(∀S',Ka S S'->Q (.bl true,S'))->wO (aL (aj defs fuel (d+n+1)) "_law_alike" 2 [w,w] S) Q:=by
 intro n
 induction n with
 | zero=>
  intro d w S Q hw k;show ak hg rfl rfl λQ' hR=>?_
  replace k:=hR _ _ (k S .refl);clear hR;change wZ _ _ bz [ba w,ba w] S Q';dsimp only[bz];cases w with
  | int x=>
   show aG λK hK=>cq (λQ q=>q) (hK _ _ ?_)
   show aG λK hK=>cq (λQ q=>#[λz=>(by cases z),λ_=>q]) (hK _ _ ?_)
   show aG λK hK=>jq (λQ q=>q) λQ2 _ hr=>st ?_
   dsimp only[wS,wE,wV,wG];show ab (show nq S (.int x) "int" = ba true from rfl) #[λ_=>?_,λz=>by cases z]
   dsimp only[eg,ay];rw[HI];exact hr _ _ k
  | str x=>
   show aG λK hK=>cq (λQ q=>q) (hK _ _ ?_)
   show aG λK hK=>cq (λQ q=>#[λz=>(by cases z),λ_=>q]) (hK _ _ ?_)
   show aG λK hK=>cq (λQ q=>q) (hK _ _ ?_)
   show aG λK hK=>jq (λQ q=>q) λQ2 _ hr=>st ?_
   dsimp only[wS,wE,wV,wG];show ab (show nq S (.str x) "str" = ba true from rfl) #[λ_=>?_,λz=>by cases z]
   dsimp only[z8,ay];rw[HI];exact hr _ _ k
  | non=>
   show aG λK hK=>jq (λQ q=>q) λQ2 _ hr=>st ?_
   dsimp only[wS,wE,wV,wG];exact ab (show bS .is .non .non S=ba (.bl true,S)from rfl) (hr _ _ k)
  | _=>exact hw.elim
 | succ n ih=>
  intro d w S Q hw k;show ak hg rfl rfl λQ' hR=>?_
  replace k:∀S',Ka S S'->Q' (.rt (.bl true),S'):=λS' a=>hR _ _ (k S' a)
  clear hR;change wZ _ _ bz [ba w,ba w] S Q';dsimp only[bz];cases w with
  | int x=>
   show aG λK hK=>cq (λQ q=>q) (hK _ _ ?_)
   show aG λK hK=>cq (λQ q=>#[λz=>(by cases z),λ_=>q]) (hK _ _ ?_)
   show aG λK hK=>jq (λQ q=>q) λQ2 _ hr=>st ?_
   dsimp only[wS,wE,wV,wG];show ab (show nq S (.int x) "int" = ba true from rfl) #[λ_=>?_,λz=>by cases z]
   dsimp only[eg,ay];rw[HI];exact hr _ _ (k _ .refl)
  | str x=>
   show aG λK hK=>cq (λQ q=>q) (hK _ _ ?_)
   show aG λK hK=>cq (λQ q=>#[λz=>(by cases z),λ_=>q]) (hK _ _ ?_)
   show aG λK hK=>cq (λQ q=>q) (hK _ _ ?_)
   show aG λK hK=>jq (λQ q=>q) λQ2 _ hr=>st ?_
   dsimp only[wS,wE,wV,wG];show ab (show nq S (.str x) "str" = ba true from rfl) #[λ_=>?_,λz=>by cases z]
   dsimp only[z8,ay];rw[HI];exact hr _ _ (k _ .refl)
  | tup xs=>
   obtain⟨hl,hx⟩:=hw;show aG λK hK=>cq (λQ q=>q) (hK _ _ ?_)
   show aG λK hK=>cq (λQ q=>#[λz=>(by cases z),λ_=>q]) (hK _ _ ?_)
   show aG λK hK=>cq (λQ q=>q) (hK _ _ ?_)
   show aG λK hK=>cq (λQ q=>q) (hK _ _ ?_)
   show aG λK hK=>cq (λQ q=>#[λz=>(by cases z),λ_=>q]) (hK _ _ ?_)
   show st ?_;left;show bp (bp ?_);dsimp only[eg,ay,wB];rw[HI];show#[λ_=>?_,λz=>by cases z]
   show cU (xs.length:G7) (λi ys Z2 S2=>(∃a1,Z2=[gV,a1,ba (.tup xs),ba (.tup xs)])/\ys=HB i (.bl true)/\Ka S S2) rfl rfl rfl ∅ ?_ ?_ ?_
   ·dsimp only[wE,wA,wV,wG];exact bp #[rfl,#[gV,rfl],rfl,.refl]
   ·rintro i ys Z2 S2 hi ⟨⟨a1,rfl⟩,rfl,k2⟩;have hi':i < xs.length:=∅
    dsimp only[iF,wC,wE,wA,wV,wG,G9];show#[λ_=>ah (Ho i) (by rw[Hf]; exact G5 hi') (ah (Ho i) (by rw[Hf]; exact G5 hi') (ih d _ _ _ (hx _ (HP hi')) λS3 k3=>#[#[_,rfl],?_,k2.trans k3])),λz=>by cases z]
    rw[List.replicate_succ']
   ·rintro ys Z2 S2 ⟨_,rfl,k2⟩;rw[Hf];show#[few (by rw[L7]; exact hl),ab (a:=(.bl true,S2++[.lst (HB xs.length (.bl true))])) ?_ (k _ (k2.trans .push))]
    (dsimp only[Bi.fn,yc]; simp only[ap ag,kC,HC,zx])
  | non=>
   show aG λK hK=>jq (λQ q=>q) λQ2 _ hr=>st ?_
   dsimp only[wS,wE,wV,wG];exact ab (show bS .is .non .non S=ba (.bl true,S)from rfl) (hr _ _ (k _ .refl))
  | _=>exact hw.elim
end
abbrev qY:Ss:=
 #v[.ite (.cmp .gt (.v 2) (.v 3)) #v[.ret (.ix (.ix (.ix (.v 1) (.v 2)) (.c (.int 1))) (.v 3))] .nil,.ret (.ix (.ix (.ix (.v 0) (.c (.int 1))) (.ix (.ix (.ix (.v 1) (.v 3)) (.c (.int 1))) (.v 2))) (.c (.int 1)))]
abbrev cY:Ss:=
 #v[.ret (.tup #v[.ix (.ix (.v 1) (.v 3)) (.c (.int 0)),.bi .tuple #v[.comp (.own "way" 4 #v[.v 3,.v 4,.v 2,.v 1]) (.nm 1) (.seq (.v 2)) .nil [gV,gV,ba 3,ba 0,ba 1]]])]
section
variable{defs:GK (Ha×Df)}{fuel d:GX}{S:aa}{r:GX}{Q:QW}
def wg {M:Ha->FF}{m0 b0:W}{ns:GK Ha}{bs:GK G7}{a:GX}{u:Wd}{i j:GX}{Q:QO}(hb:GoodB bs)(hl:ns.length=bs.length)(hu:GoodW a bs.length u)(hi:i < u.length)(hj:j < u.length)(hij:i≠j)(k:Q (.rt (.int (cm bs u i j)),S)) :
  wZ M fuel qY [ba (.tup [m0,.tup (Hd aH ns bs),b0]),ba (aS u),ba (.int i),ba (.int j)] S Q:=by
 have hpi:=aA (d:=(0,[])) hi;have hpj:=aA (d:=(0,[])) hj;unfold cm at k;dsimp only[qY];nofun
 dsimp only[wS,wT,wE,wV,wG,Ea,wO,wB,aS];show au (Q0:=Q) (λh Q2 _ hr=>?_) (λh Q2 hn _=>?_)
 ·have hji:j < i:=by have:=HF h; omega
  rw[Hk hji]at k;have hw:j < (u.getD i (0,[])).2.length:=by rw[hu.len i _ hpi]; exact hji
  show st ?_;dsimp only[wS,wE,wV,wG];show ah (Ho i) (ko hi) (ah #v[] rfl (ah (Ho j) ?_ (hr _ _ k)))
  rw[Hf,G1,aA (d:=0) hw]; rfl
 ·have hji:¬ j < i:=by have:=Iy h; omega
  rw[Hu hji]at k;show bX (hn _ _ (hK _ _ ?_));clear hn hK;have hw:i < (u.getD j (0,[])).2.length:=by rw[hu.len j _ hpj]; omega
  have hg:=aA (d:=0) hw;obtain⟨g1,g2⟩:=hu.way j _ hpj _ (He hg);obtain⟨b,hb1,hb2,hb3⟩:=hb.rng ((u.getD j (0,[])).2.getD i 0).toNat ∅
  have hn:((u.getD j (0,[])).2.getD i 0).toNat < ns.length:=∅
  rw[getD_some hb1]at k;show st ?_;dsimp only[wS,wE,wV,wG];show ah #v[] rfl (ah (Ho j) (ko hj) (ah #v[] rfl (ah (Ho i) ?_ (ah g1 (lU (G5 hn) hb1) (ah #v[] rfl k)))))
  rw[Hf,G1,hg]; rfl
structure Parts (defs:GK (Ha×Df)):Prop where
 way:Is defs ("way" : Ha) 4 4 qY
 over:Is defs ("point_over" : Ha) 4 4 cY
def Eo (P:Parts defs){m0 b0:W}{ns:GK Ha}{bs:GK G7}{a:GX}{u:Wd}{i j:GX}(hb:GoodB bs)(hl:ns.length=bs.length)(hu:GoodW a bs.length u)(hi:i < u.length)(hj:j < u.length)(hij:i≠j)(k:Q (.int (cm bs u i j),S)) :
  wO (aL (aj defs fuel (d+1)) "way" 4 [.tup [m0,.tup (Hd aH ns bs),b0],aS u,.int i,.int j] S) Q:=
 ak P.way rfl rfl λQ' hR=>wg hb hl hu hi hj hij (hR _ _ k)
def Cc (P:Parts defs){m0 b0:W}{ns:GK Ha}{bs:GK G7}{a:GX}{u:Wd}{ps:GK GX}{i:GX}(hb:GoodB bs)(hl:ns.length=bs.length)(hu:GoodW a bs.length u)(hps:∀p∈ps,p < u.length/\i≠p)(hi:i < u.length)(hsz:ps.length<=1000)(k:∀S',Ka S S'->Q (b9 ((u.getD i (0,[])).1,ps.map λq=>cm bs u i q),S')) :
  wO (aL (aj defs fuel (d+2)) "point_over" 4 [.tup [m0,.tup (Hd aH ns bs),b0],aS u,.tup (aw ps),.int i] S) Q:=by
 show ak P.over rfl rfl λQ' hR=>?_
 replace k:∀S',Ka S S'->Q' (.rt (b9 ((u.getD i (0,[])).1,ps.map λq=>cm bs u i q)),S'):=λS' a=>hR _ _ (k S' a)
 clear hR;change wZ _ _ cY [ba (.tup [m0,.tup (Hd aH ns bs),b0]),ba (aS u),ba (.tup (aw ps)),ba (.int i)] S Q';generalize hR0:W.tup [m0,.tup (Hd aH ns bs),b0]=R;dsimp only[cY];show st ?_;left;show ah (Ho i) (ko hi) (ah #v[] rfl ?_)
 show qN (aw ps) (λj ys Z2 S2=>(∃a1,Z2=[gV,a1,ba (.int i),ba R,ba (aS u)])/\ys=(ps.take j).map (λq=>W.int (cm bs u i q))/\Ka S S2) rfl rfl rfl #[rfl,#[gV,rfl],rfl,.refl] ?_ ?_
 ·rintro j w ys Z2 S2 hw ⟨⟨a1,rfl⟩,rfl,k2⟩;unfold aw at hw;rw[G1,GP]at hw;obtain⟨q,hq,rfl⟩:=hw;obtain⟨hqu,hqi⟩:=hps q (He hq);show ab (show gO (.nm 1) (.int (q:G7)) [gV,a1,ba (.int i),ba R,ba (aS u)] S2=ba ([gV,ba (.int (q:G7)),ba (.int i),ba R,ba (aS u)],S2)from rfl) ?_
  dsimp only[iF,wC,wE,wA,wV,wG];subst hR0;show#[λ_=>Eo (d:=d) P hb hl hu hi hqu hqi #[#[_,rfl],?_,k2],λz=>by cases z]
  rw[IL,hq];simp
 ·rintro ys Z2 S2 ⟨_,rfl,k2⟩;rw[show(aw ps).length=ps.length from GU ..,Jd]
  show#[few (by rw[GU]; exact hsz),eS ag ?_]
  have:=k _ (k2.trans (Ka.push (o:=O.lst (ps.map λq=>W.int (cm bs u i q)))))
  unfold b9 at this;rw[Jg]at this;exact this
end
def Er {M:Ha->FF}{Z:Fm}{S:aa}{a b:E}{x y:G7}{Q:QW}(ha:∀Q:QW,Q (.int x,S)->wE M a Z S Q)(hb:∀Q:QW,Q (.int y,S)->wE M b Z S Q)(h1 : -(2 ^ 64) < y)(h2:y < 2 ^ 64)(q:Q (.int (x*y),S)):wE M (.op .mul a b) Z S Q:=by
 have em:eI .mul (.int x) (.int y) S=ba (.int (x*y),S):=nE h1 h2;dsimp only[wE];show ha _ ?_;show hb _ ?_;dsimp only;rw[em];exact q
abbrev kD (bs:GK G7)(v:Wd)(ps:GK GX)(i:GX):Pt:=((v.getD i (0,[])).1,ps.map λq=>cm bs v i q)
abbrev aC (n:GX)(os:GK (GK GX)):GK (GK GX):=os.flatMap λo=>((HJ n).filter λp=>decide (p∉o)).map λp=>o++[p]
def iq (bs:GK G7)(v:Wd)(o:GK GX)(p:GX):ar bs v (o++[p])=ar bs v o++[kD bs v o p]:=by
 unfold ar kD;rw[G3,KD,L5,HK];congr 1
 ·show IK λk hk=>?_
  have hk:=HZ.mp hk;rw[show(o++[p]).getD k 0=o.getD k 0 by simp[HL hk],List.take_append_of_le_length ∅]
 ·simp
def gI {n:GX}:∀os:GK (GK GX),(aC n os).length<=os.length*n
 | []=>by simp[aC]
 | o::os=>by
  have ih:=gI (n:=n) os;unfold aC at ih ⊢;rw[List.flatMap_cons,G3,GU,HH,OL];have:=J3 (λp=>decide (p∉o)) (HJ n)
  rw[Iu]at this;omega
def sE {n:GX}{os:GK (GK GX)}{i:GX}:(aC n (os.take i)).length<=os.length*n:=by
 show Hz (gI _) (Mt _ ?_);rw[Im]; omega
def kE {S:aa}{d:GX}:∀xs ys:GK G7,fK (iw S d) (xs.map W.int) (ys.map W.int)=ba (decide (xs=ys))
 | [],[]=>rfl
 | [],_::_=>rfl
 | _::_,[]=>rfl
 | x::xs,y::ys=>by
  have e:iw S d (.int x) (.int y)=ba (x==y):=by cases d <;> rfl
  simp only[HX,fK,e,kE xs ys]
  by_cases h:x=y
  ·subst h; by_cases h2:xs=ys <;> simp[h2]
  ·have h':(x==y)=false:=by simpa using h
   simp[h,h']
def wj {S:aa}{d:GX}(p q:Pt):iw S (d+2) (b9 p) (b9 q)=ba (decide (p=q)):=by
 obtain⟨m,ws⟩:=p;obtain⟨m',ws'⟩:=q;change fK (iw S (d+1)) [.int m,.tup (ws.map W.int)] [.int m',.tup (ws'.map W.int)]=_;have e:iw S (d+1) (.int m) (.int m')=ba (m==m'):=rfl;have e2:iw S (d+1) (.tup (ws.map W.int)) (.tup (ws'.map W.int))=ba (decide (ws=ws')):=kE ws ws';simp only[fK,e,e2]
 by_cases h:m=m'
 ·subst h; by_cases h2:ws=ws' <;> simp[h2]
 ·have h':(m==m')=false:=by simpa using h
  simp[h,h']
def ol {S:aa}{d:GX}:∀u v:Wd,fK (iw S (d+2)) (u.map b9) (v.map b9)=ba (decide (u=v))
 | [],[]=>rfl
 | [],_::_=>rfl
 | _::_,[]=>rfl
 | x::xs,y::ys=>by
  simp only[HX,fK,wj,ol xs ys]
  by_cases h:x=y
  ·subst h; by_cases h2:xs=ys <;> simp[h2]
  ·simp[h]
def Et {S:aa}{p q:Pt}:bS .eq (b9 p) (b9 q) S=ba (.bl (decide (p=q)),S):=by
 show(iw S (18+2) (b9 p) (b9 q)).map _=_;rw[wj]; rfl
def Cd {S:aa}{u v:Wd}:bS .eq (aS u) (aS v) S=ba (.bl (decide (u=v)),S):=by
 show(fK (iw S (17+2)) (u.map b9) (v.map b9)).map _=_;rw[ol]; rfl
def om {p:GX}:∀ps:GK GX,((aw ps).any λz=>wX z (.int p))=decide (p∈ps)
 | []=>rfl
 | q::ps=>by
  show((q:G7)==(p:G7)||(aw ps).any _)=_
  rw[om ps]
  by_cases h:q=p
  ·subst h; simp
  ·have h1:((q:G7)==(p:G7))=false:=by simp; omega
   have h2:¬ p=q:=λe=>h e.symm
   rw[h1]; simp[h2]
def sF (ps:GK GX):(aw ps).all bH=true:=by
 rw[Hq];intro x hx;obtain⟨p,_,rfl⟩:=Hl.mp hx;rfl
def wl {S:aa}{p:GX}{ps:GK GX}:bS .notin (.int p) (.tup (aw ps)) S=ba (.bl (decide (p∉ps)),S):=by
 change cg .notin (.int p) (.tup (aw ps)) S=_;have hf:(bH (.int p)&&(aw ps).all bH)=true:=by rw[sF]; rfl
 simp only[cg,oE,wY,dE,hf,JQ,HC,om];congr 3
 by_cases h:p∈ps <;> simp[h]
def wm {xs:GK W}:fZ xs gV (ba (-1))=xs.dropLast:=by
 unfold fZ;rw[HT.iX,Oj,ON,List.dropLast_eq_take];congr 1;show(if (-1:G7) < 0 then((-1:G7)+(xs.length:G7)).toNat else min (-1:G7).toNat xs.length)=_
 rw[Hk #v[]]; omega
def sG (ps:GK GX):(aw ps).dropLast=aw ps.dropLast:=by unfold aw; rw[List.map_dropLast]
def zz {S:aa}{ps:GK GX}(h:ps≠[]):mj (.tup (aw ps)) (.int (-1)) S=ba (.int (ps.getLastD 0:GX),S):=by
 have hl:(aw ps).length=ps.length:=GU ..;have hp:0 < ps.length:=MF.mpr h;have hs:pW (aw ps).length (-1)=ba (ps.length - 1):=by
  rw[hl];unfold pW;rw[Hu #v[]]
  exact(Hk ∅).trans (by congr 1; omega)
 have hg:(aw ps)[ps.length - 1]?=ba (.int (ps.getLastD 0:GX)):=by
  show lV ?_;rw[List.getLastD_eq_getLast?,List.getLast?_eq_getElem?];have:ps.length - 1 < ps.length:=∅
  simp[this]
 (dsimp only[mj,rL,mB]; simp only[hs,hg,Option.bind_some,HC])
abbrev aE:Ss:=
 #v[.set 2 (.lst .nil),.loop (.nm 3) (.seq (.v 0)) #v[.ex (.me .extend (.v 2) #v[.comp (.op .add (.v 2) (.tup #v[.v 1])) (.nm 1) (.rng #v[.v 1]) #v[.cmp .notin (.v 1) (.v 2)] [gV,gV,ba 3]])],.ret (.v 2)]
abbrev cL (os:GK (GK GX)):GK W:=os.map λo=>.tup (aw o)
section
variable{defs:GK (Ha×Df)}{fuel d:GX}{S:aa}{Q:QW}
def Ce {t l:GX}{xs ys:GK W}(h:S[t]?=ba (.lst xs))(h2:S[l]?=ba (.lst ys))(hl:xs.length+ys.length<=1000000)(q:Q (.non,S.set t (.lst (xs++ys)))):wO (Me.extend.fn (.ref t) [.ref l] S) Q:=by
 show ab ?_ q;simp only[Me.fn,iM,eh h,eh h2];rw[Hk (by rw[HV]; omega)]
def zA {n:GX}(h:n<=1000000):n<=sizeLine:=by rw[HV]; omega
def wn (hg:Is defs ("longer_orders" : Ha) 2 4 aE){n l:GX}{os:GK (GK GX)}(e:S[l]?=ba (.lst (cL os)))(hn:n<=100)(hol:∀o∈os,o.length<=100)(hos:os.length*n<=100000)
  (k:∀(q:GX) (S':aa),S'[q]?=ba (.lst (cL (aC n os)))->S.length<=q->Ka S S'->Q (.ref q,S')) :
  wO (aL (aj defs fuel (d+1)) "longer_orders" 2 [.ref l,.int n] S) Q:=by
 show ak hg rfl rfl λQ' hR=>?_
 replace k:∀(q:GX) (S':aa),S'[q]?=ba (.lst (cL (aC n os)))->S.length<=q->Ka S S'->Q' (.rt (.ref q),S'):=λa b c e f=>hR _ _ (k a b c e f)
 clear hR;change wZ _ _ aE [ba (.ref l),ba (.int n),gV,gV] S Q';have hlS:=dk e;dsimp only[aE];show st ?_;dsimp only[wS,wE,wA,G9];nofun
 show y8 l (cL os) (λi Z S'=>(∃a3,Z=[ba (.ref l),ba (.int n),ba (.ref S.length),a3])/\S'[l]?=ba (.lst (cL os))/\S'[S.length]?=ba (.lst (cL (aC n (os.take i))))/\Ka S S') rfl rfl #[rfl,#[gV,rfl],am e,ag,.push] (λi Z S' h=>h.2.1) ?_ ?_
 ·rintro i w Z S1 hw ⟨⟨a3,rfl⟩,e0,e1,k1⟩;clear hK k;unfold cL at hw;rw[G1,GP]at hw;obtain⟨o,ho,rfl⟩:=hw;have hol:=hol o (He ho);show ab (show gO (.nm 3) (.tup (aw o)) [ba (.ref l),ba (.int n),ba (.ref S.length),a3] S1=ba ([ba (.ref l),ba (.int n),ba (.ref S.length),ba (.tup (aw o))],S1)from rfl) ?_
  intro Q2 hn _;show st ?_;left;show#[ei e1,?_];show cU (n:G7) (λj ys Z2 S2=>(∃a1,Z2=[gV,a1,ba (.tup (aw o))])/\ys=cL (((HJ j).filter λp=>decide (p∉o)).map λp=>o++[p])/\S2=S1) rfl rfl rfl ∅ #[rfl,#[gV,rfl],rfl,rfl] ?_ ?_
  ·rintro j ys Z2 S2 hj ⟨⟨a1,rfl⟩,rfl,rfl⟩;dsimp only[iF,wC,wE,wA,wV,wG,G9];show ab wl ?_;dsimp only[wB];have er:(HJ (j+1)).filter (λp=>decide (p∉o))=(HJ j).filter (λp=>decide (p∉o))++(if j∉o then[j]else[]):=by
    rw[L5,Lf];congr 1
    by_cases h:j∈o <;> simp[h]
   show#[λh=>?_,λh=>#[#[_,rfl],?_,rfl]]
   ·have h:j∉o:=HF h;show ab (pA (zA (by rw[G3,show(aw o).length=o.length from GU ..]; show _+1<=_; omega))) #[#[_,rfl],?_,rfl]
    rw[er,Hk h,HK];unfold cL;rw[HK];simp[aw]
   ·have h:¬ j∉o:=Iy h;rw[er,Hu h,Jq]
  ·rintro ys Z2 S2 ⟨_,rfl,rfl⟩;rw[Hf];have hlen:(cL (((HJ n).filter λp=>decide (p∉o)).map λp=>o++[p])).length<=n:=by
    unfold cL;rw[GU,GU];exact Hz (J3 _ _) (by rw[Iu]; exact G2 _)
   have e1':=am (u:=O.lst (cL (((HJ n).filter λp=>decide (p∉o)).map λp=>o++[p]))) e1
   have hlt:=sE (n:=n) (os:=os) (i:=i);have hlw:(cL (aC n (os.take i))).length=(aC n (os.take i)).length:=GU ..;show#[zA ∅,Ce e1' ag ∅ (bX (hn _ _ #[#[_,rfl],?_,?_,(k1.trans .push).late (G2 _)]))]
   ·rw[bf ∅]; exact am e0
   ·rw[bJ e1'];unfold aC cL;rw[IL,ho];simp
 ·rintro Z S1 ⟨⟨a3,rfl⟩,e0,e1,k1⟩;rw[show(cL os).length=os.length from GU ..,Jd]at e1
  exact hK _ _ (st (k _ _ e1 (G2 _) k1))
def Cf {t:GX}{xs:GK W}{y:W}(h:S[t]?=ba (.lst xs))(hl:xs.length < 1000000)(q:Q (.non,S.set t (.lst (xs++[y])))):wO (Me.append.fn (.ref t) [y] S) Q:=ab (qM h (by rw[HV]; omega)) q
end
def on:∀xs:GK G7,dF (xs.map T.int)=true
 | []=>rfl
 | _::xs=>on xs
def iR:∀u:Wd,dF (u.map fA)=true
 | []=>rfl
 | p::u=>by
  simp only[HX,dF,GV];show#[?_,iR u];simp[fA,gT,dF,on]
def jy (u:Wd):gT (bU u)=true:=iR u
def wo {us:GK Wd}(h:us.Nodup):Nice (us.map bU):=by
 show#[λx hx=>?_,d0 us,?_]
 ·obtain⟨u,_,rfl⟩:=Hl.mp hx;exact jy u
 ·rw[J9,Jo];exact h.imp λhne e=>hne (gF e)
def sH {us:GK Wd}:(dw us).map bU=qr (us.map bU):=by
 unfold dw qr;rw[nO (d:=[])]
section
variable{M:Ha->FF}{Z:Fm}{S:aa}
def pN {α:Type}{elt:E}{tg:Tg}{it:Ie}{cs:Es}{cap:GK (GR GX)}{mi:MI}{S1:aa}{Q:QW}(L:GK α)(f:α->W)(p:α->Hr)(g:α->W)(td:Fm->Prop)(fr:α->Fm)(hJ:∀x Z S,td Z->gO tg (f x) Z S=ba (fr x,S)/\td (fr x))(oe:bW elt=true)(oc:mo cs=true)(hc:td (cH cap Z))(hl:L.length<=1000000)(hi:fO M it Z S=ba (mi,S1))(k1:Ka S S1)(hat:∀i S',Ka S1 S'->mi.at S' i=ba (L.map f)[i]?)(hn:mi.len S1=ba (L.map f).length)
  (hstep:∀x∈L,∀S',Ka S S'->iF M elt cs (fr x) S' (λy _ S2=>p x=true/\y=g x/\Ka S' S2) (λ_ S2=>p x=false/\Ka S' S2))
  (k:∀S',Ka S S'->Q (.ref S'.length,S'++[.lst ((L.filter p).map g)])):Wp (aq M (.comp elt tg it cs cap) Z S) Q:=by
 rw[vw];show#[_,hi,_,hn,?_];show(cR (xs:=L.map f) (Q:=λq=>q.1.length<=sizeLine/\Q (.ref q.2.length,q.2++[.lst q.1])) (λi ys Z' S'=>td Z'/\ys=((L.take i).filter p).map g/\Ka S1 S') (λi ys Z' S' h=>hat i S' h.2.2) (λi w ys Z' S' hw h=>?_) (λys Z' S' h=>?_) (L.map f).length 0 [] _ S1 ∅ #[hc,rfl,.refl]).mono λq hq=>by simpa using hq
 ·obtain⟨hj,rfl,k2⟩:=h;rw[G1,GP]at hw;obtain⟨x,hx,rfl⟩:=hw;obtain⟨h1,h2⟩:=hJ x Z' S' hj;show#[_,h1,?_];show(Ag oc (hstep x (He hx) S' (k1.trans k2))).mono λc hc=>#[λz=>(aM elt oe (hc.1 z)).mono λy hy=>#[h2,?_,k2.trans hy.2.2],λz=>#[h2,?_,k2.trans (hc.2 z).2]]
  ·rw[IL,hx,Lf,show(OC (ba x)).filter p=[x]from List.filter_cons_of_pos hy.1,HK,hy.2.1]; rfl
  ·rw[IL,hx,Lf,show(OC (ba x)).filter p=[]from List.filter_cons_of_neg (by rw[(hc.2 z).1]; exact Hh),Jq]
 ·obtain⟨_,rfl,k2⟩:=h;dsimp only;rw[show(L.map f).length=L.length from GU ..,Jd]
  show#[zA ?_,k S' (k1.trans k2)];rw[GU];exact Hz (J3 _ _) hl
def wp {α:Type}{elt:E}{it:Ie}{cs:Es}{cap:GK (GR GX)}{mi:MI}{S1:aa}{Q:QW}(L:GK α)(f:α->W)(p:α->Hr)(g:α->W)(R:Fm)(oe:bW elt=true)(oc:mo cs=true)(hc:cH cap Z=gV::gV::R)(hl:L.length<=1000000)(hi:fO M it Z S=ba (mi,S1))(k1:Ka S S1)(hat:∀i S',Ka S1 S'->mi.at S' i=ba (L.map f)[i]?)(hn:mi.len S1=ba (L.map f).length)
  (hstep:∀x∈L,∀S',Ka S S'->iF M elt cs (gV::ba (f x)::R) S' (λy _ S2=>p x=true/\y=g x/\Ka S' S2) (λ_ S2=>p x=false/\Ka S' S2))
  (k:∀S',Ka S S'->Q (.ref S'.length,S'++[.lst ((L.filter p).map g)])):Wp (aq M (.comp elt (.nm 1) it cs cap) Z S) Q:=
 pN L f p g (λZ=>∃a,Z=gV::a::R) (λx=>gV::ba (f x)::R) (λ_ _ _ h=>let ⟨_,e⟩:=h; e ▸ #[rfl,_,rfl]) oe oc #[_,hc] hl hi k1 hat hn hstep k
def Cg {α:Type}{elt e:E}{cs:Es}{cap:GK (GR GX)}{Q:QW}(L:GK α)(f:α->W)(p:α->Hr)(g:α->W)(R:Fm)(oi:bW e=true)(oe:bW elt=true)(oc:mo cs=true)(hc:cH cap Z=gV::gV::R)(hl:L.length<=1000000)
  (he:wE M e Z S λq=>∃t,q.1=.ref t/\q.2[t]?=ba (.lst (L.map f))/\Ka S q.2)
  (hstep:∀x∈L,∀S',Ka S S'->iF M elt cs (gV::ba (f x)::R) S' (λy _ S2=>p x=true/\y=g x/\Ka S' S2) (λ_ S2=>p x=false/\Ka S' S2))
  (k:∀S',Ka S S'->Q (.ref S'.length,S'++[.lst ((L.filter p).map g)])):Wp (aq M (.comp elt (.nm 1) (.seq e) cs cap) Z S) Q:=by
 obtain⟨w,S1,e1,t,rfl,ht,k1⟩:=aV oi he;exact wp (mi:=.live t) L f p g R oe oc hc hl (by simp only[fO,cN,e1,ap ht]) k1 (λi S' h=>by simp only[MI.at,ap (h.get _ _ ht)]) (by simp only[MI.len,ap ht,HC]) hstep k
def Ch {α:Type}{elt e:E}{cs:Es}{cap:GK (GR GX)}{Q:QW}(L:GK α)(f:α->W)(p:α->Hr)(g:α->W)(R:Fm)(oi:bW e=true)(oe:bW elt=true)(oc:mo cs=true)(hc:cH cap Z=gV::gV::R)(hl:L.length<=1000000)
  (he:wE M e Z S λq=>q.1=.tup (L.map f)/\Ka S q.2)
  (hstep:∀x∈L,∀S',Ka S S'->iF M elt cs (gV::ba (f x)::R) S' (λy _ S2=>p x=true/\y=g x/\Ka S' S2) (λ_ S2=>p x=false/\Ka S' S2))
  (k:∀S',Ka S S'->Q (.ref S'.length,S'++[.lst ((L.filter p).map g)])):Wp (aq M (.comp elt (.nm 1) (.seq e) cs cap) Z S) Q:=by
 obtain⟨w,S1,e1,rfl,k1⟩:=aV oi he;exact wp (mi:=.its (L.map f)) L f p g R oe oc hc hl (by simp only[fO,cN,e1]) k1 (λ_ _ _=>rfl) rfl hstep k
def oo (n:GX):cj 0 n=(HJ n).map λi=>W.int (i:GX):=by
 unfold cj;show IK λi _=>?_
 rw[LR]
def jA {α:Type}(L:GK α):L.filter (λ_=>true)=L:=List.filter_eq_self.mpr λ_ _=>rfl
end
def Ci {bs:GK G7}{a:GX}{v:Wd}{i j:GX}(hb:GoodB bs)(hv:GoodW a bs.length v)(hi:i < v.length)(hj:j < v.length)(hij:i≠j):0<=cm bs v i j/\cm bs v i j < (bs.length:G7):=by
 unfold cm
 by_cases h:j < i
 ·rw[Hk h];have hp:=aA (d:=(0,[])) hi;have hw:j < (v.getD i (0,[])).2.length:=by rw[hv.len i _ hp]; exact h
  exact hv.way i _ hp _ (He (aA (d:=0) hw))
 ·rw[Hu h];have hp:=aA (d:=(0,[])) hj;have hw:i < (v.getD j (0,[])).2.length:=by rw[hv.len j _ hp]; omega
  obtain⟨g1,g2⟩:=hv.way j _ hp _ (He (aA (d:=0) hw));exact(hb.at g1 g2).2
def sI {bs:GK G7}{a:GX}{v:Wd}{ps:GK GX}(hb:GoodB bs)(hv:GoodW a bs.length v)(hps:∀p∈ps,p < v.length)(hnd:ps.Nodup):GoodW a bs.length (ar bs v ps):=by
 have at':∀(k:GX) (q:Pt),(ar bs v ps)[k]?=ba q->∃hk:k < ps.length,q=((v.getD ps[k] (0,[])).1,(ps.take k).map λj=>cm bs v ps[k] j):=λk q e=>by
  have hk:k < ps.length:=by
   have:=(G8.mp e).1;rw[bo]at this; exact this
  show#[hk,?_];unfold ar at e;rw[G1,Kk hk,HC,show ps.getD k 0=ps[k] by simp[hk]]at e
  exact(Ij e).symm
 show#[λk q e=>?_,λk q e=>?_,λk q e=>?_]
 ·obtain⟨hk,rfl⟩:=at' k q e;have:=hv.mark _ _ (aA (d:=(0,[])) (hps _ (HP hk)));exact this
 ·obtain⟨hk,rfl⟩:=at' k q e;dsimp only;rw[GU,Im]; omega
 ·obtain⟨hk,rfl⟩:=at' k q e;intro w hw;obtain⟨j,hj,rfl⟩:=Hl.mp hw;have hjm:=Ms hj;show Ci hb hv (hps _ (HP hk)) (hps _ hjm) λe=>?_
  obtain⟨m,hm,e2⟩:=KT.mp hj;rw[Im]at hm;rw[Lq]at e2;have:=(JS hnd).mp (e.trans e2.symm);omega
section
variable{defs:GK (Ha×Df)}{fuel d:GX}{S:aa}{Q:QW}
def Cj (hd:Is defs ("_law_flow" : Ha) 1 1 dq){ns:GK G7}{u:GX}(hu:S[u]?=ba (.fro (ns.map W.int)))(k:∀r S',Ka S S'->Fl S' r->Q (.ref r,S')) :
  wO (aL (aj defs fuel (d+1)) "_law_flow" 1 [.ref u] S) Q:=by
 show ak hd rfl rfl λQ' hR=>?_
 change wZ _ _ dq [ba (.ref u)] S Q';dsimp only[dq];show st ?_;left;have e:Bi.list.fn [.ref u] S=ba (.ref S.length,S++[.lst (ns.map W.int)]):=by
  have h1:xX S u=gV:=by simp[xX,hu]
  simp only[Bi.fn,yS,jV,h1,ga,dE,yZ hu]
 show ab e (hR _ _ (k _ _ (Ka.push.trans .push) #[S.length,ns,0,0,1,0,?_,?_,?_,#v[],#v[],#v[],#v[]]))
 ·exact ag
 ·exact am ag
 ·simp
end
def iG {bt:GX->GX->Hr}{N:GX}(ir:∀i < N,bt i i=false)(tr:∀i j k,i < N->j < N->k < N->bt i j=true->bt j k=true->bt i k=true):∀n,n < N->∀j≤n,bt j (argBest bt n)=false
 | 0,hn,j,hj=>by
  obtain rfl:j=0:=∅
  exact ir 0 hn
 | n+1,hn,j,hj=>by
  have ih:=iG ir tr n ∅
  have hb:=dv bt n;simp only[argBest];cases c:bt (n+1) (argBest bt n)with
  | true=>
   rw[Hk rfl]
   by_cases e:j=n+1
   ·subst e; exact ir _ hn
   ·cases c2:bt j (n+1)with
    | false=>rfl
    | true=>
     have:=tr j (n+1) (argBest bt n) ∅ hn ∅ c2 c
     rw[ih j ∅]at this; cases this
  | false=>
   rw[Hu (by exact Hh)]
   by_cases e:j=n+1
   ·subst e; exact c
   ·exact ih j ∅
def oq {ks:GK T}(hn:∀x∈ks,gT x=true)(hl:eE ks=true)(hne:ks≠[]):∃x,ks[gY ks]?=ba x/\x∈ks/\∀y∈ks,d8 y x=ba false:=by
 have hp:0 < ks.length:=MF.mpr hne;have hm:gY ks < ks.length:=by
  unfold gY;have:=dv (jZ ks) (ks.length - 1);omega
 have ltk:∀i j (hi:i < ks.length) (hj:j < ks.length),d8 ks[i] ks[j]=ba (jZ ks i j):=λi j hi hj=>de hl hi hj
 have ir:∀i < ks.length,jZ ks i i=false:=λi hi=>by
  cases c:jZ ks i i with
  | false=>rfl
  | true=>
   have e:=ltk i i hi hi;rw[c]at e;have:=lC _ _ (hn _ (HP hi)) e;rw[e]at this; cases this
 have mn:=iG (bt:=jZ ks) (N:=ks.length) ir (λi j k hi hj hk h1 h2=>by
  have e1:=ltk i j hi hj;have e2:=ltk j k hj hk;rw[h1]at e1;rw[h2]at e2;have:=o8 _ _ _ (hn _ (HP hi)) (hn _ (HP hj)) e1 e2;rw[ltk i k hi hk]at this;exact Ij this) (ks.length - 1) ∅
 show#[ks[gY ks],G5 hm,HP hm,λy hy=>?_]
 obtain⟨j,hj,rfl⟩:=KT.mp hy;rw[ltk j _ hj hm];congr 1;exact mn j ∅
def qZ {x y:T}(hx:gT x=true)(h1:d8 x y=ba false)(h2:d8 y x=ba false):x=y:=by
 by_cases e:x=y
 ·exact e
 ·rw[lE x y hx e h2]at h1; cases h1
def ou:∀ {xs ys as bs:GK T},xs.length=ys.length->ci xs ys=ba true->ci (xs++as) (ys++bs)=ba true
 | [],[],_,_,_,h=>by cases h
 | x::xs,y::ys,as,bs,hl,h=>by
  simp only[NM,ci]at h ⊢
  by_cases e:x=y
  ·rw[Hk e]at h ⊢;exact ou (by simpa using hl) h
  ·rw[Hu e]at h ⊢;exact h
 | [],_::_,_,_,hl,_=>by simp at hl
 | _::_,[],_,_,hl,_=>by simp at hl
def ox {as bs:GK T}:∀xs:GK T,ci (xs++as) (xs++bs)=ci as bs
 | []=>rfl
 | x::xs=>by
  simp only[NM,ci,JQ];exact ox xs
def Ck {x y:T}(hx:gT x=true)(h:ci [x] [y]=ba true):d8 x y=ba true:=by
 simp only[ci]at h;split at h
 ·cases h
 ·exact h
structure Ord (n:GX)(o:GK GX):Prop where
 nd:o.Nodup
 lt:∀p∈o,p < n
abbrev pO:GX->GK (GK GX)
 | 0=>[[]]
 | k+1=>(pO k).flatMap λo=>(HJ (k+1)).map λi=>o.take i++[k]++o.drop i
def l4:∀ {n:GX} {o:GK GX},o∈pO n↔Ord n o/\o.length=n
 | 0,o=>by
  rw[pO,Hc];exact#[λh=>by subst h; exact#[#[.nil,λp hp=>nomatch hp],rfl],λh=>JX h.2]
 | n+1,o=>by
  rw[pO,KQ];constructor
  ·rintro⟨o',h1,h2⟩;obtain⟨i,hi,rfl⟩:=Hl.mp h2;obtain⟨⟨nd,lt⟩,hl⟩:=l4.mp h1;have hi:=HZ.mp hi;have hp:(o'.take i++[n]++o'.drop i).Perm (n::o'):=by
    have e:o'.take i++[n]++o'.drop i=o'.take i++n::o'.drop i:=by simp
    rw[e];show NN.trans ?_;rw[KH]
   show#[#[hp.nodup_iff.mpr (JH.mpr #[λz=>absurd (lt _ z) (IA _),nd]),λp hpm=>?_],by rw[hp.length_eq,HH,hl]]
   rcases Hj.mp (hp.mem_iff.mp hpm)with z|z
   ·omega
   ·have:=lt p z; omega
  ·rintro⟨⟨nd,lt⟩,hl⟩;have hm:n∈o:=by
    by_cases z:n∈o
    ·exact z
    ·have h1:=fS o (HJ n) nd λp hp=>HZ.mpr (by
      have:=lt p hp;have:p≠n:=λe=>z (e ▸ hp)
      omega)
     rw[Iu]at h1;omega
   obtain⟨a,b,rfl⟩:=List.append_of_mem hm;have hp:(a++n::b).Perm (n::(a++b)):=NN;have nd2:=hp.nodup_iff.mp nd;obtain⟨nn,nd3⟩:=JH.mp nd2;show#[a++b,l4.mpr #[#[nd3,λp hpm=>?_],?_],Hl.mpr #[a.length,HZ.mpr ?_,?_]]
   ·have h1:=lt p (hp.mem_iff.mpr (HS _ hpm));have:p≠n:=λe=>nn (e ▸ hpm)
    omega
   ·have:=hp.length_eq;rw[hl,HH]at this;omega
   ·rw[G3,HH]at hl;omega
   ·rw[List.take_left',N1] <;> simp
abbrev aR (bs:GK G7)(u:Wd)(o:GK GX):Pt:=kD bs u o.dropLast (o.getLastD 0)
abbrev bL (ps:GK Pt):Pt:=ps.getD (gY (ps.map fA)) (0,[])
abbrev dI (bs:GK G7)(u:Wd):GX->GK (GK GX)
 | 0=>[[]]
 | k+1=>(aC u.length (dI bs u k)).filter λo=>decide (aR bs u o=bL ((aC u.length (dI bs u k)).map (aR bs u)))
abbrev l7 (bs:GK G7)(u:Wd):GX->Wd
 | 0=>[]
 | k+1=>l7 bs u k++[bL ((aC u.length (dI bs u k)).map (aR bs u))]
def wq (p:Pt):gT (fA p)=true:=by
 have:=iR [p]
 simpa [dF]using this
def kF (ps:GK Pt):eE (ps.map fA)=true:=by
 unfold eE;rw[Hq];intro x hx;rw[Hq];intro y hy;obtain⟨p,_,rfl⟩:=Hl.mp hx;obtain⟨q,_,rfl⟩:=Hl.mp hy;exact pH _ _ (vI p q)
def kG {ps:GK Pt}(h:ps≠[]):ps[gY (ps.map fA)]?=ba (bL ps)/\bL ps∈ps/\∀y∈ps,d8 (fA y) (fA (bL ps))=ba false:=by
 obtain⟨x,h1,h2,h3⟩:=oq (ks:=ps.map fA) (λx hx=>by obtain⟨p,_,rfl⟩:=Hl.mp hx; exact wq p) (kF ps) (by simpa using h)
 rw[G1,GP]at h1;obtain⟨p,hp,rfl⟩:=h1;have e:bL ps=p:=by unfold bL; rw[IG,hp]; rfl
 rw[e];exact#[hp,He hp,λy hy=>h3 _ (Hl.mpr #[y,hy,rfl])]
def d3 {n:GX}{os:GK (GK GX)}{o':GK GX}:o'∈aC n os↔∃o∈os,∃p,p < n/\p∉o/\o'=o++[p]:=by
 unfold aC;rw[KQ];constructor
 ·rintro⟨o,ho,h⟩;obtain⟨p,hp,rfl⟩:=Hl.mp h;obtain⟨h1,h2⟩:=JF.mp hp;exact#[o,ho,p,HZ.mp h1,HF h2,rfl]
 ·rintro⟨o,ho,p,h1,h2,rfl⟩;exact#[o,ho,Hl.mpr #[p,JF.mpr #[HZ.mpr h1,HN h2],rfl]]
def fg {bs:GK G7}{u:Wd}{o:GK GX}{p:GX}:aR bs u (o++[p])=kD bs u o p:=by
 unfold aR;rw[Mu,Mv]
def gJ {n:GX}{o:GK GX}{p:GX}:Ord n (o++[p])↔Ord n o/\p < n/\p∉o:=by
 constructor
 ·rintro⟨nd,lt⟩;rw[Jn]at nd;exact#[#[nd.1,λq hq=>lt q (Ji _ hq)],lt p (by simp),λz=>nd.2.2 p z p (by simp) rfl]
 ·rintro⟨⟨nd,lt⟩,h1,h2⟩;show#[Jn.mpr #[nd,by simp,λa ha b hb e=>?_],λq hq=>?_]
  ·rw[Hc.mp hb]at e;exact h2 (e ▸ ha)
  ·rcases HU.mp hq with z|z
   ·exact lt q z
   ·rw[Hc.mp z]; exact h1
def oy {n:GX}{o:GK GX}(h:Ord n o)(hl:o.length < n):∃p,p < n/\p∉o:=by
 by_cases z:∃p,p < n/\p∉o
 ·exact z
 ·have h1:=fS (HJ n) o LD λp hp=>by
   by_cases z2:p∈o
   ·exact z2
   ·exact absurd #[p,HZ.mp hp,z2] z
  rw[Iu]at h1;omega
def Eu (u v:Wd):(d8 (bU u) (bU v)).isSome=true:=by
 have:=d0 [u,v];unfold eE at this;rw[Hq]at this;have:=this (bU u) (by simp)
 rw[Hq]at this;exact this (bU v) (by simp)
def Cm {u v:Wd}(h:d8 (bU u) (bU v)≠ba true):d8 (bU u) (bU v)=ba false:=by
 obtain⟨b,hb⟩:=Ih.mp (Eu u v);cases b with
 | false=>exact hb
 | true=>exact absurd hb h
structure GrOk (bs:GK G7)(u:Wd)(k:GX):Prop where
 mem:∀o,o∈dI bs u k↔Ord u.length o/\o.length=k/\ar bs u o=l7 bs u k
 least:∀o,Ord u.length o->o.length=k->d8 (bU (ar bs u o)) (bU (l7 bs u k))=ba false
 ne:dI bs u k≠[]
 len:(l7 bs u k).length=k
def q8 {k:GX}{o:GK GX}(h:o.length=k+1):∃o' p,o=o'++[p]/\o'.length=k:=by
 have hne:o≠[]:=λz=>by rw[z]at h; cases h
 exact#[o.dropLast,o.getLast hne,(List.dropLast_concat_getLast hne).symm,by rw[List.length_dropLast]; omega]
def kH {bs:GK G7}{u:Wd}:∀k,k<=u.length->GrOk bs u k
 | 0,_=>by
  show#[λo=>?_,λo _ hl=>?_,NL _ _,rfl]
  ·rw[dI,Hc];exact#[λh=>by subst h; exact#[#[.nil,λp hp=>nomatch hp],rfl,rfl],λh=>JX h.2.1]
  ·rw[JX hl]; rfl
 | k+1,hk=>by
  have ih:=kH (bs:=bs) (u:=u) k ∅
  have lne:aC u.length (dI bs u k)≠[]:=by
   obtain⟨o,ho⟩:=Kh _ ih.ne;obtain⟨h1,h2,_⟩:=(ih.mem o).mp ho;obtain⟨p,hp,hpo⟩:=oy h1 ∅
   exact Lg (d3.mpr #[o,ho,p,hp,hpo,rfl])
  obtain⟨_,b2,b3⟩:=kG (ps:=(aC u.length (dI bs u k)).map (aR bs u)) (by simpa using lne)
  have ef:l7 bs u (k+1)=l7 bs u k++[bL ((aC u.length (dI bs u k)).map (aR bs u))]:=rfl;have eo:dI bs u (k+1)=(aC u.length (dI bs u k)).filter λo=>decide (aR bs u o=bL ((aC u.length (dI bs u k)).map (aR bs u))):=rfl
  generalize bL ((aC u.length (dI bs u k)).map (aR bs u))=best at b2 b3 ef eo;show#[λo=>?_,λo hO hl=>?_,?_,by rw[ef,G3,ih.len]; rfl]
  ·rw[eo,JF,ef];constructor
   ·rintro⟨h1,h2⟩;obtain⟨o,ho,p,hp,hpo,rfl⟩:=d3.mp h1;obtain⟨g1,g2,g3⟩:=(ih.mem o).mp ho;have h2:=HF h2;rw[fg]at h2;exact#[gJ.mpr #[g1,hp,hpo],by rw[G3,g2]; rfl,by rw[iq,g3,h2]]
   ·rintro⟨h1,h2,h3⟩;obtain⟨o,p,rfl,hl⟩:=q8 h2;obtain⟨g1,g2,g3⟩:=gJ.mp h1;rw[iq]at h3;obtain⟨e1,e2⟩:=List.append_inj h3 (by rw[bo,ih.len,hl])
    show#[d3.mpr #[o,(ih.mem o).mpr #[g1,hl,e1],p,g2,g3,rfl],HN ?_];rw[fg];exact List.singleton_inj.mp e2
  ·obtain⟨o,p,rfl,hl'⟩:=q8 hl;clear hl;have hl:=hl';obtain⟨g1,g2,g3⟩:=gJ.mp hO;show Cm λz=>?_
   rw[iq,ef]at z;have z:ci ((ar bs u o++[kD bs u o p]).map fA) ((l7 bs u k++[best]).map fA)=ba true:=z;rw[HK,HK]at z
   by_cases e:ar bs u o=l7 bs u k
   ·rw[e,ox]at z;have:=Ck (wq _) z;rw[b3 _ (Hl.mpr #[o++[p],d3.mpr #[o,(ih.mem o).mpr #[g1,hl,e],p,g2,g3,rfl],fg])]at this;cases this
   ·have h1:=lE (bU (l7 bs u k)) (bU (ar bs u o)) (jy _) (λh=>e (gF h).symm) (ih.least o g1 hl)
    have h1:ci ((l7 bs u k).map fA) ((ar bs u o).map fA)=ba true:=h1;have h2:=ou (as:=[best].map fA) (bs:=[kD bs u o p].map fA) (by rw[GU,GU,bo,ih.len,hl]) h1
    have h3:=lD _ _ (by rw[<- HK]; exact iR _) h2
    rw[z]at h3; cases h3
  ·obtain⟨o,ho,e⟩:=Hl.mp b2;rw[eo];exact Lg (JF.mpr #[ho,HN e])
abbrev dA (bs:GK G7)(u:Wd):Wd:=l7 bs u u.length
def gK {bs:GK G7}{u:Wd}:∃o,Ord u.length o/\o.length=u.length/\ar bs u o=dA bs u:=by
 have h:=kH (bs:=bs) (u:=u) u.length (G2 _);obtain⟨o,ho⟩:=Kh _ h.ne;exact#[o,(h.mem o).mp ho]
def fj {bs:GK G7}{u:Wd}{o:GK GX}{i:GX}(hi:i < o.length):(ar bs u o).getD i (0,[])=((u.getD (o.getD i 0) (0,[])).1,(o.take i).map λj=>cm bs u (o.getD i 0) j):=by
 unfold ar;rw[IG,G1,Kk hi]; rfl
def oz {bs:GK G7}{u:Wd}{o:GK GX}{i j:GX}(hi:i < o.length)(hj:j < i):((ar bs u o).getD i (0,[])).2.getD j 0=cm bs u (o.getD i 0) (o.getD j 0):=by
 rw[fj hi];dsimp only;rw[IG,G1,Ls hj,aA (d:=0) (show j < o.length by omega)]; rfl
def wt {bs:GK G7}{a:GX}{u:Wd}{o:GK GX}{i j:GX}(hb:GoodB bs)(hu:GoodW a bs.length u)(hO:Ord u.length o)(hi:i < o.length)(hj:j < o.length)(hij:i≠j):cm bs (ar bs u o) i j=cm bs u (o.getD i 0) (o.getD j 0):=by
 have gi:=aA (d:=0) hi;have gj:=aA (d:=0) hj;have li:=hO.lt _ (He gi);have lj:=hO.lt _ (He gj);have ne:o.getD i 0≠o.getD j 0:=λe=>by
  have h1:o[i]=o.getD i 0:=by simp[hi]
  have h2:o[j]=o.getD j 0:=by simp[hj]
  exact hij ((JS hO.nd).mp (by rw[h1,h2,e]))
 by_cases h:j < i
 ·have:cm bs (ar bs u o) i j=((ar bs u o).getD i (0,[])).2.getD j 0:=by unfold cm; rw[Hk h]
  rw[this,oz hi h]
 ·have:cm bs (ar bs u o) i j=bs.getD (((ar bs u o).getD j (0,[])).2.getD i 0).toNat 0:=by unfold cm; rw[Hu h]
  rw[this,oz hj ∅]
  generalize o.getD i 0=x at *
  generalize o.getD j 0=y at *
  unfold cm
  by_cases h2:x < y
  ·rw[Hk h2,Hu ∅]
  ·rw[Hu h2,Hk ∅]
   have hp:=aA (d:=(0,[])) li;have hw:y < (u.getD x (0,[])).2.length:=by rw[hu.len x _ hp]; omega
   obtain⟨w0,w1⟩:=hu.way x _ hp _ (He (aA (d:=0) hw));have:=hb.inv ((u.getD x (0,[])).2.getD y 0).toNat ∅
   rw[this]; omega
def kI {bs:GK G7}{a:GX}{u:Wd}{o p:GK GX}(hb:GoodB bs)(hu:GoodW a bs.length u)(hO:Ord u.length o)(hP:Ord o.length p):ar bs (ar bs u o) p=ar bs u (p.map λi=>o.getD i 0):=by
 show KM (by rw[bo,bo,GU]) λk h1 h2=>?_
 rw[bo]at h1;have e1:=fj (bs:=bs) (u:=ar bs u o) (o:=p) h1;have e2:=fj (bs:=bs) (u:=u) (o:=p.map λi=>o.getD i 0) (i:=k) (by rw[GU]; exact h1)
 have hk:p.getD k 0 < o.length:=hP.lt _ (He (aA (d:=0) h1));have ek:(p.map λi=>o.getD i 0).getD k 0=o.getD (p.getD k 0) 0:=by
  rw[IG,G1,aA (d:=0) h1]; rfl
 rw[ek]at e2;rw[fj hk]at e1;have f:∀(v:Wd) (hv:k < v.length),v[k]=v.getD k (0,[]):=λv hv=>by simp[hv]
 rw[f _ (by rw[bo]; exact h1),f _ h2,e1,e2]
 congr 1;rw[<- Ly,Jg];show IK λj hj=>?_
 obtain⟨m,hm,rfl⟩:=KT.mp hj;rw[Im]at hm;rw[Lq];have hpm:p[m]=p.getD m 0:=by simp[show m < p.length by omega]
 rw[hpm];show wt hb hu hO hk (hP.lt _ (He (aA (d:=0) (show m < p.length by omega)))) λe=>?_
 have h3:p[k]=p.getD k 0:=by simp[h1]
 have:=(JS hP.nd).mp (h3.trans (e.trans hpm.symm));omega
def iS {n:GX}{o:GK GX}(h:Ord n o)(hl:o.length=n){p:GX}(hp:p < n):p∈o:=by
 by_cases z:p∈o
 ·exact z
 ·have:=(gJ (n:=n) (o:=o) (p:=p)).mpr #[h,hp,z];have h1:=fS (o++[p]) (HJ n) this.nd λq hq=>HZ.mpr (this.lt q hq)
  rw[G3,Iu,KD]at h1;omega
def wu {n:GX}{o p:GK GX}(h:Ord n o)(hp:Ord o.length p):Ord n (p.map λi=>o.getD i 0):=by
 have g:∀i,i < o.length->o[i]?=ba (o.getD i 0):=λi hi=>aA hi
 show#[?_,λq hq=>?_]
 ·rw[J9,Jo];show hp.nd.imp_of_mem λ{a b} ha hb hab e=>hab ?_
  have h1:=hp.lt a ha;have h2:=hp.lt b hb;have e1:o[a]=o.getD a 0:=by simp[h1]
  have e2:o[b]=o.getD b 0:=by simp[h2]
  exact(JS h.nd).mp (by rw[e1,e2,e])
 ·obtain⟨i,hi,rfl⟩:=Hl.mp hq;exact h.lt _ (He (g i (hp.lt i hi)))
def pP {bs:GK G7}{a:GX}{u:Wd}{o:GK GX}(hb:GoodB bs)(hu:GoodW a bs.length u)(hO:Ord u.length o)(hl:o.length=u.length):dA bs (ar bs u o)=dA bs u:=by
 have pl:(ar bs u o).length=u.length:=by rw[bo,hl]
 obtain⟨p,p1,p2,p3⟩:=gK (bs:=bs) (u:=ar bs u o);obtain⟨q,q1,q2,q3⟩:=gK (bs:=bs) (u:=u);rw[pl]at p1 p2;have m1:=λo h1 h2=>(kH (bs:=bs) (u:=u) _ (G2 _)).least o h1 h2
 have m2:=λo2 h1 h2=>(kH (bs:=bs) (u:=ar bs u o) _ (G2 _)).least o2 h1 h2
 show gF (qZ (jy _) ?_ ?_)
 ·rw[<- p3,kI hb hu hO (by rw[hl]; exact p1)]
  exact m1 _ (wu hO (by rw[hl]; exact p1)) (by rw[GU,p2])
 ·have e:q=(q.map λx=>o.idxOf x).map λi=>o.getD i 0:=by
   rw[Jg]
   conv=>lhs; rw[<- List.map_id q]
   show IK λx hx=>?_
   have hm:=iS hO hl (q1.lt x hx);have hlt:=Jw hm;change x=o.getD (o.idxOf x) 0;rw[IG,G5 hlt,Lh]; rfl
  have hQ:Ord o.length (q.map λx=>o.idxOf x):=by
   show#[?_,λi hi=>?_]
   ·rw[J9,Jo];show q1.nd.imp_of_mem λ{x y} hx hy hxy e=>hxy ?_
    have h1:=Jw (iS hO hl (q1.lt x hx));have h2:=Jw (iS hO hl (q1.lt y hy));have e1:=Lh h1;have e2:=Lh h2;rw[<- e1,<- e2];congr 1
   ·obtain⟨x,hx,rfl⟩:=Hl.mp hi;exact Jw (iS hO hl (q1.lt x hx))
  rw[<- q3,e,<- kI hb hu hO hQ];exact m2 _ (by rw[pl,<- hl]; exact hQ) (by rw[GU,pl,q2])
section
variable{M:Ha->FF}{Z:Fm}{S:aa}
def Cn {α:Type}{elt a b:E}{cs:Es}{cap:GK (GR GX)}{Q:QW}(L:GK α)(f g:α->W)(p:α->Hr)(h:α->W)(R:Fm)(oa:bW a=true)(ob:bW b=true)(oe:bW elt=true)(oc:mo cs=true)(hc:cH cap Z=gV::gV::gV::R)(hl:L.length<=1000000)
  (he:wE M a Z S λq=>wE M b Z q.2 λq2=>∃r t,q.1=.ref r/\q2.1=.ref t/\q2.2[r]?=ba (.lst (L.map f))/\q2.2[t]?=ba (.lst (L.map g))/\Ka S q2.2)
  (hstep:∀x∈L,∀S',Ka S S'->iF M elt cs (gV::ba (f x)::ba (g x)::R) S' (λy _ S2=>p x=true/\y=h x/\Ka S' S2) (λ_ S2=>p x=false/\Ka S' S2))
  (k:∀S',Ka S S'->Q (.ref S'.length,S'++[.lst ((L.filter p).map h)])):Wp (aq M (.comp elt (.tp [1,2]) (.zip #v[a,b]) cs cap) Z S) Q:=by
 obtain⟨w,S0,e1,h1⟩:=aV oa he;obtain⟨w2,S1,e2,r,t,rfl,rfl,hr,ht,k1⟩:=aV ob h1;have hr:=hr;have hz:gp (L.map f) (L.map g)=L.map λx=>W.tup [f x,g x]:=by
  unfold gp;rw[NO,List.zipWith_self]
 have hi:fO M (.zip #v[a,b]) Z S=ba (.zl r t,S1):=by
  dsimp only at hr ht;simp only[fO,b7,cG,fM,uZ,e1,e2,BH,ap hr,ap ht]
 dsimp only at hr ht k1;exact pN L (λx=>W.tup [f x,g x]) p h (λZ=>∃a b,Z=gV::a::b::R) (λx=>gV::ba (f x)::ba (g x)::R) (λ_ _ _ h=>let ⟨_,_,e⟩:=h; e ▸ #[rfl,_,_,rfl]) oe oc #[_,_,hc] hl hi k1 (λi S' h=>by simp only[MI.at,ap (h.get _ _ hr),ap (h.get _ _ ht),hz]) (by simp only[MI.len,ap hr,ap ht,hz]) hstep k
end
def Co (L:GK Pt):W.ts (L.map b9)=ba (L.map fA):=by rw[<- pG]; exact T.ws_ts _
abbrev a7:Ss:=
 #v[.set 2 (.lst .nil),.set 3 (.lst #v[.tup .nil]),.whl (.cmp .lt (.bi .len #v[.v 2]) (.bi .len #v[.v 1])) #v[.set 4 (.own "longer_orders" 2 #v[.v 3,.bi .len #v[.v 1]]),.set 5 (.comp (.own "point_over" 4 #v[.v 2,.v 3,.sl (.v 1) .no (.yes (.neg (.c (.int 1)))),.ix (.v 1) (.neg (.c (.int 1)))]) (.nm 1) (.seq (.v 4)) .nil [gV,gV,ba 0,ba 1]),.set 6 (.bi .min #v[.v 5]),.ex (.me .append (.v 2) #v[.v 6]),.set 3 (.comp (.v 1) (.tp [1,2]) (.zip #v[.v 4,.v 5]) #v[.cmp .eq (.v 2) (.v 3)] [gV,gV,gV,ba 6])],.ret (.bi .tuple #v[.v 2])]
section
variable{defs:GK (Ha×Df)}{fuel d:GX}{S:aa}{Q:QW}
def Cp {l:GX}{ps:GK Pt}(h:S[l]?=ba (.lst (ps.map b9)))(hne:ps≠[])(q:Q (b9 (bL ps),S)):wO (Bi.min.fn [.ref l] S) Q:=by
 show ab ?_ q;simp only[Bi.fn,uu,ap h,Co];rw[Hk #[by have:=ik ps; unfold cQ; omega,kF _],G1,(kG hne).1]; rfl
def q9 {bs:GK G7}{u:Wd}:∀k,(dI bs u k).length<=u.length ^ k
 | 0=>G2 _
 | k+1=>by
  have h1:=J3 (λo=>decide (aR bs u o=bL ((aC u.length (dI bs u k)).map (aR bs u)))) (aC u.length (dI bs u k))
  have h2:=gI (n:=u.length) (dI bs u k);have h3:=Mt u.length (q9 (bs:=bs) (u:=u) k);rw[Nat.pow_succ];exact Hz h1 (Hz h2 h3)
def l9 (hfu:20 < fuel)(P:Parts defs)(hlo:Is defs ("longer_orders" : Ha) 2 4 aE)(hg:Is defs ("least_form" : Ha) 2 7 a7){m0 b0:W}{ns:GK Ha}{bs:GK G7}{a:GX}{u:Wd}(hb:GoodB bs)(hnl:ns.length=bs.length)(hu:GoodW a bs.length u)(hu6:u.length<=6)
  (kk:∀S',Ka S S'->Q (aS (dA bs u),S')) :
  wO (aL (aj defs fuel (d+3)) "least_form" 2 [.tup [m0,.tup (Hd aH ns bs),b0],aS u] S) Q:=by
 show ak hg rfl rfl λQ' hR=>?_
 replace kk:∀S',Ka S S'->Q' (.rt (aS (dA bs u)),S'):=λS' a=>hR _ _ (kk S' a)
 clear hR;change wZ _ _ a7 [ba (.tup [m0,.tup (Hd aH ns bs),b0]),ba (aS u),gV,gV,gV,gV,gV] S Q';generalize hR0:W.tup [m0,.tup (Hd aH ns bs),b0]=R;have ul:(u.map b9).length=u.length:=GU ..;dsimp only[a7];show st ?_;dsimp only[wS,wE,wA,G9];show st ?_;dsimp only[wS,wE,wA,G9];nofun
 show Ae (λm Z S'=>∃(k q:GX) (a4 a5 a6:GR W),k+m=u.length/\Z=[ba R,ba (aS u),ba (.ref S.length),ba (.ref q),a4,a5,a6]/\S'[S.length]?=ba (.lst ((l7 bs u k).map b9))/\S'[q]?=ba (.lst (cL (dI bs u k)))/\Ka S S') u.length rfl rfl ∅ #[0,(S++[O.lst []]).length,gV,gV,gV,∅,rfl,am ag,ag,Ka.push.trans .push] ?_
 rintro m Z S1 ⟨k,q,a4,a5,a6,hkm,rfl,e1,e2,k1⟩;have ok:=kH (bs:=bs) (u:=u) k ∅
 have hl1:=dk e1;dsimp only[wT,wE,wA,wV,wG];show nH e1 (bp ?_);rw[ul,GU,ok.len];dsimp only[BZ,ay,wB];show#[λh=>?_,λh=>?_]
 ·have h:(k:G7) < u.length:=HF h;have hkn:k < u.length:=∅
  show#[m - 1,∅,λQ2 hn _=>?_]
  clear hK kk;have hgl:(dI bs u k).length<=7776:=Hz (q9 k) (Hz (Nat.pow_le_pow_left hu6 k) (Nat.pow_le_pow_right (n:=6) #v[] (show k<=5 by omega)))
  have hmul:(dI bs u k).length*u.length<=46656:=Nat.mul_le_mul hgl hu6;have hll:(aC u.length (dI bs u k)).length<=46656:=Hz (gI _) hmul;show st ?_;left;show bp ?_;rw[ul];show wn (d:=d+1) hlo e2 ∅ (λo ho=>by have:=((ok.mem o).mp ho).2.1; omega) ∅ λl S2 e3 hl k2=>?_
  have hl:S1.length<=l:=hl;have lne:aC u.length (dI bs u k)≠[]:=by
   obtain⟨o,ho⟩:=Kh _ ok.ne;obtain⟨h1,h2,_⟩:=(ok.mem o).mp ho;obtain⟨p,hp,hpo⟩:=oy h1 ∅
   exact Lg (d3.mpr #[o,ho,p,hp,hpo,rfl])
  show st ?_;dsimp only[wS,wE,G9];show Cg (aC u.length (dI bs u k)) (λo=>.tup (aw o)) (λ_=>true) (λo=>b9 (aR bs u o)) [ba R,ba (aS u)] rfl rfl rfl rfl ∅ #[l,rfl,e3,.refl] (λo ho S3 k3=>?_) λS3 k3=>?_
  ·obtain⟨o,ho',p,hp,hpo,rfl⟩:=d3.mp ho;obtain⟨⟨o1,o2⟩,o3,_⟩:=(ok.mem o).mp ho';dsimp only[iF,wC,wE,wA,wP,wV,wG,wN];show#[λ_=>?_,λz=>by cases z]
   show ab (show oF (.tup (aw (o++[p]))) gV (ba (-1)) S3=ba (.tup (aw o),S3) by simp only[oF,wm,sG,Mu]) ?_
   dsimp only;show ab (zz (by simp)) ?_
   dsimp only;subst hR0;rw[Mv,fg];exact Cc (d:=d) P hb hnl hu (λx hx=>#[o2 x hx,λe=>hpo (e ▸ hx)]) hp ∅ λS4 k4=>#[rfl,rfl,k4]
  rw[jA];have em:(aC u.length (dI bs u k)).map (λo=>b9 (aR bs u o))=((aC u.length (dI bs u k)).map (aR bs u)).map b9:=by rw[Jg]; rfl
  rw[em];have e4:(S3++[O.lst (((aC u.length (dI bs u k)).map (aR bs u)).map b9)])[S3.length]?=ba (.lst (((aC u.length (dI bs u k)).map (aR bs u)).map b9)):=ag;have e3':=am (u:=O.lst (((aC u.length (dI bs u k)).map (aR bs u)).map b9)) (k3.get _ _ e3);have e1':=am (u:=O.lst (((aC u.length (dI bs u k)).map (aR bs u)).map b9)) (k3.get _ _ (k2.get _ _ e1));have ls3:S.length < S3.length:=Ht hl1 (Hz k2.len k3.len);have k4:Ka S (S3++[O.lst (((aC u.length (dI bs u k)).map (aR bs u)).map b9)]):=((k1.trans k2).trans k3).trans .push;generalize S3++[O.lst (((aC u.length (dI bs u k)).map (aR bs u)).map b9)]=S4 at e4 e3' e1' k4;generalize hl5:S3.length=l5 at e4 ls3;clear e2 e3 k3 k2 hl5;show st ?_;left;show Cp e4 (by simpa using lne) ?_
  show st ?_;left;show#[ei e1',Cf e1' (by rw[GU,ok.len]; omega) ?_]
  have s1:=bJ (o':=O.lst ((l7 bs u k).map b9++[b9 (bL ((aC u.length (dI bs u k)).map (aR bs u)))])) e1';have s3:(S4.set S.length (O.lst ((l7 bs u k).map b9++[b9 (bL ((aC u.length (dI bs u k)).map (aR bs u)))])))[l]?=ba (.lst (cL (aC u.length (dI bs u k)))):=by rw[bf ∅]; exact e3'
  have s4:(S4.set S.length (O.lst ((l7 bs u k).map b9++[b9 (bL ((aC u.length (dI bs u k)).map (aR bs u)))])))[l5]?=ba (.lst (((aC u.length (dI bs u k)).map (aR bs u)).map b9)):=by rw[bf ∅]; exact e4
  have k5:=k4.late (o:=O.lst ((l7 bs u k).map b9++[b9 (bL ((aC u.length (dI bs u k)).map (aR bs u)))])) (G2 S.length);generalize S4.set S.length (O.lst ((l7 bs u k).map b9++[b9 (bL ((aC u.length (dI bs u k)).map (aR bs u)))]))=S5 at s1 s3 s4 k5;show st ?_;dsimp only[wS,wE,G9];show Cn (aC u.length (dI bs u k)) (λo=>.tup (aw o)) (λo=>b9 (aR bs u o)) (λo=>decide (aR bs u o=bL ((aC u.length (dI bs u k)).map (aR bs u)))) (λo=>.tup (aw o)) [ba (b9 (bL ((aC u.length (dI bs u k)).map (aR bs u))))] rfl rfl rfl rfl rfl ∅ #[l,l5,rfl,rfl,s3,by rw[em]; exact s4,.refl] (λo ho S6 k6=>?_) λS6 k6=>?_
  ·dsimp only[iF,wC,wT,wE,wV,wG];show ab Et ?_;dsimp only[wB];exact#[λz=>#[z,rfl,.refl],λz=>#[z,.refl]]
  ·show bX (hn _ _ #[k+1,S6.length,_,_,_,∅,rfl,?_,ag,(k5.trans k6).trans .push])
   have:=am (u:=O.lst (((aC u.length (dI bs u k)).filter λo=>decide (aR bs u o=bL ((aC u.length (dI bs u k)).map (aR bs u)))).map λo=>W.tup (aw o))) (k6.get _ _ s1)
   rw[this,show l7 bs u (k+1)=l7 bs u k++[bL ((aC u.length (dI bs u k)).map (aR bs u))]from rfl,HK]; rfl
 ·have h:¬ (k:G7) < u.length:=Iy h;obtain rfl:k=u.length:=∅
  show hK _ _ (st ?_);left;exact eS e1 (kk _ k1)
end
def jB {α:Type}:∀L:GK α,ec (L.map λ_=>W.bl true)=ba (L.map λ_=>true)
 | []=>rfl
 | _::L=>by rw[HX,ec,jB L]; rfl
section
variable{M:Ha->FF}{Z:Fm}{S:aa}
def kJ {α:Type}{elt:E}{tg:Tg}{it:Ie}{cap:GK (GR GX)}{mi:MI}{S1:aa}{Q:QW}(L:GK α)(f:α->W)(td:Fm->Prop)(fr:α->Fm)(hJ:∀x Z S,td Z->gO tg (f x) Z S=ba (fr x,S)/\td (fr x))(oe:bW elt=true)(hc:td (cH cap Z))(hl:L.length<=1000000)(hi:fO M it Z S=ba (mi,S1))(k1:Ka S S1)(hat:∀i S',Ka S1 S'->mi.at S' i=ba (L.map f)[i]?)(hn:mi.len S1=ba (L.map f).length)
  (hstep:∀x∈L,∀S',Ka S S'->wE M elt (fr x) S' λy=>true=true/\y.1=.bl true/\Ka S' y.2)
  (k:∀S',Ka S S'->Q (.bl true,S')):wE M (.bi .all #v[.comp elt tg it .nil cap]) Z S Q:=by
 dsimp only[wE,wA];show pN L f (λ_=>true) (λ_=>.bl true) td fr hJ oe rfl hc hl hi k1 hat hn (λx hx S' k'=>?_) λS' k'=>?_
 ·dsimp only[iF,wC];exact#[λ_=>hstep x hx S' k',λz=>by cases z]
 ·rw[jA];show ab (a:=(.bl true,S'++[.lst (L.map λ_=>W.bl true)])) ?_ (k _ (k'.trans .push))
  dsimp only[Bi.fn,yc];simp only[ap (ag (S:=S') (o:=.lst (L.map λ_=>W.bl true))),jB,HC]
  have:(L.map λ_=>true).all id=true:=by rw[Nk]; exact Hq.mpr λ_ _=>rfl
  rw[this]
def jC {α:Type}{elt e:E}{cap:GK (GR GX)}{Q:QW}(L:GK α)(f:α->W)(R:Fm)(oi:bW e=true)(oe:bW elt=true)(hc:cH cap Z=gV::gV::R)(hl:L.length<=1000000)
  (he:wE M e Z S λq=>q.1=.tup (L.map f)/\Ka S q.2)
  (hstep:∀x∈L,∀S',Ka S S'->wE M elt (gV::ba (f x)::R) S' λy=>true=true/\y.1=.bl true/\Ka S' y.2)
  (k:∀S',Ka S S'->Q (.bl true,S')):wE M (.bi .all #v[.comp elt (.nm 1) (.seq e) .nil cap]) Z S Q:=by
 obtain⟨w,S1,e1,rfl,k1⟩:=aV oi he;exact kJ (mi:=.its (L.map f)) L f (λZ=>∃a,Z=gV::a::R) (λx=>gV::ba (f x)::R) (λ_ _ _ h=>let ⟨_,e⟩:=h; e ▸ #[rfl,_,rfl]) oe #[_,hc] hl (by simp only[fO,cN,e1]) k1 (λ_ _ _=>rfl) rfl hstep k
def Ev {α:Type}{elt e:E}{cap:GK (GR GX)}{Q:QW}(L:GK α)(f:α->W)(R:Fm)(oi:bW e=true)(oe:bW elt=true)(hc:cH cap Z=gV::gV::R)(hl:L.length<=1000000)
  (he:wE M e Z S λq=>∃t,q.1=.ref t/\q.2[t]?=ba (.lst (L.map f))/\Ka S q.2)
  (hstep:∀x∈L,∀S',Ka S S'->wE M elt (gV::ba (f x)::R) S' λy=>true=true/\y.1=.bl true/\Ka S' y.2)
  (k:∀S',Ka S S'->Q (.bl true,S')):wE M (.bi .all #v[.comp elt (.nm 1) (.seq e) .nil cap]) Z S Q:=by
 obtain⟨w,S1,e1,t,rfl,ht,k1⟩:=aV oi he;exact kJ (mi:=.live t) L f (λZ=>∃a,Z=gV::a::R) (λx=>gV::ba (f x)::R) (λ_ _ _ h=>let ⟨_,e⟩:=h; e ▸ #[rfl,_,rfl]) oe #[_,hc] hl (by simp only[fO,cN,e1,ap ht]) k1 (λi S' h=>by simp only[MI.at,ap (h.get _ _ ht)]) (by simp only[MI.len,ap ht,HC]) hstep k
def Ew {elt e:E}{cap:GK (GR GX)}{Q:QW}(x:Ha)(R:Fm)(oi:bW e=true)(oe:bW elt=true)(hc:cH cap Z=gV::gV::R)(hl:x.cps.toList.length<=1000000)(ha:(x.cps.all λc=>decide (c < 128))=true)
  (he:wE M e Z S λq=>q.1=.str x/\Ka S q.2)
  (hstep:∀c∈x.cps.toList,∀S',Ka S S'->wE M elt (gV::ba (.str #[[c].toArray])::R) S' λy=>true=true/\y.1=.bl true/\Ka S' y.2)
  (k:∀S',Ka S S'->Q (.bl true,S')):wE M (.bi .all #v[.comp elt (.nm 1) (.seq e) .nil cap]) Z S Q:=by
 obtain⟨w,S1,e1,rfl,k1⟩:=aV oi he;exact kJ (mi:=.its (x.cps.toList.map λc=>W.str #[[c].toArray])) x.cps.toList (λc=>W.str #[[c].toArray]) (λZ=>∃a,Z=gV::a::R) (λc=>gV::ba (.str #[[c].toArray])::R) (λ_ _ _ h=>let ⟨_,e⟩:=h; e ▸ #[rfl,_,rfl]) oe #[_,hc] hl (by simp only[fO,cN,e1,ha,JQ]) k1 (λ_ _ _=>rfl) rfl hstep k
def Ai {elt e:E}{cap:GK (GR GX)}{Q:QW}(n:GX)(R:Fm)(oi:bW e=true)(oe:bW elt=true)(hc:cH cap Z=gV::gV::R)(hl:n<=1000000)
  (he:wE M e Z S λq=>q.1=.int n/\Ka S q.2)
  (hstep:∀x < n,∀S',Ka S S'->wE M elt (gV::ba (.int (x:GX))::R) S' λy=>true=true/\y.1=.bl true/\Ka S' y.2)
  (k:∀S',Ka S S'->Q (.bl true,S')):wE M (.bi .all #v[.comp elt (.nm 1) (.rng #v[e]) .nil cap]) Z S Q:=by
 obtain⟨w,S1,e1,rfl,k1⟩:=aV oi he;show kJ (mi:=.its (cj 0 n)) (HJ n) (λi=>W.int (i:GX)) (λZ=>∃a,Z=gV::a::R) (λx=>gV::ba (.int (x:GX))::R) (λ_ _ _ h=>let ⟨_,e⟩:=h; e ▸ #[rfl,_,rfl]) oe #[_,hc] (by rw[Iu]; exact hl) ?_ k1 (λi S' _=>by rw[<- oo]; rfl) (by rw[<- oo]; rfl) (λx hx=>hstep x (HZ.mp hx)) k
 simp only[fO,b7,cG,fM,pc,e1];rw[Hk #[∅,∅]]; rfl
def Aj {α:Type}{elt e:E}{cap:GK (GR GX)}{Q:QW}(L:GK α)(f:α->W)(R:Fm)(oi:bW e=true)(oe:bW elt=true)(hc:cH cap Z=gV::gV::gV::R)(hl:L.length<=1000000)
  (he:wE M e Z S λq=>q.1=.tup (L.map f)/\Ka S q.2)
  (hstep:∀(i:GX) (x:α),L[i]?=ba x->∀S',Ka S S'->wE M elt (gV::ba (.int (i:GX))::ba (f x)::R) S' λy=>true=true/\y.1=.bl true/\Ka S' y.2)
  (k:∀S',Ka S S'->Q (.bl true,S')):wE M (.bi .all #v[.comp elt (.tp [1,2]) (.enu #v[e]) .nil cap]) Z S Q:=by
 obtain⟨w,S1,e1,rfl,k1⟩:=aV oi he;have hz:L.zipIdx.map (λp=>W.tup [.int (p.2:GX),f p.1])=ny (L.map f):=by
  unfold ny;rw[List.zipIdx_map,Jg]; rfl
 show kJ (mi:=.its (ny (L.map f))) L.zipIdx (λp=>W.tup [.int (p.2:GX),f p.1]) (λZ=>∃a b,Z=gV::a::b::R) (λp=>gV::ba (.int (p.2:GX))::ba (f p.1)::R) (λ_ _ _ h=>let ⟨_,_,e⟩:=h; e ▸ #[rfl,_,_,rfl]) oe #[_,_,hc] (by rw[M3]; exact hl) (by simp only[fO,b7,cG,fM,yQ,e1,BH]) k1 (λi S' _=>by rw[hz]; rfl) (by rw[hz]; rfl) (λp hp=>hstep p.2 p.1 ?_) k
 exact(List.mem_zipIdx_iff_getElem?.mp hp)
def Ex {α:Type}{elt a b:E}{cap:GK (GR GX)}{Q:QW}(L:GK α)(f g:α->W)(R:Fm)(oa:bW a=true)(ob:bW b=true)(oe:bW elt=true)(hc:cH cap Z=gV::gV::gV::R)(hl:L.length<=1000000)(xs ys:GK W)(hx:gp xs ys=L.map λx=>W.tup [f x,g x])
  (he:wE M a Z S λq=>wE M b Z q.2 λq2=>q.1=.tup xs/\q2.1=.tup ys/\Ka S q2.2)
  (hstep:∀x∈L,∀S',Ka S S'->wE M elt (gV::ba (f x)::ba (g x)::R) S' λy=>true=true/\y.1=.bl true/\Ka S' y.2)
  (k:∀S',Ka S S'->Q (.bl true,S')):wE M (.bi .all #v[.comp elt (.tp [1,2]) (.zip #v[a,b]) .nil cap]) Z S Q:=by
 obtain⟨w,S0,e1,h1⟩:=aV oa he;obtain⟨w2,S1,e2,rfl,rfl,k1⟩:=aV ob h1;exact kJ (mi:=.its (gp xs ys)) L (λx=>W.tup [f x,g x]) (λZ=>∃a b,Z=gV::a::b::R) (λx=>gV::ba (f x)::ba (g x)::R) (λ_ _ _ h=>let ⟨_,_,e⟩:=h; e ▸ #[rfl,_,_,rfl]) oe #[_,_,hc] hl (by simp only[fO,b7,cG,fM,uZ,e1,e2,BH]) k1 (λi S' _=>by rw[<- hx]; rfl) (by rw[<- hx]; rfl) hstep k
end
abbrev ey:Ss:=
 #v[.ret (.and (.isi "int" (.v 0)) (.not (.isi "bool" (.v 0))))]
abbrev cD:Ss:=
 #v[.ret (.and (.isi "tuple" (.v 0)) (.cmp .eq (.bi .len #v[.v 0]) (.v 1)))]
abbrev cZ:Ss:=
 #v[.ret (.and (.own "is_tuple_of" 2 #v[.v 0,.v 1]) (.bi .all #v[.comp (.own "is_whole" 1 #v[.v 1]) (.nm 1) (.seq (.v 0)) .nil [gV,gV]]))]
abbrev eA:Ss:=
 #v[.ite (.not (.own "has_point_form" 2 #v[.v 1,.v 2])) #v[.ret (.c (.bl false))] .nil,.set 3 (.chn .le .lt (.c (.int 0)) (.ix (.v 1) (.c (.int 0))) (.bi .len #v[.ix (.v 0) (.c (.int 0))])),.ret (.and (.v 3) (.bi .all #v[.comp (.chn .le .lt (.c (.int 0)) (.v 1) (.bi .len #v[.ix (.v 2) (.c (.int 1))])) (.nm 1) (.seq (.ix (.v 1) (.c (.int 1)))) .nil [gV,gV,ba 0]]))]
abbrev bF:Ss:=
 #v[.ret (.and (.own "is_tuple_of" 2 #v[.v 0,.c (.int 2)]) (.and (.own "is_whole" 1 #v[.ix (.v 0) (.c (.int 0))]) (.own "is_numbers" 2 #v[.ix (.v 0) (.c (.int 1)),.v 1])))]
abbrev ma:Ss:=
 #v[.ret (.ix (.ix (.ix (.v 0) (.c (.int 1))) (.v 1)) (.c (.int 1)))]
abbrev eB:Ss:=
 #v[.ite (.or (.not (.own "is_tuple_of" 2 #v[.v 0,.c (.int 3)])) (.not (.bi .all #v[.comp (.isi "tuple" (.v 1)) (.nm 1) (.seq (.v 0)) .nil [gV,gV]]))) #v[.ret (.c (.bl false))] .nil,.set 1 (.bi .all #v[.comp (.isi "str" (.v 1)) (.nm 1) (.seq (.ix (.v 0) (.c (.int 0)))) .nil [gV,gV]]),.ret (.and (.v 1) (.and (.bi .all #v[.comp (.own "is_way" 1 #v[.v 1]) (.nm 1) (.seq (.ix (.v 0) (.c (.int 1)))) .nil [gV,gV]]) (.bi .all #v[.comp (.own "is_three" 1 #v[.v 1]) (.nm 1) (.seq (.ix (.v 0) (.c (.int 2)))) .nil [gV,gV]])))]
abbrev gL:Ss:=
 #v[.ret (.and (.own "is_tuple_of" 2 #v[.v 0,.c (.int 2)]) (.and (.isi "str" (.ix (.v 0) (.c (.int 0)))) (.own "is_whole" 1 #v[.ix (.v 0) (.c (.int 1))])))]
abbrev eC:Ss:=
 #v[.ret (.and (.own "is_tuple_of" 2 #v[.v 0,.c (.int 3)]) (.bi .all #v[.comp (.own "has_point_form" 2 #v[.v 2,.v 1]) (.tp [1,2]) (.enu #v[.v 0]) .nil [gV,gV,gV]]))]
abbrev cf:Ss:=
 #v[.set 1 (.bi .len #v[.ix (.v 0) (.c (.int 0))]),.set 2 (.bi .len #v[.ix (.v 0) (.c (.int 1))]),.ret (.and (.chn .le .le (.c (.int 1)) (.v 1) (.c (.int 3))) (.and (.chn .le .le (.c (.int 1)) (.v 2) (.c (.int 3))) (.cmp .le (.op .mul (.v 1) (.v 2)) (.c (.int 6)))))]
abbrev bw:Ss:=
 #v[.set 1 (.op .add (.bi .list #v[.ix (.v 0) (.c (.int 0))]) (.comp (.ix (.v 1) (.c (.int 0))) (.nm 1) (.seq (.ix (.v 0) (.c (.int 1)))) .nil [gV,gV])),.ret (.and (.bi .all #v[.comp (.own "is_name" 1 #v[.v 1]) (.nm 1) (.seq (.v 1)) .nil [gV,gV]]) (.cmp .eq (.bi .len #v[.bi .set #v[.v 1]]) (.bi .len #v[.v 1])))]
abbrev fm:Ss:=
 #v[.ite (.or (.cmp .isin (.v 0) (.c (.tup (dU.map W.str)))) (.not (.chn .le .le (.c (.int 1)) (.bi .len #v[.v 0]) (.c (.int 8))))) #v[.ret (.c (.bl false))] .nil,.ret (.bi .all #v[.comp (.cmp .isin (.v 1) (.c (.str "abcdefghijklmnopqrstuvwxyz"))) (.nm 1) (.seq (.v 0)) .nil [gV,gV]])]
abbrev bx:Ss:=
 #v[.ret (.bi .all #v[.comp (.own "is_right_back" 2 #v[.v 2,.v 1]) (.nm 1) (.rng #v[.bi .len #v[.ix (.v 0) (.c (.int 1))]]) .nil [gV,gV,ba 0]])]
abbrev bQ:Ss:=
 #v[.set 2 (.own "back" 2 #v[.v 0,.v 1]),.ite (.not (.chn .le .lt (.c (.int 0)) (.v 2) (.bi .len #v[.ix (.v 0) (.c (.int 1))]))) #v[.ret (.c (.bl false))] .nil,.ret (.and (.cmp .le (.bi .abs #v[.op .sub (.v 2) (.v 1)]) (.c (.int 1))) (.cmp .eq (.own "back" 2 #v[.v 0,.v 2]) (.v 1)))]
abbrev bj:Ss:=
 #v[.set 1 (.ix (.v 0) (.c (.int 2))),.set 2 (.bi .all #v[.comp (.cmp .lt (.v 1) (.v 2)) (.tp [1,2]) (.zip #v[.v 1,.sl (.v 1) (.yes (.c (.int 1))) .no]) .nil [gV,gV,gV]]),.ret (.and (.v 2) (.bi .all #v[.comp (.own "is_figure" 2 #v[.v 2,.v 1]) (.nm 1) (.seq (.v 1)) .nil [gV,gV,ba 0]]))]
abbrev dJ:Ss:=
 #v[.ite (.not (.bi .all #v[.comp (.own "is_point" 3 #v[.v 3,.v 2,.v 1]) (.tp [1,2]) (.enu #v[.v 1]) .nil [gV,gV,gV,ba 0]])) #v[.ret (.c (.bl false))] .nil,.ret (.cmp .eq (.own "least_form" 2 #v[.v 0,.v 1]) (.v 1))]
abbrev dL:Ss:=
 #v[.ite (.not (.own "has_form" 1 #v[.v 0])) #v[.bad] .nil,.ite (.not (.own "keeps_bounds" 1 #v[.v 0])) #v[.bad] .nil,.ite (.not (.own "has_right_names" 1 #v[.v 0])) #v[.bad] .nil,.ite (.not (.own "has_right_backs" 1 #v[.v 0])) #v[.bad] .nil,.ite (.not (.own "has_right_barred" 1 #v[.v 0])) #v[.bad] .nil,.ret (.c (.bl true))]
structure Look (defs:GK (Ha×Df)):Prop where
 whole:Is defs ("is_whole" : Ha) 1 1 ey
 tupof:Is defs ("is_tuple_of" : Ha) 2 2 cD
 nums:Is defs ("is_numbers" : Ha) 2 2 cZ
 point:Is defs ("is_point" : Ha) 3 4 eA
 pform:Is defs ("has_point_form" : Ha) 2 2 bF
 back:Is defs ("back" : Ha) 2 2 ma
 form:Is defs ("has_form" : Ha) 1 2 eB
 way:Is defs ("is_way" : Ha) 1 1 gL
 three:Is defs ("is_three" : Ha) 1 1 eC
 bounds:Is defs ("keeps_bounds" : Ha) 1 3 cf
 names:Is defs ("has_right_names" : Ha) 1 2 bw
 name:Is defs ("is_name" : Ha) 1 1 fm
 backs:Is defs ("has_right_backs" : Ha) 1 1 bx
 isback:Is defs ("is_right_back" : Ha) 2 3 bQ
 barred:Is defs ("has_right_barred" : Ha) 1 3 bj
 fig:Is defs ("is_figure" : Ha) 2 2 dJ
 look:Is defs ("look_rule" : Ha) 1 1 dL
section
variable{defs:GK (Ha×Df)}{fuel d:GX}{S:aa}{Q:QW}
def md (L:Look defs){x:G7}(k:Q (.bl true,S)):wO (aL (aj defs fuel (d+1)) "is_whole" 1 [.int x] S) Q:=by
 show ak L.whole rfl rfl λQ' hR=>?_
 change wZ _ _ ey [ba (.int x)] S Q';dsimp only[ey];show st ?_;dsimp only[wS,wE,wV,wG];show ab (show nq S (.int x) "int" = ba true from rfl) #[λ_=>?_,λz=>by cases z]
 exact ab (show nq S (.int x) "bool" = ba false from rfl) (hR _ _ k)
def gM (L:Look defs){xs:GK W}{n:GX}(h:xs.length=n)(k:Q (.bl true,S)):wO (aL (aj defs fuel (d+1)) "is_tuple_of" 2 [.tup xs,.int n] S) Q:=by
 show ak L.tupof rfl rfl λQ' hR=>?_
 change wZ _ _ cD [ba (.tup xs),ba (.int n)] S Q';dsimp only[cD];show st ?_;left;show ab (show nq S (.tup xs) "tuple" = ba true from rfl) #[λ_=>?_,λz=>by cases z]
 show bp (ab eg ?_);rw[h,HI];exact hR _ _ k
def Cq (L:Look defs){ws:GK G7}{n:GX}(h:ws.length=n)(hl:n<=1000)(k:∀S',Ka S S'->Q (.bl true,S')):wO (aL (aj defs fuel (d+2)) "is_numbers" 2 [.tup (ws.map W.int),.int n] S) Q:=by
 show ak L.nums rfl rfl λQ' hR=>?_
 change wZ _ _ cZ [ba (.tup (ws.map W.int)),ba (.int n)] S Q';dsimp only[cZ];show st ?_;left;show gM (d:=d) L (by rw[GU]; exact h) #[λ_=>?_,λz=>by cases z]
 show jC ws W.int [] rfl rfl rfl ∅ #[rfl,.refl] (λx _ S' _=>?_) λS' k'=>hR _ _ (k S' k')
 dsimp only[wE,wA,wV,wG];exact md (d:=d) L #[rfl,rfl,.refl]
def rc (L:Look defs){p:Pt}{n:GX}(h:p.2.length=n)(hl:n<=1000)(k:∀S',Ka S S'->Q (.bl true,S')):wO (aL (aj defs fuel (d+3)) "has_point_form" 2 [b9 p,.int n] S) Q:=by
 show ak L.pform rfl rfl λQ' hR=>?_
 change wZ _ _ bF [ba (b9 p),ba (.int n)] S Q';dsimp only[bF,b9];show st ?_;left;show gM (d:=d+1) (n:=2) L rfl #[λ_=>?_,λz=>by cases z]
 show ah #v[] rfl (md (d:=d+1) L #[λ_=>?_,λz=>by cases z])
 exact ah #v[] rfl (Cq (d:=d) L h hl λS' k'=>hR _ _ (k S' k'))
def zB (L:Look defs){b0:W}{xs ys:GK W}{a n j:GX}{p:Pt}(ha:xs.length=a)(hn:ys.length=n)(h:p.2.length=j)(hl:j<=1000)(hm:0<=p.1/\p.1 < a)(hw:∀w∈p.2,0<=w/\w < (n:G7))(k:∀S',Ka S S'->Q (.bl true,S')) :
  wO (aL (aj defs fuel (d+4)) "is_point" 3 [.tup [.tup xs,.tup ys,b0],b9 p,.int j] S) Q:=by
 show ak L.point rfl rfl λQ' hR=>?_
 change wZ _ _ eA [ba (.tup [.tup xs,.tup ys,b0]),ba (b9 p),ba (.int j),gV] S Q';dsimp only[eA];nofun
 dsimp only[wS,wT,wE,wA,wV,wG];show rc (d:=d) L h hl λS1 k1=>?_
 show ab (show dX S1 (.bl true)=ba true from rfl) ?_
 show au (Q0:=Q') (λz=>by cases z) (λ_ Q2 hn2 _=>bX (hn2 _ _ (hK _ _ ?_)))
 clear hn2 hK K;nofun
 dsimp only[wS,wE,wA,wV,wG,G9,b9];show ah #v[] rfl ?_
 dsimp only;show ab (show oE .le (.int 0) (.int p.1) S1=ba (decide ((0:G7)<=p.1))from rfl) #[λ_=>?_,λz=>absurd hm.1 (Iy z)]
 show ah #v[] rfl (bp ?_)
 show ab (show cg .lt (.int p.1) (.int (xs.length:GX)) S1=ba (.bl (decide (p.1 < (xs.length:G7))),S1)from rfl) (hK _ _ ?_)
 rw[ha,HN hm.2];clear hK K;show st ?_;dsimp only[wS,wE,wV,wG];show#[λ_=>?_,λz=>by cases z]
 show jC p.2 W.int [ba (.tup [.tup xs,.tup ys,b0])] rfl rfl rfl ∅ (by dsimp only[wE,wV,wG]; exact ah #v[] rfl #[rfl,.refl]) (λx hx S' _=>?_) λS' k'=>hR _ _ (k S' (k1.trans k'))
 obtain⟨h0,h1⟩:=hw x hx;dsimp only[wE,wA,wV,wG];show ab (show oE .le (.int 0) (.int x) S'=ba (decide ((0:G7)<=x))from rfl) #[λ_=>?_,λz=>absurd h0 (Iy z)]
 show ah #v[] rfl (bp ?_)
 show ab (show cg .lt (.int x) (.int (ys.length:GX)) S'=ba (.bl (decide (x < (ys.length:G7))),S')from rfl) #[rfl,?_,.refl]
 rw[hn,HN h1]
def zC (L:Look defs){y:Ha}{b:G7}(k:Q (.bl true,S)):wO (aL (aj defs fuel (d+2)) "is_way" 1 [aH y b] S) Q:=by
 show ak L.way rfl rfl λQ' hR=>?_
 change wZ _ _ gL [ba (aH y b)] S Q';dsimp only[gL,aH];show st ?_;left;show gM (d:=d) (n:=2) L rfl #[λ_=>?_,λz=>by cases z]
 show ah #v[] rfl (ab (show nq S (.str y) "str" = ba true from rfl) #[λ_=>?_,λz=>by cases z])
 exact ah #v[] rfl (md (d:=d) L (hR _ _ k))
def zD (L:Look defs){u:Wd}(h3:u.length=3)(hu:∀(k:GX) (p:Pt),u[k]?=ba p->p.2.length=k)(k:∀S',Ka S S'->Q (.bl true,S')):wO (aL (aj defs fuel (d+4)) "is_three" 1 [aS u] S) Q:=by
 show ak L.three rfl rfl λQ' hR=>?_
 change wZ _ _ eC [ba (aS u)] S Q';dsimp only[eC,aS];show st ?_;left;show gM (d:=d+2) (n:=3) L (by rw[GU]; exact h3) #[λ_=>?_,λz=>by cases z]
 show Aj u b9 [] rfl rfl rfl ∅ #[rfl,.refl] (λi p hp S' _=>?_) λS' k'=>hR _ _ (k S' k')
 dsimp only[wE,wA,wV,wG];have:=(G8.mp hp).1;exact rc (d:=d) L (hu i p hp) ∅ λS2 k2=>#[rfl,rfl,k2]
def Cr (L:Look defs){ms ns:GK Ha}{bs:GK G7}{us:GK Wd}(hm:ms.length<=1000)(hn:ns.length=bs.length)(hb:bs.length<=1000)(hus:us.length<=1000)(hu:∀u∈us,u.length=3/\∀(k:GX) (p:Pt),u[k]?=ba p->p.2.length=k)(k:∀S',Ka S S'->Q (.bl true,S')) :
  wO (aL (aj defs fuel (d+5)) "has_form" 1 [aQ ms ns bs us] S) Q:=by
 show ak L.form rfl rfl λQ' hR=>?_
 change wZ _ _ eB [ba (aQ ms ns bs us),gV] S Q';dsimp only[eB];nofun
 dsimp only[wS,wT,wA];dsimp only[wE,wV,wG,aQ];show gM (d:=d+3) (n:=3) L rfl ?_;show ab (show dX S (.bl true)=ba true from rfl) #[λz=>(by cases z),λ_=>?_]
 show jC [W.tup (ms.map W.str),.tup (Hd aH ns bs),.tup (us.map aS)] id [] rfl rfl rfl (by change 3<=1000000; decide) #[rfl,.refl] (λx hx S' _=>?_) λS1 k1=>?_
 ·dsimp only[wE,wV,wG];have:∃xs,x=W.tup xs:=by
   simp only[Hj,HE,IY]at hx;rcases hx with rfl|rfl|rfl <;> exact#[_,rfl]
  obtain⟨xs,rfl⟩:=this;exact ab (show nq S' (.tup xs) "tuple" = ba true from rfl) #[rfl,rfl,.refl]
 show ab (show dX S1 (.bl true)=ba true from rfl) ?_
 show au (Q0:=Q') (λz=>by cases z) (λ_ Q2 hn2 _=>bX (hn2 _ _ (hK _ _ ?_)))
 clear hn2 hK K;nofun
 dsimp only[wS,G9];show jC ms W.str [] rfl rfl rfl ∅ (by dsimp only[wE,wV,wG]; exact ah #v[] rfl #[rfl,.refl]) (λx _ S' _=>?_) λS2 k2=>hK _ _ ?_
 ·dsimp only[wE,wV,wG];exact ab (show nq S' (.str x) "str" = ba true from rfl) #[rfl,rfl,.refl]
 clear hK K;show st ?_;dsimp only[wS];have hz:Hd aH ns bs=(ns.zip bs).map λp=>aH p.1 p.2:=by rw[OZ,LG]
 change wB (.bl true) λk=>(k=true->wE _ _ _ S2 _)/\(k=false->_)
 show#[λ_=>?_,λz=>by cases z]
 change wE _ _ _ S2 λp=>wB p.1 λk=>(k=true->wE _ _ _ p.2 _)/\(k=false->_)
 show jC (ns.zip bs) (λp=>aH p.1 p.2) [] rfl rfl rfl (by rw[L6]; omega) (by dsimp only[wE,wV,wG]; exact ah #v[] rfl #[congrArg W.tup hz,.refl]) (λx _ S' _=>?_) λS3 k3=>#[λ_=>?_,λz=>by cases z]
 ·dsimp only[wE,wA,wV,wG];exact zC (d:=d+2) L #[rfl,rfl,.refl]
 show jC us aS [] rfl rfl rfl ∅ (by dsimp only[wE,wV,wG]; exact ah #v[] rfl #[rfl,.refl]) (λx hx S' _=>?_) λS4 k4=>hR _ _ (k _ (k1.trans (k2.trans (k3.trans k4))))
 dsimp only[wE,wA,wV,wG];obtain⟨h3,hp⟩:=hu x hx;exact zD (d:=d) L h3 hp λS2 k2=>#[rfl,rfl,k2]
end
def ww {S:aa}{zs:GK Ha}{y:Ha}:bS .isin (.str y) (.tup (zs.map W.str)) S=ba (.bl (decide (y∈zs)),S):=by
 show(wY (.str y) (.tup (zs.map W.str)) S).map (λk=>(W.bl k,S))=_
 simp only[wY,dE];rw[Hk (by rw[nK]; rfl),qR]
 rfl
def Cs:∀k:Fin 26,(Ks "abcdefghijklmnopqrstuvwxyz" #[[97+k.val].toArray] 0 ("abcdefghijklmnopqrstuvwxyz" : Ha).length 1).isEmpty=false:=by decide +kernel
def zE {S:aa}{c:GX}(h:97<=c/\c<=122):bS .isin (.str #[[c].toArray]) (.str "abcdefghijklmnopqrstuvwxyz") S=ba (.bl true,S):=by
 have e:=Cs #[c - 97,∅]
 have e2:97+(c - 97)=c:=∅
 simp only[e2]at e;change ba (W.bl (!_),S)=_;rw[e]; rfl
def wx:∀(ss acc:GK Ha),(acc++ss).Nodup->ss.foldl ln acc=acc++ss
 | [],acc,_=>by rw[Jq]; rfl
 | x::ss,acc,h=>by
  have e:ln acc x=acc++[x]:=by
   unfold ln;rw[Hu];intro z;rw[Jn]at h;exact h.2.2 x z x Ik rfl
  rw[LW,e,wx ss _ (by rw[Jl]; exact h),Jl]; rfl
def Ct {S:aa}{i:GX}{ss:GK Ha}{Q:QW}(h:S[i]?=ba (.lst (ss.map W.str)))(hn:ss.Nodup)(hl:ss.length<=100)(q:Q (.ref S.length,S++[.sts ss])):wO (Bi.set.fn [.ref i] S) Q:=by
 show ab (a:=(.ref S.length,S++[.sts ss])) ?_ q;dsimp only[Bi.fn,lq];simp only[ap h,jU];rw[Hk (by unfold scanBound; omega)]
 have:gf ss=ss:=by unfold gf; rw[wx ss [] (by rw[NV]; exact hn)]; rfl
 rw[this]
def Cu {S:aa}{i:GX}{ss:GK Ha}{Q:QW}(h:S[i]?=ba (.sts ss))(q:Q (.int ss.length,S)):wO (Bi.len.fn [.ref i] S) Q:=by
 show ab (a:=(.int ss.length,S)) ?_ q;have h1:gU S i=gV:=by simp[gU,h]
 have h2:eF S i=gV:=by simp[eF,h]
 have h3:Dr S i=ba ss:=by simp[Dr,h]
 dsimp only[Bi.fn,yS,mU,lg,yN];simp only[h1,h2,h3,Option.map_none]
def Cv {S:aa}{y:Ha}{Q:QW}(h:y.length<=1000)(q:Q (.int y.length,S)):wO (Bi.len.fn [.str y] S) Q:=by
 show ab (a:=(.int y.length,S)) ?_ q;dsimp only[Bi.fn,yS,mU,lg];rw[Hk (Hz h (by rw[HV]; decide))]
section
variable{M:Ha->FF}{Z:Fm}{S:aa}{Q:QW}
def Ak {a b:E}(ha:∀Q:QW,Q (.bl true,S)->wE M a Z S Q)(hb:wE M b Z S Q):wE M (.and a b) Z S Q:=by
 change wE M a Z S λp=>wB p.1 λk=>(k=true->wE M b Z p.2 Q)/\(k=false->Q (.bl false,p.2))
 exact ha _ #[λ_=>hb,λz=>by cases z]
def Ey {i:GX}{m:G7}(h1:1<=m)(h2:m<=3)(hv:∀Q:QW,Q (.int m,S)->wE M (.v i) Z S Q)(q:Q (.bl true,S)):wE M (.chn .le .le (.c (.int 1)) (.v i) (.c (.int 3))) Z S Q:=by
 change wE M (.v i) Z S λq=>wO (oE .le (.int 1) q.1 q.2) λk=>(k=true->wO (cg .le q.1 (.int 3) q.2) Q)/\(k=false->Q (.bl false,q.2))
 show hv _ ?_;dsimp only;show ab (show oE .le (.int 1) (.int m) S=ba (decide (1<=m))from rfl) #[λ_=>?_,λz=>absurd h1 (Iy z)]
 show ab (show cg .le (.int m) (.int 3) S=ba (.bl (decide (m<=3)),S)from rfl) ?_
 rw[HN h2];exact q
def Ez {r:GR W}{x y:G7}(h1 : -(2 ^ 64) < y)(h2:y < 2 ^ 64)(h:x*y<=6)(q:Q (.bl true,S)):wE M (.cmp .le (.op .mul (.v 1) (.v 2)) (.c (.int 6))) [r,ba (.int x),ba (.int y)] S Q:=by
 change wE M (.op .mul (.v 1) (.v 2)) [r,ba (.int x),ba (.int y)] S λp=>wO (bS .le p.1 (.int 6) p.2) Q
 show Er (x:=x) (y:=y) (λQ q=>q) (λQ q=>q) h1 h2 ?_
 dsimp only;generalize x*y=z at h;show ab (show bS .le (.int z) (.int 6) S=ba (.bl (decide (z<=6)),S)from rfl) ?_
 rw[HN h];exact q
end
section
variable{defs:GK (Ha×Df)}{fuel d:GX}{S:aa}{Q:QW}
def wy (L:Look defs){y:Ha}(hy:Name y)(ht:y∉dU)(k:∀S',Ka S S'->Q (.bl true,S')):wO (aL (aj defs fuel (d+1)) "is_name" 1 [.str y] S) Q:=by
 show ak L.name rfl rfl λQ' hR=>?_
 obtain⟨l1,l8,sm⟩:=hy;have hl:=lT y;change wZ _ _ fm [ba (.str y)] S Q';dsimp only[fm];nofun
 dsimp only[wS,wT,wE,wA,wV,wG];show ab ww ?_;rw[Hv ht];dsimp only[wB];show#[λz=>(by cases z),λ_=>?_]
 show Cv ∅ ?_
 show ab (show oE .le (.int 1) (.int (y.length:GX)) S=ba (decide ((1:G7)<=(y.length:GX)))from rfl) #[λ_=>?_,λz=>absurd (show(1:G7)<=(y.length:GX) by omega) (Iy z)]
 show ab (show cg .le (.int (y.length:GX)) (.int 8) S=ba (.bl (decide (((y.length:GX):G7)<=8)),S)from rfl) ?_
 rw[HN (show((y.length:GX):G7)<=8 by omega)]
 dsimp only[wB];show au (Q0:=Q') (λz=>by cases z) (λ_ Q2 hn2 _=>bX (hn2 _ _ (hK _ _ ?_)))
 clear hn2 hK K;show st ?_;dsimp only[wS];show Ew y [] rfl rfl rfl ∅ ?_ #[rfl,.refl] (λc hc S' _=>?_) λS' k'=>hR _ _ (k S' k')
 ·rw[Array.all_eq_true'];intro c hc;have:=sm c (by simpa using hc)
  exact HN ∅
 ·dsimp only[wE,wV,wG];exact ab (zE (sm c hc)) #[rfl,rfl,.refl]
def pQ (L:Look defs){ms ns:GK Ha}{bs:GK G7}{b0:W}(hn:ns.length=bs.length)(hl:(ms++ns).length<=100)(hg:GoodN ms ns)(k:∀S',Ka S S'->Q (.bl true,S')) :
  wO (aL (aj defs fuel (d+2)) "has_right_names" 1 [.tup [.tup (ms.map W.str),.tup (Hd aH ns bs),b0]] S) Q:=by
 show ak L.names rfl rfl λQ' hR=>?_
 change wZ _ _ bw [ba (.tup [.tup (ms.map W.str),.tup (Hd aH ns bs),b0]),gV] S Q';dsimp only[bw];have hz:Hd aH ns bs=(ns.zip bs).map λp=>aH p.1 p.2:=by rw[OZ,LG]
 have hz1:(ns.zip bs).map (λp=>W.str p.1)=ns.map W.str:=by
  rw[show(λp:Ha×G7=>W.str p.1)=W.str∘Prod.fst from rfl,<- Jg,List.map_fst_zip ∅]
 rw[G3]at hl;nofun
 left;show ah #v[] rfl ?_
 show ab (show Bi.list.fn [.tup (ms.map W.str)] S=ba (.ref S.length,S++[.lst (ms.map W.str)])from rfl) ?_
 show Ch (ns.zip bs) (λp=>aH p.1 p.2) (λ_=>true) (λp=>W.str p.1) [] rfl rfl rfl rfl (by rw[L6]; omega) (by dsimp only[wE,wV,wG]; exact ah #v[] rfl #[congrArg W.tup hz,.refl]) (λp _ S' _=>?_) λS1 k1=>?_
 ·dsimp only[iF,wC,wE,wA,wV,wG,aH];exact#[λ_=>ah #v[] rfl #[rfl,rfl,.refl],λz=>by cases z]
 rw[jA,hz1];dsimp only;show ab (pB (am (k1.get _ _ ag)) ag (zA (by rw[G3,GU,GU]; omega))) ?_
 rw[<- HK];show hK _ _ ?_;have e2:(S1++[O.lst (ns.map W.str)]++[O.lst ((ms++ns).map W.str)])[(S1++[O.lst (ns.map W.str)]).length]?=ba (.lst ((ms++ns).map W.str)):=ag;have k2:Ka S (S1++[O.lst (ns.map W.str)]++[O.lst ((ms++ns).map W.str)]):=(Ka.push.trans k1).trans (Ka.push.trans .push);generalize S1++[O.lst (ns.map W.str)]++[O.lst ((ms++ns).map W.str)]=S2 at e2 k2 ⊢;generalize(S1++[O.lst (ns.map W.str)]).length=t at e2 ⊢;clear hK K k1;have nd:=(Jn.mp hg.nd);show st ?_;dsimp only[wS];change wE _ _ _ S2 λp=>wB p.1 λk=>(k=true->wE _ _ _ p.2 _)/\(k=false->_)
 show Ev (ms++ns) W.str [] rfl rfl rfl (by rw[G3]; omega) #[t,rfl,e2,.refl] (λy hy S' _=>?_) λS3 k3=>#[λ_=>?_,λz=>by cases z]
 ·dsimp only[wE,wA,wV,wG];exact wy (d:=d) L (hg.name y hy) (λz=>nd.2.2 y z y hy rfl) λS2 k2=>#[rfl,rfl,k2]
 dsimp only[wE,wA,wV,wG];have e3:=k3.get _ _ e2;show Ct e3 nd.2.1 (by rw[G3]; omega) ?_
 show Cu ag (nH (am e3) (ab eg ?_));rw[GU,HI];exact hR _ _ (k _ (k2.trans (k3.trans .push)))
def wz (L:Look defs){xs ys:GK W}{b0:W}{a n:GX}(ha:xs.length=a)(hn:ys.length=n)(a1:1<=a)(a3:a<=3)(n1:1<=n)(n3:n<=3)(h6:a*n<=6)(k:Q (.bl true,S)):wO (aL (aj defs fuel (d+1)) "keeps_bounds" 1 [.tup [.tup xs,.tup ys,b0]] S) Q:=by
 show ak L.bounds rfl rfl λQ' hR=>?_
 change wZ _ _ cf [ba (.tup [.tup xs,.tup ys,b0]),gV,gV] S Q';dsimp only[cf];nofun
 left;show ah #v[] rfl (bp (hK _ _ ?_))
 rw[ha];clear hK K;nofun
 left;show ah #v[] rfl (bp (hK _ _ ?_))
 rw[hn];clear hK K;have hm:((a:GX):G7)*(n:GX)<=6:=by exact_mod_cast h6
 replace k:=hR _ _ k;clear hR ha hn;have a1':(1:G7)<=(a:GX):=∅
 have a3':((a:GX):G7)<=3:=∅
 have n1':(1:G7)<=(n:GX):=∅
 have n3':((n:GX):G7)<=3:=∅
 generalize((a:GX):G7)=x at a1' a3' hm ⊢;generalize((n:GX):G7)=y at n1' n3' hm ⊢;show st ?_;dsimp only[wS];exact Ak (λQ q=>Ey a1' a3' (λQ q=>q) q) (Ak (λQ q=>Ey n1' n3' (λQ q=>q) q) (Ez ∅ ∅ hm k))
end
def kK {t:GK GX}:t∈aB↔Ord 3 t/\t.length=3:=by
 rw[show(t∈aB)↔t∈pO 3 by
  constructor
  ·intro h; exact(by decide:∀x∈aB,x∈pO 3) t h
  ·intro h; exact(by decide:∀x∈pO 3,x∈aB) t h]
 exact l4
def Cw {bs:GK G7}{u:Wd}:∃t∈aB,fT bs u=ar bs u t/\∀s∈aB,d8 (bU (ar bs u s)) (bU (fT bs u))=ba false:=by
 obtain⟨x,h1,h2,h3⟩:=oq (ks:=(aB.map (ar bs u)).map bU) (λx hx=>by obtain⟨p,_,rfl⟩:=Hl.mp hx; exact jy p) (d0 _) (by simp[aB])
 rw[G1,GP]at h1;obtain⟨v,hv,rfl⟩:=h1;have e:fT bs u=v:=by unfold fT; rw[IG,hv]; rfl
 rw[e];obtain⟨t,ht,rfl⟩:=Hl.mp (He hv);exact#[t,ht,rfl,λs hs=>h3 _ (Hl.mpr #[_,Hl.mpr #[s,hs,rfl],rfl])]
def sJ {bs:GK G7}{u:Wd}(h:u.length=3):fT bs u=dA bs u:=by
 obtain⟨t,ht,e,mn⟩:=Cw (bs:=bs) (u:=u);obtain⟨o,h1,h2,h3⟩:=gK (bs:=bs) (u:=u);have hl:∀t∈aB,d8 (bU (ar bs u t)) (bU (dA bs u))=ba false:=λt ht=>by
  obtain⟨g1,g2⟩:=kK.mp ht;rw[<- h]at g1 g2;exact(kH (bs:=bs) (u:=u) u.length (G2 _)).least t g1 g2
 show gF (qZ (jy _) ?_ ?_)
 ·rw[e]; exact hl t ht
 ·rw[<- h3];rw[h]at h1 h2;exact mn o (kK.mpr #[h1,h2])
def d4 {n:GX}{x:G7}(h:x∈dD n):0<=x/\x < n:=by
 obtain⟨k,hk,rfl⟩:=Hl.mp h;have:=HZ.mp hk;omega
def pR {a n:GX}{u:Wd}(h:u∈nP a n):GoodW a n u/\u.length=3:=by
 unfold nP at h;simp only[KQ,Hl]at h;obtain⟨m0,h0,m1,h1,m2,h2,w1,g1,w2,g2,w3,g3,rfl⟩:=h;show#[?_,rfl];have s1:GoodW a n ([]++[(m0,[])]):=GoodW.nil.snoc (d4 h0) rfl (λw hw=>nomatch hw)
 have s2:GoodW a n ([(m0,[])]++[(m1,[w1])]):=s1.snoc (d4 h1) rfl (λw hw=>by rw[Hc.mp hw]; exact d4 g1)
 exact s2.snoc (d4 h2) rfl (λw hw=>by
  simp only[Hj,HE,IY]at hw;rcases hw with rfl|rfl
  ·exact d4 g2
  ·exact d4 g3)
def Cy {a:GX}{bs:GK G7}{g:Wd}(hb:GoodB bs)(h:g∈aF a bs):GoodW a bs.length g/\g.length=3/\dA bs g=g:=by
 unfold aF at h;rw[Le]at h;obtain⟨u,hu,rfl⟩:=Hl.mp h;obtain⟨gu,u3⟩:=pR hu;rw[sJ u3];obtain⟨o,h1,h2,h3⟩:=gK (bs:=bs) (u:=u);rw[<- h3];exact#[sI hb gu h1.lt h1.nd,by rw[bo,h2,u3],by rw[pP hb gu h1 h2,h3]]
def oA {bs:GK G7}(hb:GoodB bs):∀k < bs.length,∃b:GX,bs[k]?=ba (b:G7)/\b < bs.length/\bs[b]?=ba (k:G7)/\-1<=(b:G7) - k/\(b:G7) - k<=1:=by
 have all:∀(l:GK GX),l.length<=3->(∀k < l.length,l.getD k 0 < l.length/\l.getD (l.getD k 0) 0=k/\l.getD k 0<=k+1/\k<=l.getD k 0+1)->∀k < (l.map λ(x:GX)=>(x:G7)).length,∃b:GX,(l.map λ(x:GX)=>(x:G7))[k]?=ba (b:G7)/\b < (l.map λ(x:GX)=>(x:G7)).length/\(l.map λ(x:GX)=>(x:G7))[b]?=ba (k:G7)/\-1<=(b:G7) - k/\(b:G7) - k<=1:=λl _ h k hk=>by
  rw[GU]at hk ⊢;obtain⟨h1,h2,h3,h4⟩:=h k hk;show#[l.getD k 0,?_,h1,?_,∅,∅]
  ·rw[G1,aA (d:=0) hk]; rfl
  ·rw[G1,aA (d:=0) h1,h2]; rfl
 rcases hb with rfl|rfl|rfl|rfl|rfl|rfl
 ·exact all [0] #v[] #v[]
 ·exact all [0,1] #v[] #v[]
 ·exact all [1,0] #v[] #v[]
 ·exact all [0,1,2] #v[] #v[]
 ·exact all [1,0,2] #v[] #v[]
 ·exact all [0,2,1] #v[] #v[]
def wD {ns:GK Ha}{bs:GK G7}{k:GX}{b:G7}(hn:ns.length=bs.length)(h:bs[k]?=ba b):∃y,(Hd aH ns bs)[k]?=ba (aH y b):=by
 have hk:=(G8.mp h).1;show#[ns[k]'∅,?_]
 rw[KF,h,G5 ∅]
section
variable{defs:GK (Ha×Df)}{fuel d:GX}{S:aa}{Q:QW}
def pS (L:Look defs){m0 b0:W}{ns:GK Ha}{bs:GK G7}{k:GX}{b:G7}(hn:ns.length=bs.length)(h:bs[k]?=ba b)(q:Q (.int b,S)):wO (aL (aj defs fuel (d+1)) "back" 2 [.tup [m0,.tup (Hd aH ns bs),b0],.int (k:GX)] S) Q:=by
 show ak L.back rfl rfl λQ' hR=>?_
 change wZ _ _ ma [ba (.tup [m0,.tup (Hd aH ns bs),b0]),ba (.int (k:GX))] S Q';obtain⟨y,hy⟩:=wD hn h;dsimp only[ma];show st ?_;dsimp only[wS,wE,wV,wG];exact ah #v[] rfl (ah (Ho k) (by rw[Hf]; exact hy) (ah #v[] rfl (hR _ _ q)))
def wF (L:Look defs){m0 b0:W}{ns:GK Ha}{bs:GK G7}{k:GX}(hb:GoodB bs)(hn:ns.length=bs.length)(hk:k < bs.length)(q:Q (.bl true,S)):wO (aL (aj defs fuel (d+2)) "is_right_back" 2 [.tup [m0,.tup (Hd aH ns bs),b0],.int (k:GX)] S) Q:=by
 obtain⟨b,h1,h2,h3,h4,h5⟩:=oA hb k hk;have zl:(Hd aH ns bs).length=bs.length:=by rw[IJ,hn]; omega
 show ak L.isback rfl rfl λQ' hR=>?_
 replace q:=hR _ _ q;clear hR;change wZ _ _ bQ [ba (.tup [m0,.tup (Hd aH ns bs),b0]),ba (.int (k:GX)),gV] S Q';dsimp only[bQ];nofun
 left;show pS (d:=d) L hn h1 (hK _ _ ?_);clear hK K;nofun
 dsimp only[wS,wT,wE,wA,wV,wG];show ab (show oE .le (.int 0) (.int (b:GX)) S=ba (decide ((0:G7)<=(b:GX)))from rfl) #[λ_=>?_,λz=>absurd (Ho b) (Iy z)]
 show ah #v[] rfl (bp ?_)
 show ab (show cg .lt (.int (b:GX)) (.int ((Hd aH ns bs).length:GX)) S=ba (.bl (decide (((b:GX):G7) < ((Hd aH ns bs).length:GX))),S)from rfl) ?_
 rw[zl,HN (show((b:GX):G7) < (bs.length:GX) by omega)]
 dsimp only[wB];show au (Q0:=Q') (λz=>by cases z) (λ_ Q2 hn2 _=>bX (hn2 _ _ (hK _ _ ?_)))
 clear hn2 hK K;show st ?_;dsimp only[wS,wE,wA,wV,wG,qL,ay];show ab (show Bi.abs.fn [.int (((b:GX):G7) - (k:GX))] S=ba (.int (if ((b:GX):G7) - (k:GX) < 0 then -(((b:GX):G7) - (k:GX))else((b:GX):G7) - (k:GX)),S)from rfl) ?_
 show ab FR ?_;rw[HN (show(if ((b:GX):G7) - (k:GX) < 0 then -(((b:GX):G7) - (k:GX))else((b:GX):G7) - (k:GX))<=1 by split <;> omega)]
 dsimp only[wB];show#[λ_=>?_,λz=>by cases z]
 show pS (d:=d) L hn h3 (ab eg ?_);rw[HI];exact q
def wH (L:Look defs){m0 b0:W}{ns:GK Ha}{bs:GK G7}(hb:GoodB bs)(hn:ns.length=bs.length)(h3:bs.length<=3)(k:∀S',Ka S S'->Q (.bl true,S')):wO (aL (aj defs fuel (d+3)) "has_right_backs" 1 [.tup [m0,.tup (Hd aH ns bs),b0]] S) Q:=by
 have zl:(Hd aH ns bs).length=bs.length:=by rw[IJ,hn]; omega
 show ak L.backs rfl rfl λQ' hR=>?_
 change wZ _ _ bx [ba (.tup [m0,.tup (Hd aH ns bs),b0])] S Q';dsimp only[bx];show st ?_;dsimp only[wS];show Ai bs.length [ba (.tup [m0,.tup (Hd aH ns bs),b0])] rfl rfl rfl ∅ (by dsimp only[wE,wA,wV,wG]; exact ah #v[] rfl (bp #[by rw[zl],.refl])) (λx hx S' _=>?_) λS' k'=>hR _ _ (k S' k')
 dsimp only[wE,wA,wV,wG];exact wF (d:=d) L hb hn hx #[rfl,rfl,.refl]
def zF (hfu:20 < fuel)(L:Look defs)(P:Parts defs)(hlo:Is defs ("longer_orders" : Ha) 2 4 aE)(hg:Is defs ("least_form" : Ha) 2 7 a7){xs:GK W}{b0:W}{ns:GK Ha}{bs:GK G7}{a:GX}{g:Wd}(hb:GoodB bs)(ha:xs.length=a)(hn:ns.length=bs.length)(gu:GoodW a bs.length g)(g3:g.length=3)(gl:dA bs g=g)(k:∀S',Ka S S'->Q (.bl true,S')) :
  wO (aL (aj defs fuel (d+5)) "is_figure" 2 [.tup [.tup xs,.tup (Hd aH ns bs),b0],aS g] S) Q:=by
 have zl:(Hd aH ns bs).length=bs.length:=by rw[IJ,hn]; omega
 show ak L.fig rfl rfl λQ' hR=>?_
 change wZ _ _ dJ [ba (.tup [.tup xs,.tup (Hd aH ns bs),b0]),ba (aS g)] S Q';dsimp only[dJ];nofun
 dsimp only[wS,wT,wA];show Aj g b9 [ba (.tup [.tup xs,.tup (Hd aH ns bs),b0])] rfl rfl rfl ∅ #[rfl,.refl] (λi p hp S' _=>?_) λS1 k1=>?_
 ·dsimp only[wE,wA,wV,wG];have hi:=(G8.mp hp).1;exact zB (d:=d) L ha zl (gu.len i p hp) ∅ (gu.mark i p hp) (gu.way i p hp) λS2 k2=>#[rfl,rfl,k2]
 show ab (show dX S1 (.bl true)=ba true from rfl) ?_
 show au (Q0:=Q') (λz=>by cases z) (λ_ Q2 hn2 _=>bX (hn2 _ _ (hK _ _ ?_)))
 clear hn2 hK K;show st ?_;left;show l9 (d:=d+1) hfu P hlo hg hb hn gu ∅ λS2 k2=>?_
 show ab Cd ?_;rw[gl,HN rfl];exact hR _ _ (k _ (k1.trans k2))
def Cz {S:aa}{u v:Wd}(h:d8 (bU u) (bU v)=ba true):bS .lt (aS u) (aS v) S=ba (.bl true,S):=by
 show(match W.t (aS u),W.t (aS v)with|some a,ba b=>if a.depth<=aJ/\b.depth<=aJ then(d8 a b).map λk=>(W.bl k,S)else gV|_,_=>gV)=_
 rw[vF,vF];dsimp only;rw[Hk #[Hz (gC u) #v[],Hz (gC v) #v[]],h]; rfl
end
def oB:∀ {us:GK Wd},Dv (us.map bU)->∀p∈us.zip (us.drop 1),d8 (bU p.1) (bU p.2)=ba true
 | [],_,p,hp=>nomatch hp
 | [_],_,p,hp=>nomatch hp
 | x::y::us,h,p,hp=>by
  have h:List.Pairwise (λx y=>d8 x y=ba true) (bU x::bU y::us.map bU):=h
  have hp:p∈(x,y)::(y::us).zip ((y::us).drop 1):=hp;rw[List.pairwise_cons]at h;rcases Hj.mp hp with e|hp
  ·subst e; exact h.1 _ Ik
  ·exact oB (us:=y::us) h.2 p hp
section
variable{defs:GK (Ha×Df)}{fuel d:GX}{S:aa}{Q:QW}
def wI (hfu:20 < fuel)(L:Look defs)(P:Parts defs)(hlo:Is defs ("longer_orders" : Ha) 2 4 aE)(hg:Is defs ("least_form" : Ha) 2 7 a7){xs:GK W}{ns:GK Ha}{bs:GK G7}{a:GX}{us:GK Wd}(hb:GoodB bs)(ha:xs.length=a)(hn:ns.length=bs.length)(hu:∀g∈us,GoodW a bs.length g/\g.length=3/\dA bs g=g)(hl:us.length<=1000)(hs:Dv (us.map bU))(k:∀S',Ka S S'->Q (.bl true,S')) :
  wO (aL (aj defs fuel (d+6)) "has_right_barred" 1 [.tup [.tup xs,.tup (Hd aH ns bs),.tup (us.map aS)]] S) Q:=by
 show ak L.barred rfl rfl λQ' hR=>?_
 change wZ _ _ bj [ba (.tup [.tup xs,.tup (Hd aH ns bs),.tup (us.map aS)]),gV,gV] S Q';dsimp only[bj];nofun
 left;show ah #v[] rfl (hK _ _ ?_)
 clear hK K;nofun
 dsimp only[wS,G9];have hz:gp (us.map aS) ((us.map aS).drop 1)=(us.zip (us.drop 1)).map λp=>W.tup [aS p.1,aS p.2]:=by
  unfold gp;rw[<- List.map_drop,NO,OZ,LG]
 show Ex (us.zip (us.drop 1)) (λp=>aS p.1) (λp=>aS p.2) [] rfl rfl rfl rfl (by rw[L6]; omega) _ _ hz ?_ (λp hp S' _=>?_) λS1 k1=>hK _ _ ?_
 ·dsimp only[wE,wP,wV,wG,wN];show ab (a:=(.tup ((us.map aS).drop 1),S)) ?_ #[rfl,rfl,.refl];change ba (W.tup (fZ (us.map aS) (ba ((1:GX):G7)) gV),S)=_;rw[nL]
 ·dsimp only[wE,wV,wG];exact ab (Cz (oB hs p hp)) #[rfl,rfl,.refl]
 clear hK K;show st ?_;dsimp only[wS];change wB (.bl true) λk=>(k=true->wE _ _ _ S1 _)/\(k=false->_)
 show#[λ_=>?_,λz=>by cases z]
 show jC us aS [ba (.tup [.tup xs,.tup (Hd aH ns bs),.tup (us.map aS)])] rfl rfl rfl ∅ #[rfl,.refl] (λg hgm S' _=>?_) λS2 k2=>hR _ _ (k _ (k1.trans k2))
 dsimp only[wE,wA,wV,wG];obtain⟨h1,h2,h3⟩:=hu g hgm;exact zF (d:=d) hfu L P hlo hg hb ha hn h1 h2 h3 λS3 k3=>#[rfl,rfl,k3]
def gN {M:Ha->FF}{Z:Fm}{S:aa}{b:Ss}{Q':QO}{t:E}(h:∀Q:QW,(∀S',Ka S S'->Q (.bl true,S'))->wE M t Z S Q)(ht:∀Q:QB,wE M t Z S (λp=>wO (dX p.2 p.1) λk=>Q (k,p.2))->wT M t Z S Q)(k:∀S',Ka S S'->wZ M fuel b Z S' Q'):wZ M fuel (.cons (.ite (.not t) #v[.bad] .nil) b) Z S Q':=by
 nofun
 dsimp only[wS,wT];show ht _ (h _ λS1 k1=>?_)
 show ab (show dX S1 (.bl true)=ba true from rfl) ?_
 exact au (Q0:=Q') (λz=>by cases z) (λ_ Q2 hn2 _=>bX (hn2 _ _ (hK _ _ (k S1 k1))))
def CA (hfu:20 < fuel)(L:Look defs)(P:Parts defs)(hlo:Is defs ("longer_orders" : Ha) 2 4 aE)(hg:Is defs ("least_form" : Ha) 2 7 a7){a:GX}{bs:GK G7}{ms ns:GK Ha}{gs:GK Wd}(hr:RuleAt a bs ms ns gs)(k:∀S',Ka S S'->Q (.bl true,S')) :
  wO (aL (aj defs fuel (d+7)) "look_rule" 1 [aQ ms ns bs (dw gs)] S) Q:=by
 have hb:=hr.size.good;obtain⟨n1,n3⟩:=hr.size.n3;have hml:=hr.ml;have hnl:=hr.nl;have a1:=hr.size.pos;have a3:=hr.size.a3;have pm:(dw gs).Perm gs:=uA;have hu:∀g∈dw gs,GoodW a bs.length g/\g.length=3/\dA bs g=g:=λg h=>Cy hb (hr.mem g (pm.mem_iff.mp h))
 have hl:(dw gs).length<=1000:=by
  have h1:=fS gs _ hr.nd hr.mem;have h2:=lY hr.size;rw[pm.length_eq]; omega
 have hs:Dv ((dw gs).map bU):=by rw[sH]; exact uB (wo hr.nd)
 have zl:(Hd aH ns bs).length=bs.length:=by rw[IJ,hnl]; omega
 have mml:(ms.map W.str).length=a:=by rw[GU]; exact hml
 generalize dw gs=us at hu hl hs ⊢;show ak L.look rfl rfl λQ' hR=>?_
 change wZ _ _ dL [ba (aQ ms ns bs us)] S Q';dsimp only[dL];show gN (λQ q=>?_) (λQ q=>q) λS1 k1=>?_
 ·dsimp only[wE,wA,wV,wG];exact Cr (d:=d+1) L ∅ hnl ∅ hl (λu h=>#[(hu u h).2.1,(hu u h).1.len]) q
 show gN (λQ q=>?_) (λQ q=>q) λS2 k2=>?_
 ·dsimp only[wE,wA,wV,wG,aQ];exact wz (d:=d+5) L mml zl a1 a3 n1 n3 hr.size.most (q _ .refl)
 show gN (λQ q=>?_) (λQ q=>q) λS3 k3=>?_
 ·dsimp only[wE,wA,wV,wG,aQ];exact pQ (d:=d+4) L hnl (by rw[G3]; omega) hr.nm q
 show gN (λQ q=>?_) (λQ q=>q) λS4 k4=>?_
 ·dsimp only[wE,wA,wV,wG,aQ];exact wH (d:=d+3) L hb hnl n3 q
 show gN (λQ q=>?_) (λQ q=>q) λS5 k5=>?_
 ·dsimp only[wE,wA,wV,wG,aQ];exact wI (d:=d) hfu L P hlo hg hb mml hnl hu hl hs q
 show st ?_;dsimp only[wS,wE];exact hR _ _ (k _ (k1.trans (k2.trans (k3.trans (k4.trans k5)))))
end
abbrev bc:Ss:=
 #v[.set 2 (.lst .nil),.loop (.nm 3) (.seq (.own "_law_rising" 1 #v[.v 0])) #v[.loop (.nm 4) (.rng #v[.op .mul (.op .mul (.v 1) (.v 1)) (.v 1)]) #v[.set 5 (.tup #v[.op .mod (.v 4) (.v 1),.op .mod (.op .fdiv (.v 4) (.v 1)) (.v 1),.op .fdiv (.op .fdiv (.v 4) (.v 1)) (.v 1)]),.ex (.me .append (.v 2) #v[.tup #v[.tup #v[.ix (.v 3) (.c (.int 0)),.tup .nil],.tup #v[.ix (.v 3) (.c (.int 1)),.sl (.v 5) .no (.yes (.c (.int 1)))],.tup #v[.ix (.v 3) (.c (.int 2)),.sl (.v 5) (.yes (.c (.int 1))) .no]]])]],.ret (.v 2)]
abbrev bG:Ss:=
 #v[.asg [1,2] (.ix (.lst #v[.tup #v[.c (.int 1),.c (.int 1)],.tup #v[.c (.int 2),.c (.int 1)],.tup #v[.c (.int 3),.c (.int 1)],.tup #v[.c (.int 1),.c (.int 2)],.tup #v[.c (.int 2),.c (.int 2)],.tup #v[.c (.int 1),.c (.int 3)]]) (.own "_law_pick" 2 #v[.v 0,.c (.int 6)])),.set 3 (.own "_law_rule_of" 4 #v[.v 0,.v 1,.own "_law_backs" 2 #v[.v 0,.v 2],.tup .nil]),.set 4 .dnew,.loop (.nm 5) (.seq (.own "_law_all_threes" 2 #v[.v 1,.v 2])) #v[.put (.v 4) (.own "_law_figure" 2 #v[.v 3,.v 5]) (.c (.bl true))],.ret (.tup #v[.ix (.v 3) (.c (.int 0)),.ix (.v 3) (.c (.int 1)),.bi .tuple #v[.bi .sorted #v[.v 4]]])]
abbrev dM:Ss:=
 #v[.ite (.cmp .isnot (.own "look_rule" 1 #v[.v 0]) (.c (.bl true))) #v[.ret (.c (.bl false))] .nil,.ret (.bi .all #v[.comp (.own "_law_alike" 2 #v[.own "back" 2 #v[.v 2,.v 1],.ix (.ix (.ix (.v 2) (.c (.int 1))) (.v 1)) (.c (.int 1))]) (.nm 1) (.rng #v[.bi .len #v[.ix (.v 0) (.c (.int 1))]]) .nil [gV,gV,ba 0]])]
abbrev iT:Ss:=
 #v[.set 1 (.own "_law_flow" 1 #v[.v 0]),.set 2 (.own "_law_rule" 1 #v[.v 1]),.ite (.cmp .eq (.own "_law_pick" 2 #v[.v 1,.c (.int 8)]) (.c (.int 0))) #v[.set 2 (.own "_law_all_barred" 1 #v[.v 1])] .nil,.set 3 (.own "_law_rule" 1 #v[.v 1]),.ret (.and (.own "_law_holds" 1 #v[.v 2]) (.and (.own "_law_holds" 1 #v[.v 3]) (.own "_law_holds" 1 #v[.v 2])))]
structure Lw01 (defs:GK (Ha×Df)):Prop where
 gen:Gen defs
 parts:Parts defs
 longer:Is defs ("longer_orders" : Ha) 2 4 aE
 least:Is defs ("least_form" : Ha) 2 7 a7
 look:Look defs
 flow:Is defs ("_law_flow" : Ha) 1 1 dq
 unlay:Is defs ("_law_unlaying_rule" : Ha) 1 10 aK
 rule:Is defs ("_law_rule" : Ha) 1 2 dt
 alike:Is defs ("_law_alike" : Ha) 2 2 bz
 threes:Is defs ("_law_all_threes" : Ha) 2 6 bc
 abarred:Is defs ("_law_all_barred" : Ha) 1 6 bG
 holds:Is defs ("_law_holds" : Ha) 1 1 dM
 law:Is defs ("law" : Ha) 1 4 iT
section
variable{defs:GK (Ha×Df)}{fuel d:GX}{S:aa}{Q:QW}
def wJ (G:Gen defs)(hg:Is defs ("_law_all_threes" : Ha) 2 6 bc){a n:GX}(ha:a<=3)(n1:0 < n)(n3:n<=3)(k:∀(l:GX) (us:GK Wd) (S':aa),S'[l]?=ba (.lst (us.map aS))->(∀u∈us,GoodW a n u/\u.length=3)->S.length<=l->Ka S S'->Q (.ref l,S')) :
  wO (aL (aj defs fuel (d+2)) "_law_all_threes" 2 [.int a,.int n] S) Q:=by
 show ak hg rfl rfl λQ' hR=>?_
 replace k:∀(l:GX) (us:GK Wd) (S':aa),S'[l]?=ba (.lst (us.map aS))->(∀u∈us,GoodW a n u/\u.length=3)->S.length<=l->Ka S S'->Q' (.rt (.ref l),S'):=λl us S' a b c e=>hR _ _ (k l us S' a b c e)
 clear hR;change wZ _ _ bc [ba (.int a),ba (.int n),gV,gV,gV,gV] S Q';dsimp only[bc];show st ?_;dsimp only[wS,wE,wA,G9];nofun
 show dz rfl rfl ?_;dsimp only[wE,wA,wV,wG];show nU (d:=d) G ha λt ts S2 e2 ht htl ht2 k2=>?_
 rw[G3]at ht2;have ht2:S.length+1<=t:=ht2;show#[t,ts.map cw,λi Z S'=>(∃x3 x4 x5,Z=[ba (.int a),ba (.int n),ba (.ref S.length),x3,x4,x5])/\(∃us:GK Wd,S'[S.length]?=ba (.lst (us.map aS))/\(∀u∈us,GoodW a n u/\u.length=3)/\us.length<=27*i)/\S'[t]?=ba (.lst (ts.map cw))/\i<=27/\Ka S S',rfl,#[#[_,_,_,rfl],#[[],k2.get _ _ ag,λ_ h=>(nomatch h),G2 _],e2,∅,Ka.push.trans k2],λi Z S' h=>h.2.2.1,?_,?_]
 ·rintro i w Z S3 hw ⟨⟨x3,x4,x5,rfl⟩,⟨us,e3,hus,hul⟩,e4,hi,k3⟩;have hi2:i < ts.length:=by have:=(G8.mp hw).1; rwa [GU]at this
  rw[G1,GP]at hw;obtain⟨⟨t1,t2,t3⟩,htr,rfl⟩:=hw;obtain⟨g1,g2,g3⟩:=ht _ (He htr);show ab (show gO (.nm 3) (cw (t1,t2,t3)) [ba (.int a),ba (.int n),ba (.ref S.length),x3,x4,x5] S3=ba ([ba (.int a),ba (.int n),ba (.ref S.length),ba (cw (t1,t2,t3)),x4,x5],S3)from rfl) λQ2 hn2 _=>?_
  clear hK k;nofun
  show oh (n:=n) (λQ q=>q) n3 rfl λj j0 j27 ej=>?_
  show#[λm Z S'=>(∃x4 x5,Z=[ba (.int a),ba (.int n),ba (.ref S.length),ba (cw (t1,t2,t3)),x4,x5])/\(∃us:GK Wd,S'[S.length]?=ba (.lst (us.map aS))/\(∀u∈us,GoodW a n u/\u.length=3)/\us.length<=27*i+m)/\S'[t]?=ba (.lst (ts.map cw))/\Ka S S',#[#[_,_,rfl],#[us,e3,hus,hul],e4,k3],?_,?_]
  ·rintro m Z S4 hm ⟨⟨x4,x5,rfl⟩,⟨us,e5,hus,hul⟩,e6,k4⟩ Q3 hn3 _;clear hK hn2;have hnp:(0:G7) < n:=∅
   have hnb:(n:G7) < 1073741824:=∅
   have y1:0<=(m:G7) % n/\(m:G7) % n < n:=#[Js _ ∅,IR _ hnp]
   have y2:0<=(m:G7) / n % n/\(m:G7) / n % n < n:=#[Js _ ∅,IR _ hnp]
   have y3:0<=(m:G7) / n / n/\(m:G7) / n / n < n:=by
    have hn:n=1\/n=2\/n=3:=∅
    rcases hn with h|h|h <;> subst h <;> omega
   nofun
   left;show ab (gx hnp) (ab (eQ hnp hnb) (ab (gx hnp) (ab (eQ hnp hnb) (ab (eQ hnp hnb) (hK _ _ ?_)))));clear hK K;dsimp only;have hm27:m < 27:=∅
   generalize(m:G7) % n=z1 at y1 ⊢;generalize(m:G7) / n % n=z2 at y2 ⊢;generalize(m:G7) / n / n=z3 at y3 ⊢;show st ?_;dsimp only[wS,wE,wA,wP,wV,wG,wN];show#[ei e5,ah #v[] rfl (ah #v[] rfl ?_)]
   show ab (show oF (.tup [.int z1,.int z2,.int z3]) gV (ba 1) S4=ba (.tup [.int z1],S4)from rfl) ?_
   show ah #v[] rfl ?_
   show ab (show oF (.tup [.int z1,.int z2,.int z3]) (ba 1) gV S4=ba (.tup [.int z2,.int z3],S4)from rfl) ?_
   show nG e5 (by rw[GU]; omega) ?_
   have gu:GoodW a n [(t1,[]),(t2,[z1]),(t3,[z2,z3])]:=wc g1 g2 g3 y1 y2 y3;show bX (hn3 _ _ #[#[_,_,rfl],#[us++[[(t1,[]),(t2,[z1]),(t3,[z2,z3])]],?_,λu h=>?_,by rw[G3]; show us.length+1<=_; omega],by rw[bf ∅]; exact e6,k4.late (G2 _)])
   ·rw[bJ e5,HK]; rfl
   ·rcases HU.mp h with h|h
    ·exact hus u h
    ·rw[Hc.mp h]; exact#[gu,rfl]
  ·rintro Z S4 ⟨⟨x4,x5,rfl⟩,⟨us,e5,hus,hul⟩,e6,k4⟩;exact hK _ _ (bX (hn2 _ _ #[#[_,_,_,rfl],#[us,e5,hus,∅],e6,∅,k4]))
 ·rintro Z S3 ⟨⟨x3,x4,x5,rfl⟩,⟨us,e3,hus,hul⟩,e4,hi,k3⟩;show hK _ _ (st ?_);exact k _ us S3 e3 hus (G2 _) k3
variable{r:GX}
def sK (hfu:20 < fuel)(L:Lw01 defs)(hf:Fl S r)(k:∀w S',bA w->Fl S' r->Q (w,S')):wO (aL (aj defs fuel (d+6)) "_law_all_barred" 1 [.ref r] S) Q:=by
 have G:=L.gen;show ak L.abarred rfl rfl λQ' hR=>?_
 replace k:∀w S',bA w->Fl S' r->Q' (.rt w,S'):=λz S' a b=>hR _ _ (k z S' a b)
 clear hR;change wZ _ _ bG [ba (.ref r),gV,gV,gV,gV,gV] S Q';dsimp only[bG];nofun
 left;show aP (d:=d+4) G.pick (hf.ka .push) #v[] #v[] λv S1 v0 v6 f1 k1=>?_
 have e1:=k1.get _ _ (IH (by have:=hf.lt; omega)) (ag (S:=S))
 obtain⟨a,n,a1,a3,n1,n3,an,hw⟩ : ∃a n:GX,1<=a/\a<=3/\1<=n/\n<=3/\a*n<=6/\[W.tup [.int 1,.int 1],.tup [.int 2,.int 1],.tup [.int 3,.int 1],.tup [.int 1,.int 2],.tup [.int 2,.int 2],.tup [.int 1,.int 3]][v.toNat]?=ba (.tup [.int (a:GX),.int (n:GX)]):=by
  have hv:v.toNat < 6:=∅
  generalize v.toNat=m at hv
  match m,hv with
  | 0,_=>exact#[1,1,#v[],#v[],#v[],#v[],#v[],rfl]
  | 1,_=>exact#[2,1,#v[],#v[],#v[],#v[],#v[],rfl]
  | 2,_=>exact#[3,1,#v[],#v[],#v[],#v[],#v[],rfl]
  | 3,_=>exact#[1,2,#v[],#v[],#v[],#v[],#v[],rfl]
  | 4,_=>exact#[2,2,#v[],#v[],#v[],#v[],#v[],rfl]
  | 5,_=>exact#[1,3,#v[],#v[],#v[],#v[],#v[],rfl]
 show jp e1 v0 hw ?_;dsimp only[wU];show ab (show dh [1,2] [.int a,.int n] [ba (.ref r),gV,gV,gV,gV,gV]=ba [ba (.ref r),ba (.int a),ba (.int n),gV,gV,gV]from rfl) (hK _ _ ?_)
 clear hK K;nofun
 left;show lX (d:=d+3) G f1 n1 n3 λbs S2 hb hbl f2 k2=>?_
 have hsz:SizeOk a bs:=#[∅,hb,by rw[hbl]; exact an,a3]
 show dy (d:=d) hfu G f2 a3 ∅ λms ns S3 hml hnl hnm f3 k3=>hK _ _ ?_
 clear hK K k1 k2 f1 f2;have hrt:=f3.lt;show st ?_;dsimp only[wS,wE,G9];nofun
 show dz rfl rfl ?_;dsimp only[wE,wA,wV,wG];show wJ (d:=d+3) G L.threes a3 n1 n3 λl us S4 e4 hus hl k4=>?_
 rw[G3]at hl;have hl:S3.length+1<=l:=hl;show#[l,us.map aS,λ_ Z S'=>(∃x5,Z=[ba (.ref r),ba (.int a),ba (.int n),ba (aQ ms ns bs []),ba (.ref S3.length),x5])/\(∃U fs,S'[S3.length]?=ba (.dic U)/\FigD (aF a bs) U fs)/\S'[l]?=ba (.lst (us.map aS))/\Fl S' r,rfl,#[#[_,rfl],#[[],[],k4.get _ _ ag,.nil],e4,(f3.ka .push).ka k4],λi Z S' h=>h.2.2.1,?_,?_]
 ·rintro i w Z S5 hw ⟨⟨x5,rfl⟩,⟨U,fs,e5,hd⟩,e6,f5⟩;rw[G1,GP]at hw;obtain⟨u,hu,rfl⟩:=hw;obtain⟨gu,u3⟩:=hus u (He hu);show ab (show gO (.nm 5) (aS u) [ba (.ref r),ba (.int a),ba (.int n),ba (aQ ms ns bs []),ba (.ref S3.length),x5] S5=ba ([ba (.ref r),ba (.int a),ba (.int n),ba (aQ ms ns bs []),ba (.ref S3.length),ba (aS u)],S5)from rfl) λQ2 hn2 _=>?_
  clear hK;show st ?_;left;have hu:GoodW a bs.length u:=hbl.symm ▸ gu;show eT (d:=d+2) G hb hnl hu u3 λS7 k7=>?_
  exact nT (k7.get _ _ e5) hd hsz hu u3 λo ho=>bX (hn2 _ _ #[#[_,rfl],ho,by rw[bf ∅]; exact k7.get _ _ e6,(f5.ka k7).own hrt])
 ·rintro Z S5 ⟨⟨x5,rfl⟩,⟨U,fs,e5,hd⟩,e6,f5⟩;show hK _ _ (st ?_);left;exact nS (Q:=λp=>Q' (.rt p.1,p.2)) e5 hd hsz hml hnl hnm λw S6 hw k6=>k w S6 hw (f5.ka k6)
def mf (hfu:20 < fuel)(L:Lw01 defs){w:W}(hw:bA w)(k:∀S',Ka S S'->Q (.bl true,S')):wO (aL (aj defs fuel (d+8)) "_law_holds" 1 [w] S) Q:=by
 obtain⟨a,bs,ms,ns,gs,rfl,hr⟩:=hw;have hb:=hr.size.good;have hnl:=hr.nl;obtain⟨n1,n3⟩:=hr.size.n3;have zl:(Hd aH ns bs).length=bs.length:=by rw[IJ,hnl]; omega
 show ak L.holds rfl rfl λQ' hR=>?_
 change wZ _ _ dM [ba (aQ ms ns bs (dw gs))] S Q';dsimp only[dM];nofun
 dsimp only[wS,wT,wE,wA,wV,wG];show CA (d:=d) hfu L.look L.parts L.longer L.least hr λS1 k1=>?_
 show ab (show bS .isnot (.bl true) (.bl true) S1=ba (.bl false,S1)from rfl) ?_
 dsimp only[wB];show au (Q0:=Q') (λz=>by cases z) (λ_ Q2 hn2 _=>bX (hn2 _ _ (hK _ _ ?_)))
 clear hn2 hK K;show st ?_;dsimp only[wS,aQ];show Ai bs.length [ba (.tup [.tup (ms.map W.str),.tup (Hd aH ns bs),.tup ((dw gs).map aS)])] rfl rfl rfl ∅ (by dsimp only[wE,wA,wV,wG]; exact ah #v[] rfl (bp #[by rw[zl],.refl])) (λx hx S' _=>?_) λS' k'=>hR _ _ (k S' (k1.trans k'))
 obtain⟨b,h1,_⟩:=oA hb x hx;obtain⟨y,hy⟩:=wD hnl h1;dsimp only[wE,wA,wV,wG];show pS (d:=d+6) L.look hnl h1 ?_;show ah #v[] rfl (ah (Ho x) (by rw[Hf]; exact hy) (ah #v[] rfl ?_))
 exact zy L.alike 0 (d+6) _ _ _ trivial λS2 k2=>#[rfl,rfl,k2]
end
def wK {defs:GK (Ha×Df)}{fuel d:GX}(hfu:50 < fuel)(L:Lw01 defs){zs:GK G7}:∃S',aj defs fuel (d+9) "law" [.ref 0] [.fro (zs.map W.int)]=ba (.bl true,S'):=by
 suffices h:wO (aL (aj defs fuel (d+9)) "law" 1 [.ref 0] [.fro (zs.map W.int)]) (λp=>p.1=.bl true) by
  obtain⟨⟨v,S'⟩,e,q⟩:=bn h;cases(show v=.bl true from q)
  exact#[S',e]
 have G:=L.gen;show ak L.law rfl rfl λQ' hR=>?_
 change wZ _ _ iT [ba (.ref 0),gV,gV,gV] [.fro (zs.map W.int)] Q';dsimp only[iT];nofun
 left;show Cj (d:=d+7) L.flow (ns:=zs) rfl λr S1 _ f1=>hK _ _ ?_
 clear hK K;nofun
 left;show wf (d:=d) ∅ G L.unlay L.rule f1 λw S2 hw f2 _=>hK _ _ ?_
 clear hK K f1;nofun
 have bB:∀(w:W) (S3:aa),bA w->Fl S3 r->K [ba (.ref 0),ba (.ref r),ba w,gV] S3:=λw S3 hw f3=>by
  show hK _ _ ?_;clear hK K;nofun
  left;show wf (d:=d) ∅ G L.unlay L.rule f3 λv S4 hv f4 _=>hK _ _ ?_
  clear hK K;show st ?_;left;show mf (d:=d) ∅ L hw λS5 _=>#[λ_=>?_,λz=>by cases z]
  show mf (d:=d) ∅ L hv λS6 _=>#[λ_=>?_,λz=>by cases z]
  exact mf (d:=d) ∅ L hw λS7 _=>hR _ _ rfl
 clear hK;dsimp only[wS,wT,wE,wA,wV,wG];show aP (d:=d+7) G.pick f2 #v[] #v[] λv S3 _ _ f3 _=>?_
 show ab eg ?_;dsimp only[wB];show au (Q0:=Q') (λ_ Q2 hn2 _=>?_) (λ_ Q2 hn2 _=>bX (hn2 _ _ (bB w S3 hw f3)))
 show st ?_;left;exact sK (d:=d+2) ∅ L f3 λw' S4 hw' f4=>bX (hn2 _ _ (bB w' S4 hw' f4))
abbrev kL (i:GX):JO:=PySem.Challenge.pw_layworld_k01_rules_let_by.main.body.getD i (.Pass #[0,0,0,0])
abbrev Al:Df:=#[["_law_script"],["_law_script","_law_flow_here","_law_one","_law_other"],iT]
noncomputable abbrev Tw:=Ha×GX×Df×GX
noncomputable abbrev tw (x:Ha)(i:GX)(d:Df)(a:GX):Tw:=(x,i,d,a)
abbrev TL:GK Tw:=[tw "is_whole" 4 #[["thing"],["thing"],ey] 53,tw "is_tuple_of" 5 #[["thing","size"],["thing","size"],cD] 60,tw "is_numbers" 6 #[["thing","size"],["thing","size"],cZ] 65,tw "is_point" 8 #[["rule","thing","ahead"],["rule","thing","ahead","mark_there"],eA] 70,tw "has_point_form" 9 #[["thing","ahead"],["thing","ahead"],bF] 77,tw "way" 10 #[["rule","world","i","j"],["rule","world","i","j"],qY] 84,tw "point_over" 12 #[["rule","world","ahead","point"],["rule","world","ahead","point"],cY] 89,tw "least_form" 13 #[["rule","world"],["rule","world","form","orders","longer","lasts","least"],a7] 94,tw "longer_orders" 14 #[["orders","size"],["orders","size","longer","order"],aE] 99,tw "look_rule" 22 #[["thing"],["thing"],dL] 107,tw "back" 23 #[["rule","way"],["rule","way"],ma] 114,tw "has_form" 24 #[["thing"],["thing","texts"],eB] 119,tw "is_way" 25 #[["thing"],["thing"],gL] 126,tw "is_three" 26 #[["thing"],["thing"],eC] 131,tw "keeps_bounds" 27 #[["rule"],["rule","marks","ways"],cf] 138,tw "has_right_names" 28 #[["rule"],["rule","names"],bw] 143,tw "is_name" 29 #[["text"],["text"],fm] 148,tw "has_right_backs" 30 #[["rule"],["rule"],bx] 153,tw "is_right_back" 31 #[["rule","number"],["rule","number","other"],bQ] 160,tw "has_right_barred" 32 #[["rule"],["rule","barred","rising"],bj] 165,tw "is_figure" 33 #[["rule","three"],["rule","three"],dJ] 170,tw "_law_flow" 35 #[["_law_script"],["_law_script"],dq] 177,tw "_law_pick" 36 #[["_law_flow_here","_law_many"],["_law_flow_here","_law_many","_law_cell","_law_digit"],bT] 184,tw "_law_letters" 37 #[["_law_flow_here","_law_many"],["_law_flow_here","_law_many"],cy] 189,tw "_law_name" 38 #[["_law_flow_here","_law_stem"],["_law_flow_here","_law_stem","_law_near"],en] 196,tw "_law_names" 39 #[["_law_flow_here","_law_many"],["_law_flow_here","_law_many","_law_stem","_law_names_here","_law_k","_law_name_here","_law_spare"],bV] 203,tw "_law_between" 40 #[["_law_rule_here","_law_world","_law_i","_law_j"],["_law_rule_here","_law_world","_law_i","_law_j"],cz] 210,tw "_law_part" 41 #[["_law_rule_here","_law_world","_law_points"],["_law_rule_here","_law_world","_law_points","_law_told","_law_k","_law_i"],eu] 215,tw "_law_turns" 42 #[[],[],eR] 222,tw "_law_figure" 43 #[["_law_rule_here","_law_three"],["_law_rule_here","_law_three"],cV] 227,tw "_law_backs" 44 #[["_law_flow_here","_law_many"],["_law_flow_here","_law_many","_law_menu"],dG] 234,tw "_law_rule_of" 45 #[["_law_flow_here","_law_marks","_law_backs_here","_law_barred"],["_law_flow_here","_law_marks","_law_backs_here","_law_barred","_law_names_here","_law_ways"],cC] 239,tw "_law_free_three" 46 #[["_law_flow_here","_law_marks","_law_ways"],["_law_flow_here","_law_marks","_law_ways","_law_told","_law_k"],bE] 244,tw "_law_sizes" 47 #[["_law_flow_here"],["_law_flow_here","_law_menu"],dH] 251,tw "_law_any_rule" 48 #[["_law_flow_here"],["_law_flow_here","_law_marks","_law_ways","_law_rule_here","_law_barred","_law_k"],b8] 258,tw "_law_laying_kind" 49 #[["_law_flow_here"],["_law_flow_here","_law_menu"],bu] 265,tw "_law_breaks" 50 #[["_law_backs_here","_law_must","_law_to_one","_law_to_two","_law_between_here"],["_law_backs_here","_law_must","_law_to_one","_law_to_two","_law_between_here","_law_to","_law_pair","_law_x","_law_y","_law_z"],cW] 272,tw "_law_numbered" 51 #[["_law_flow_here","_law_backs_here","_law_must"],["_law_flow_here","_law_backs_here","_law_must","_law_many","_law_menu","_law_some","_law_numbers","_law_told","_law_k","_law_other","_law_u","_law_v"],aW] 277,tw "_law_laying_rule" 52 #[["_law_flow_here"],["_law_flow_here","_law_form","_law_backs_here","_law_must","_law_most","_law_marks","_law_rule_here","_law_barred","_law_many","_law_at","_law_one","_law_two","_law_between_here","_law_some","_law_first"],bv] 284,tw "_law_rising" 53 #[["_law_marks"],["_law_marks","_law_told","_law_i","_law_j"],cX] 289,tw "_law_free_rule" 54 #[["_law_flow_here"],["_law_flow_here","_law_marks","_law_ways","_law_rule_here","_law_k","_law_own","_law_free","_law_barred","_law_three"],bP] 294,tw "_law_one_way_rule" 55 #[["_law_flow_here"],["_law_flow_here","_law_marks","_law_barred"],bh] 299,tw "_law_unlaying_rule" 56 #[["_law_flow_here"],["_law_flow_here","_law_form","_law_rule_here","_law_barred","_law_some","_law_one","_law_two","_law_between_here","_law_first","_law_marks"],aK] 304,tw "_law_alike" 57 #[["_law_found","_law_due"],["_law_found","_law_due"],bz] 309,tw "_law_rule" 58 #[["_law_flow_here"],["_law_flow_here","_law_form"],dt] 316,tw "_law_all_threes" 59 #[["_law_marks","_law_ways"],["_law_marks","_law_ways","_law_told","_law_some","_law_at","_law_to"],bc] 323,tw "_law_all_barred" 60 #[["_law_flow_here"],["_law_flow_here","_law_marks","_law_ways","_law_rule_here","_law_barred","_law_three"],bG] 330,tw "_law_holds" 61 #[["_law_rule_here"],["_law_rule_here"],dM] 335,tw "law" 62 Al 342]
abbrev iH:GK (Ha×Df):=TL.map λp=>(p.1,p.2.2.1)
abbrev F6:GK (Ha×GX):=TL.map λp=>(p.1,p.2.2.1.ps.length)
abbrev zG:GK Ha:=["range","len","list","tuple","int","set","sorted","isinstance","bool","str","all","min","zip","enumerate","abs"]
abbrev zH:GK (Ha×W):=[("LETTERS",.str "abcdefghijklmnopqrstuvwxyz"),("LONGEST_NAME",.int 8),("WORDS",.tup (dU.map W.str)),("MOST_MARKS",.int 3),("MOST_WAYS",.int 3),("MOST_TOGETHER",.int 6)]
abbrev CJ:Md:=#[F6,zG,zH]
abbrev BD (x:Ha)(st:JO)(df:Df):Prop:=∀(kV doc pm:GM) (an:GR GZ) (cdv ct:GM) (us:GK GM),us.length=df.ps.length->bindArgs (Jf x x (cO st) (bM st) (aN st) .none kV doc pm an cdv ct) #[us,[]]=pure (df.ps.zip us)
def Gi {us:GK GM}(h:us.length=0):us=[]:=JW.mp h
def uc {us:GK GM}{n:GX}(h:us.length=n+1):∃a t,us=a::t/\t.length=n:=by
 cases us with
 | nil=>cases h
 | cons a t=>exact#[a,t,rfl,PM h]
def Gj {us:GK GM}(h:us.length=1):∃a,us=[a]:=by obtain⟨a,t,rfl,g⟩:=uc h; cases Gi g; exact#[a,rfl]
def Gk {us:GK GM}(h:us.length=2):∃a b,us=[a,b]:=by obtain⟨a,t,rfl,g⟩:=uc h; obtain⟨b,rfl⟩:=Gj g; exact#[a,b,rfl]
def Gm {us:GK GM}(h:us.length=3):∃a b c,us=[a,b,c]:=by obtain⟨a,t,rfl,g⟩:=uc h; obtain⟨b,c,rfl⟩:=Gk g; exact#[a,b,c,rfl]
def Gn {us:GK GM}(h:us.length=4):∃a b c d,us=[a,b,c,d]:=by obtain⟨a,t,rfl,g⟩:=uc h; obtain⟨b,c,d,rfl⟩:=Gm g; exact#[a,b,c,d,rfl]
def Go {us:GK GM}(h:us.length=5):∃a b c d e,us=[a,b,c,d,e]:=by obtain⟨a,t,rfl,g⟩:=uc h; obtain⟨b,c,d,e,rfl⟩:=Gn g; exact#[a,b,c,d,e,rfl]
def GC {us:GK GM}(h:us.length=6):∃a b c d e f,us=[a,b,c,d,e,f]:=by obtain⟨a,t,rfl,g⟩:=uc h; obtain⟨b,c,d,e,f,rfl⟩:=Go g; exact#[a,b,c,d,e,f,rfl]
abbrev DG (p:Tw):Prop:=DP CJ (kL p.2.1) p.2.2.1/\FnScope p.2.2.1.N p.2.2.1.ps (aN (kL p.2.1))/\BD p.1 (kL p.2.1) p.2.2.1
def gc {α:Type}{F:α->Prop}{p:α}{L:GK α}(a:F p)(b:∀q∈L,F q):∀q∈p::L,F q:=List.forall_mem_cons.mpr #[a,b]
def gn {α:Type}{F:α->Prop}:∀q∈([]:GK α),F q:=λ_ h=>nomatch h
def GD {p:Tw}(a:qJ (cS 20 (vn CJ (kL p.2.1) p.2.2.1.N)) (bM (kL p.2.1))=ba p.2.2.1.body)(b:FnScope p.2.2.1.N p.2.2.1.ps (aN (kL p.2.1)))(c:BD p.1 (kL p.2.1) p.2.2.1):DG p:=#[a,b,c]
set_option maxHeartbeats 0 in
def Am:∀p∈TL,DG p:=by
 unfold TL
 repeat show gc (GD (by kernel_rfl) #[rfl,rfl,rfl,by decide +kernel,rfl,by decide +kernel,by decide +kernel] λ_ _ _ _ _ _ us h=>by
  first
   | (obtain⟨a,rfl⟩:=Gj h; rfl)
   | (obtain⟨a,b,rfl⟩:=Gk h; rfl)
   | (obtain⟨a,b,c,rfl⟩:=Gm h; rfl)
   | (obtain⟨a,b,c,d,rfl⟩:=Gn h; rfl)
   | (obtain⟨a,b,c,d,e,rfl⟩:=Go h; rfl)
   | (obtain⟨a,b,c,d,e,f,rfl⟩:=GC h; rfl)
   | (obtain rfl:=Gi h; rfl)) ?_
 exact gn
def GF {f:Ha}{m n:GX}{b:Ss}(h:((iH.lookup f).map λd=>(d.ps.length,d.N.length,d.body))=ba (m,n,b)):Is iH f m n b:=by
 rw[GP]at h;obtain⟨d,h1,h2⟩:=h;rw[OD,OD]at h2;exact#[d,h1,h2.1,h2.2.1,h2.2.2]
set_option maxHeartbeats 0 in
def EA:Lw01 iH:=by
 repeat' first
  | exact GF (by kernel_rfl)
  | constructor
def jD:∀(L:GK Tw) (x:Ha) (n:GX),(L.map λp=>(p.1,p.2.2.1.ps.length)).lookup x=ba n->∃p∈L,p.1=x/\p.2.2.1.ps.length=n/\(L.map λp=>(p.1,p.2.2.1)).lookup x=ba p.2.2.1
 | [],x,n,h=>by cases h
 | p::L,x,n,h=>by
  rw[HX,IB]at h;rw[HX,IB];cases e:x==p.1 with
  | true=>
   rw[e]at h;cases h;exact#[p,Ik ..,(eq_of_beq e).symm,rfl,rfl]
  | false=>
   rw[e]at h;obtain⟨q,h1,h2,h3,h4⟩:=jD L x n h;exact#[q,HS _ h1,h2,h3,h4]
section
variable{P:Hs}{w:HA}{K:G0}{mg:Ha->GR GM}{base:HQ}
abbrev wL (K:G0)(mg:Ha->GR GM)(x:Ha)(st:JO)(df:Df):Prop:=∃(f:GZ) (fd:JB),Fun K x x st f fd/\mg x=ba (.ref f)/\Iz K (.ref f)=true/\Binds K fd df.ps []
def CB {h:HQ}{x:Ha}{st:JO}{df:Df}{f:GZ}{oc:GM}{od an:GR GZ}{osl:HD (GR GM)}{kV doc pm cdv ct:GM}(X:K.In h)(G:h.Ns mainGlobals mg)
  (b:BD x st df)
  (a:Jh K mainGlobals x=ba (ba (.ref f))) (l:K.lookup f=ba #[oc,od,.func (Jf x x (cO st) (bM st) (aN st) .none kV doc pm an cdv ct),osl]) (c:JT K cdv x=true) (k:Iz K (.ref f)=true):wL K mg x st df:=
 have F:=tL (st:=st) l c k
 #[f,_,F,MN X G a,k,F.binds b]
def wM {fuel:GX}(hb:MdOk w K mg CJ)(D:∀p∈TL,wL K mg p.1 (kL p.2.1) p.2.2.1):∀d,zW P w K mg base CJ iH fuel d
 | 0=>λf n h=>by
  obtain⟨p,h1,rfl,h2,h3⟩:=jD TL f n h;obtain⟨fa,fd,F,m,kp,b⟩:=D p h1;show#[fa,fd,p.2.2.1.ps,#[λvs H Q E z=>?_,λA outer s H args us vs Q E hr he hbd hv z=>?_],m,kp,b]
  all_goals
   obtain⟨_,_,_,_,_,_,_,_,z,_⟩:=z;cases z
 | d+1=>λf n h=>by
  obtain⟨p,h1,rfl,h2,h3⟩:=jD TL f n h;obtain⟨g1,g2,_⟩:=Am p h1;obtain⟨fa,fd,F,m,kp,b⟩:=D p h1;show#[fa,fd,p.2.2.1.ps,?_,m,kp,b];rw[<- h2];exact zX F g2 h3 g1 hb (wM hb D d)
abbrev CE (K:G0)(p:Ha×W):Prop:=∃v u,Jh K mainGlobals p.1=ba (ba u)/\RelV v u/\∀A H,Rel K A H p.2 v
def wQ {x:Ha}{w:W}:∀ {l:GK (Ha×W)},l.lookup x=ba w->(x,w)∈l
 | [],h=>nomatch h
 | (y,v)::l,h=>by
  rw[IB]at h;split at h
  ·rename_i e;cases h;have:=eq_of_beq e;subst this;exact Ik
  ·exact HS _ (wQ h)
def zI {u:GM}{z:Ha}(h:L2.xj u=ba (V.str z)):RelV (.str z) u:=by
 cases u with
 | str x t=>cases h; exact#[_,rfl]
 | _=>cases h
def oD:∀ {us:GK GM} {zs:GK Ha},us.map L2.xj=zs.map (λz=>ba (V.str z))->Vals (zs.map V.str) us
 | [],[],_=>.nil
 | [],_::_,h=>by cases h
 | _::_,[],h=>by cases h
 | u::us,z::zs,h=>by
  rw[HX,HX]at h;injection h with h1 h2
  exact .cons (zI h1) (oD h2)
def wR {A:GK GZ}{H:Hp}:∀zs:GK Ha,RelL K A H (zs.map W.str) (zs.map V.str)
 | []=>.nil
 | _::zs=>.cons .str (wR zs)
def EB {x:Ha}{zs:GK Ha}{a:GZ}{its:HD GM}{n:GX}(e:Jh K mainGlobals x=ba (ba (.ref a)))(l:K.lookup a=ba #[.type "tuple",gV,.seq its n,#[]])(hz:its.size<=1000)(hv:its.toList.map L2.xj=zs.map (λz=>ba (V.str z))):CE K (x,.tup (zs.map W.str)):=
 #[.ref a,.ref a,e,rfl,λA H=>.tup (.inr #[_,its,n,l,rfl,rfl,Hz hz (du rfl),oD hv]) (wR zs)]
def EC {x:Ha}{z:Ha}{t:GX}(e:Jh K mainGlobals x=ba (ba (.str z t))):CE K (x,.str z):=#[.str z,_,e,#[_,rfl],λ_ _=>.str]
def re {x:Ha}{z:G7}{t:GX}(e:Jh K mainGlobals x=ba (ba (.int z t))):CE K (x,.int z):=#[.int z,_,e,#[_,rfl],λ_ _=>.int]
def ED {h:HQ}(X:K.In h)(G:h.Ns mainGlobals mg)(z:∀y∈zG,Jh K mainGlobals y=ba gV)(c:∀p∈zH,CE K p):MdOk w K mg CJ:=#[λy hy=>PySem.W.mg_none_of X G (z y hy),λYq h1 h2 h3 x v h=>by
 subst h2 h3;obtain⟨v',u,e,r,q⟩:=c _ (wQ h);exact#[v',u,MN X G e,r,q]]
end
def CC {l:LX}{w:HA}{K:G0}{h:HQ}{mg:Ha->GR GM}{fa f:GZ}(X:K.In h)(G:h.Ns mainGlobals mg)(hfa:mg "law" = ba (.ref fa))(hb:MdOk w K mg CJ)(D:∀p∈TL,wL K mg p.1 (kL p.2.1) p.2.2.1)
  {oc:GM} {od an:GR GZ} {osl:HD (GR GM)} {kV doc pm cdv ct:GM} (a:Jh K mainGlobals "law" = ba (ba (.ref f))) (l':K.lookup f=ba #[oc,od,.func (Jf "law" "law" (cO (kL 62)) (bM (kL 62)) (aN (kL 62)) .none kV doc pm an cdv ct),osl]) (c:JT K cdv "law" = true) (k:Iz K (.ref f)=true) :
  ∃fd:JB,(∀(s:GQ) (v:GM),Nb s fd #[[v],[]] [("_law_script",v)])/\∀base:HQ,K.In base->base.Ns mainGlobals mg->FnOk l.prog w K mg base sL 9 fa fd ["_law_script"] (spF w K 1 (aj iH 100 9 "law")):=by
 have e:=hfa.symm.trans (MN X G a);cases e;have F:=tL (st:=kL 62) l' c k;exact#[Jf "law" "law" (cO (kL 62)) (bM (kL 62)) (aN (kL 62)) .none kV doc pm an cdv ct,λs v=>.of_eq rfl,λbase _ _=>zX (df:=Al) F #[rfl,rfl,rfl,by decide +kernel,rfl,by decide +kernel,by decide +kernel] (by rfl) (by rfl) hb (wM hb D 8)]
def F7 {l:LX}{q:Hs}{loose:GK Ha}{XP:(Ha->GR GM)->HQ->Prop}{YP:HA->HQ->Prop}{d:DefRec}{K:Mj->G0}(hn:l.most=ba 63)(hdf:d.params.defaults=[])
  (hY:∀(w:HA) (h:HQ),YP w h->(K w.params).In h)
  (F:∀(w:HA) (mg:Ha->GR GM) (fa:GZ) (h:HQ),(K w.params).In h->h.Ns mainGlobals mg->mg d.name=ba (.ref fa)->
   ∃fd:JB,(∀(s:GQ) (u:GM),Nb s fd #[[u],[]] [("_law_script",u)])/\∀base:HQ,(K w.params).In base->base.Ns mainGlobals mg->FnOk l.prog w (K w.params) mg base sL 9 fa fd ["_law_script"] (spF w (K w.params) 1 (aj iH 100 9 "law"))) :
  Ov q loose XP YP l.row.toRowW d [] (λf vs=>Ob f vs):=
 L2.xG (n:=63) (k:=9) (x:="_law_script") (CX:=λ_=>sL) (sp:=λw=>spF w (K w.params) 1 (aj iH 100 9 "law")) hn #v[] hdf #[rfl,#v[],#v[]] hY F
  (λw H a ns hl hO hS=>BM (wK (defs:=iH) (fuel:=100) (d:=0) #v[] EA) hO hS) λ_ _ _ _ _ z=>z
end Mi
open PySem PySem.W PyProof.Rows L2
set_option maxHeartbeats 0
namespace Mi
section
abbrev pw:Hs:=LH
abbrev ge (P:Mj)(n:Ha)(t:GX)(v:GM):Jm:=#[PyData.keyHash P n,.str n t,v]
abbrev kd (a:GX)(es:GK Jm)(n:GX):GZ×ID:=(a,#[.type "dict",gV,.dict es.toArray n,#[]])
abbrev kc (a:GX)(vs:GK GM):GZ×ID:=(a,#[.type "code",gV,.fields vs.toArray,#[]])
abbrev kf (a:GX)(st:JO)(n:Ha)(pm cd:GM):GZ×ID:=(a,#[.type "function",gV,.func (Jf n n (cO st) (bM st) (aN st) .none .none .none pm gV cd .none),#[]])
abbrev F8 (i:GX):GM:=if i<=6 then(.str "layworld.kinds" 232)else if i<=10 then(.str "layworld.worlds" 255)else if i<=14 then(.str "layworld.parts" 281)else if i<=33 then(.str "layworld.rules" 301)else(.str "law_layworld_k01_rules_let_by" 405)
abbrev kx (a:GX)(b:Hr)(i:GX)(s:Ha)(t:GX)(l p:G7)(m:GX)(R:G0):G0:=kc a [.str s t,.str s (t+1),.str "/claim/cut.py" (t+2),.int l 0,.int p 0,.int 0 0,.int 0 0,.int 3 0,.ref (if b then a - 5 else a - 3),.bool true,.int 181 0,.ref (if b then a - 4 else a - 2),.none,if b then .ref (a - 3)else .none,if b then .ref (a - 2)else .none,.ref (a - 1),.int m 0,.int l 0,.str "/claim/cut.py" (m+1)]::kf (a+1) (kL i) s (F8 i) (.ref a)::R
abbrev kq (a:GX)(vs:GK GM)(n:GX)(R:G0):G0:=(a,#[.type "tuple",gV,.seq vs.toArray n,#[]])::R
abbrev An:GK GM:=[(.str "marks" 307),(.str "ways" 308),(.str "bar" 309),(.str "some" 310),(.str "each" 311),(.str "not" 312),(.str "and" 313),(.str "or" 314),(.str "is" 315)]
abbrev K0 (P:Mj):G0:=kd 3 [ge P "__name__" 165 (.str "law_layworld_k01_rules_let_by" 405),ge P "__doc__" 166 .none,ge P "__package__" 167 .none,ge P "__loader__" 168 (.builtin "__main__.__loader__#opaque"),ge P "__spec__" 169 .none,ge P "__annotations__" 170 (.ref 6),ge P "__builtins__" 171 (.ref 4),ge P "__file__" 173 (.str "/claim/cut.py" 172),ge P "__cached__" 174 .none,ge P "LayError" 206 (.ref 24),ge P "NoRule" 231 (.ref 44),ge P "is_whole" 240 (.ref 53),ge P "is_tuple_of" 248 (.ref 60),ge P "is_numbers" 254 (.ref 65),ge P "is_point" 262 (.ref 70),ge P "has_point_form" 270 (.ref 77),ge P "way" 280 (.ref 84),ge P "point_over" 288 (.ref 89),ge P "least_form" 294 (.ref 94),ge P "longer_orders" 300 (.ref 99),ge P "LETTERS" 304 (.str "abcdefghijklmnopqrstuvwxyz" 303),ge P "LONGEST_NAME" 306 (.int 8 305),ge P "WORDS" 316 (.ref 100),ge P "MOST_MARKS" 318 (.int 3 317),ge P "MOST_WAYS" 320 (.int 3 319),ge P "MOST_TOGETHER" 322 (.int 6 321),ge P "look_rule" 329 (.ref 107),ge P "back" 337 (.ref 114),ge P "has_form" 343 (.ref 119),ge P "is_way" 350 (.ref 126),ge P "is_three" 356 (.ref 131),ge P "keeps_bounds" 365 (.ref 138),ge P "has_right_names" 371 (.ref 143),ge P "is_name" 377 (.ref 148),ge P "has_right_backs" 383 (.ref 153),ge P "is_right_back" 392 (.ref 160),ge P "has_right_barred" 398 (.ref 165),ge P "is_figure" 404 (.ref 170),ge P "_law_flow" 413 (.ref 177),ge P "_law_pick" 423 (.ref 184),ge P "_law_letters" 429 (.ref 189),ge P "_law_name" 438 (.ref 196),ge P "_law_names" 451 (.ref 203),ge P "_law_between" 461 (.ref 210),ge P "_law_part" 467 (.ref 215),ge P "_law_turns" 473 (.ref 222),ge P "_law_figure" 479 (.ref 227),ge P "_law_backs" 488 (.ref 234),ge P "_law_rule_of" 494 (.ref 239),ge P "_law_free_three" 500 (.ref 244),ge P "_law_sizes" 508 (.ref 251),ge P "_law_any_rule" 520 (.ref 258),ge P "_law_laying_kind" 528 (.ref 265),ge P "_law_breaks" 544 (.ref 272),ge P "_law_numbered" 550 (.ref 277),ge P "_law_laying_rule" 571 (.ref 284),ge P "_law_rising" 577 (.ref 289),ge P "_law_free_rule" 583 (.ref 294),ge P "_law_one_way_rule" 589 (.ref 299),ge P "_law_unlaying_rule" 595 (.ref 304),ge P "_law_alike" 601 (.ref 309),ge P "_law_rule" 609 (.ref 316),ge P "_law_all_threes" 621 (.ref 323),ge P "_law_all_barred" 633 (.ref 330),ge P "_law_holds" 639 (.ref 335),ge P "law" 649 (.ref 342)] 66::(kx 52 true 4 "is_whole" 234 10 1 238
 (kx 59 true 5 "is_tuple_of" 241 12 2 246
 (kx 64 false 6 "is_numbers" 249 14 2 252
 (kx 69 false 8 "is_point" 257 17 3 260
 (kx 76 true 9 "has_point_form" 263 22 2 268
 (kx 83 true 10 "way" 271 24 4 278
 (kx 88 false 12 "point_over" 283 29 4 286
 (kx 93 false 13 "least_form" 289 31 2 292
 (kx 98 false 14 "longer_orders" 295 41 2 298
 (kq 100 An 0
 (kx 106 true 22 "look_rule" 323 53 1 327
 (kx 113 true 23 "back" 330 65 2 335
 (kx 118 false 24 "has_form" 338 67 1 341
 (kx 125 true 25 "is_way" 344 72 1 348
 (kx 130 false 26 "is_three" 351 74 1 354
 (kx 137 true 27 "keeps_bounds" 357 76 1 363
 (kx 142 false 28 "has_right_names" 366 80 1 369
 (kx 147 false 29 "is_name" 372 83 1 375
 (kx 152 false 30 "has_right_backs" 378 87 1 381
 (kx 159 true 31 "is_right_back" 384 89 2 390
 (kx 164 false 32 "has_right_barred" 393 94 1 396
 (kx 169 false 33 "is_figure" 399 98 2 402
 (kx 176 true 35 "_law_flow" 407 103 1 411
 (kx 183 true 36 "_law_pick" 414 105 2 421
 (kx 188 false 37 "_law_letters" 424 120 2 427
 (kx 195 true 38 "_law_name" 430 122 2 436
 (kx 202 true 39 "_law_names" 439 130 2 449
 (kx 209 true 40 "_law_between" 452 143 4 459
 (kx 214 false 41 "_law_part" 462 147 3 465
 (kx 221 true 42 "_law_turns" 468 153 0 471
 (kx 226 false 43 "_law_figure" 474 155 2 477
 (kx 233 true 44 "_law_backs" 480 157 2 486
 (kx 238 false 45 "_law_rule_of" 489 160 4 492
 (kx 243 false 46 "_law_free_three" 495 164 3 498
 (kx 250 true 47 "_law_sizes" 501 169 1 506
 (kx 257 true 48 "_law_any_rule" 509 172 1 518
 (kx 264 true 49 "_law_laying_kind" 521 179 1 526
 (kx 271 true 50 "_law_breaks" 529 188 5 542
 (kx 276 false 51 "_law_numbered" 545 196 3 548
 (kx 283 true 52 "_law_laying_rule" 551 211 1 569
 (kx 288 false 53 "_law_rising" 572 231 1 575
 (kx 293 false 54 "_law_free_rule" 578 237 1 581
 (kx 298 false 55 "_law_one_way_rule" 584 250 1 587
 (kx 303 false 56 "_law_unlaying_rule" 590 254 1 593
 (kx 308 false 57 "_law_alike" 596 269 2 599
 (kx 315 true 58 "_law_rule" 602 281 1 607
 (kx 322 true 59 "_law_all_threes" 610 288 2 619
 (kx 329 true 60 "_law_all_barred" 622 295 1 631
 (kx 334 false 61 "_law_holds" 634 302 1 637
 (kx 341 true 62 "law" 640 306 1 647 []))))))))))))))))))))))))))))))))))))))))))))))))))
abbrev Gp:GK GX:=[3,52,53,59,60,64,65,69,70,76,77,83,84,88,89,93,94,98,99,100,106,107,113,114,118,119,125,126,130,131,137,138,142,143,147,148,152,153,159,160,164,165,169,170,176,177,183,184,188,189,195,196,202,203,209,210,214,215,221,222,226,227,233,234,238,239,243,244,250,251,257,258,264,265,271,272,276,277,283,284,288,289,293,294,298,299,303,304,308,309,315,316,322,323,329,330,334,335,341,342]
abbrev vq:Hs:={ pw with main:={ pw.main with body:=[kL 62] } }
abbrev lo:GK Ha:=[("LayError" : Ha),("NoRule" : Ha),("is_whole" : Ha),("is_tuple_of" : Ha),("is_numbers" : Ha),("is_point" : Ha),("has_point_form" : Ha),("way" : Ha),("point_over" : Ha),("least_form" : Ha),("longer_orders" : Ha),("LETTERS" : Ha),("LONGEST_NAME" : Ha),("WORDS" : Ha),("MOST_MARKS" : Ha),("MOST_WAYS" : Ha),("MOST_TOGETHER" : Ha),("look_rule" : Ha),("back" : Ha),("has_form" : Ha),("is_way" : Ha),("is_three" : Ha),("keeps_bounds" : Ha),("has_right_names" : Ha),("is_name" : Ha),("has_right_backs" : Ha),("is_right_back" : Ha),("has_right_barred" : Ha),("is_figure" : Ha),("_law_flow" : Ha),("_law_pick" : Ha),("_law_letters" : Ha),("_law_name" : Ha),("_law_names" : Ha),("_law_between" : Ha),("_law_part" : Ha),("_law_turns" : Ha),("_law_figure" : Ha),("_law_backs" : Ha),("_law_rule_of" : Ha),("_law_free_three" : Ha),("_law_sizes" : Ha),("_law_any_rule" : Ha),("_law_laying_kind" : Ha),("_law_breaks" : Ha),("_law_numbered" : Ha),("_law_laying_rule" : Ha),("_law_rising" : Ha),("_law_free_rule" : Ha),("_law_one_way_rule" : Ha),("_law_unlaying_rule" : Ha),("_law_alike" : Ha),("_law_rule" : Ha),("_law_all_threes" : Ha),("_law_all_barred" : Ha),("_law_holds" : Ha)]
abbrev EL (K:G0)(p:Tw):Prop:=Jh K mainGlobals p.1=ba (ba (.ref p.2.2.2))/\K.lookup p.2.2.2=ba (kf p.2.2.2 (kL p.2.1) p.1 (F8 p.2.1) (.ref (p.2.2.2 - 1))).2/\JT K (.ref (p.2.2.2 - 1)) p.1=true/\Iz K (.ref p.2.2.2)=true
def GH {K:G0}{p:Tw}(e:Jh K mainGlobals p.1=ba (ba (.ref p.2.2.2)))(l:K.lookup p.2.2.2=ba (kf p.2.2.2 (kL p.2.1) p.1 (F8 p.2.1) (.ref (p.2.2.2 - 1))).2)(c:JT K (.ref (p.2.2.2 - 1)) p.1=true)(k:Iz K (.ref p.2.2.2)=true):EL K p:=#[e,l,c,k]
def EE (P:Mj):∀p∈TL,EL (K0 P) p:=by
 unfold TL
 repeat show gc (GH (by kernel_rfl) (by kernel_rfl) (by kernel_rfl) (by kernel_rfl)) ?_
 exact gn
def EF (P:Mj):∀y∈zG,Jh (K0 P) mainGlobals y=ba gV:=by
 unfold zG
 repeat show gc (F:=λy=>Jh (K0 P) mainGlobals y=ba gV) (by kernel_rfl) ?_
 exact gn
def EG (P:Mj):∀p∈zH,CE (K0 P) p:=by
 unfold zH;show gc (EC (t:=303) (by kernel_rfl)) ?_
 show gc (re (t:=305) (by kernel_rfl)) ?_
 show gc (EB (a:=100) (its:=An.toArray) (n:=0) (by kernel_rfl) (by kernel_rfl) (KG rfl) rfl) ?_
 show gc (re (t:=317) (by kernel_rfl)) ?_
 show gc (re (t:=319) (by kernel_rfl)) ?_
 show gc (re (t:=321) (by kernel_rfl)) ?_
 exact gn
def eK:∀P,Gp=(K0 P).map (·.1):=λ_=>by kernel_rfl
abbrev hk:PySem.W.Hook:=PySem.W.kHook K0 Gp eK
def hl:PySem.W.LeftO pw vq lo (λs=>OO vq [] s&&OE [] s) hk.obs hk.val 4060:=λw=>by kernel_rfl
def s0:PySem.Challenge.rw_layworld_k01_rules_let_by.row.wellSaid=true:=by kernel_rfl
end
end Mi
end
end ZZ.Lean
open ZZ.Lean
theorem PySem.Challenge.cw_layworld_k01_rules_let_by_holds : PySem.Challenge.rw_layworld_k01_rules_let_by.Holds := by
 w_on
 show PySem.W.holds_law (HG (HG (HG (HG (HG (HG (HG (HG (HG (HG (HG (HG (HG (HG (HG (HG (HG (HG (Mi.s0) (by kernel_rfl)) (by kernel_rfl)) (by kernel_rfl)) (by kernel_rfl)) (by kernel_rfl)) (by kernel_rfl)) (by kernel_rfl)) (by kernel_rfl)) (by kernel_rfl)) (by kernel_rfl)) (by kernel_rfl)) (by kernel_rfl)) (by kernel_rfl)) (by kernel_rfl)) (by kernel_rfl)) (by kernel_rfl)) (by kernel_rfl)) (by kernel_rfl)) (λsaid=>?_)
 show PySem.W.holds_open (q:=Mi.vq) (loose:=Mi.lo) (Xt:=λs=>OO Mi.vq [] s&&OE [] s) (XP:=PySem.W.XL Mi.vq []) (Yf:=Mi.hk.obs) (Ya:=Mi.hk.val) (YP:=Mi.hk.says) (N:=4060) Mi.hl Mi.hk.of Mi.hk.keeps (λs e=>PySem.W.xl_of s (Mw.mp e).1) Pp (by rfl) (by rfl) (by rfl) (λs e=>PySem.W.recFacts_of (Mw.mp e).2) (by rfl) said (by decide +kernel) #[rfl,rfl,rfl,rfl,rfl,by decide +kernel] ?hw ?hc
 case hw=>w_witness2
 case hc=>
 show Mi.F7 (l:=LI) (K:=Mi.K0) rfl rfl (λw h Yq=>PySem.W.kIn_of Yq) ?F
 case F=>
  intro w mg fa h KX G hmg;exact Mi.CC KX G hmg (Mi.ED KX G (Mi.EF w.params) (Mi.EG w.params)) (λp hp=>let ⟨e,l,c,k⟩:=Mi.EE w.params p hp; Mi.CB KX G (Mi.Am p hp).2.2 e l c k)
   (f:=342) (oc:=.type "function") (od:=gV) (an:=gV) (osl:=#[]) (kV:=.none) (doc:=.none) (pm:=(.str "law_layworld_k01_rules_let_by" 405)) (cdv:=.ref 341) (ct:=.none) (by kernel_rfl) (by kernel_rfl) (by kernel_rfl) (by kernel_rfl)
