import PyProof.Rows.All
import Wide.All
import OpenK.AllK
import Wide.FinOn
import Lean
import PyProof.EqAt
import PyProof.EqKinds
import PyProof.TupleCall
import PySem.Challenge.RW_layworld_k26_bases_told_otherwise
import KE.KDictList
import PyProof.SetKind
import PyProof.IsRules
import KE.KSortTup
import PyProof.Cells
import PyProof.ZipIter
import PyProof.Draws
import PyProof.EnumMake
import PyProof.WalksEnum
noncomputable section
open Option renaming some->gV,none->td
set_option hygiene false
local macro_rules|`(abbrev $i:declId $s:optDeclSig $v:declVal)=>`(noncomputable def $i:declId $s:optDeclSig $v:declVal)|`(def $i:declId $b* :$t $v:declVal)=>`(theorem $i:declId $b* :$t $v:declVal)|`(tactic|omega)=>`(tactic|first|lia|omega (config:={}))|`(tactic|show $e:term)=>`(tactic|refine $e:term)|`(tactic|left)=>`(tactic|dsimp only[wS,wE,wA,wV,wG,List.set])|`(tactic|nofun)=>`(tactic|refine aJ λK hK=>?_)
local macro_rules|`(#v[])=>`((by decide))|`(#v[$x:term])=>`(.cons $x .nil)|`(#v[$x:term,$y:term,*])=>`(.cons $x #v[$y,*])
local macro_rules|`(#[$x:term])=>`(⟨$x⟩)|`(#[$x:term,$y:term,*])=>`(⟨$x,$y,*⟩)
local macro_rules|`(∅)=>`((by omega))
open _root_ renaming List->Gy,Option->GH,Nat->GJ,Int->G1,if_pos->Hf,Bool->Hi,if_neg->Hl,decide_eq_true_eq->Hm,decide_eq_false->Hs,Array->HE,decide_eq_true->HI,of_decide_eq_true->HS,beq_self_eq_true->Im,False->Ip,String->Ir,if_false->JD,if_true->JE,DecidableEq->J5,beq_eq_false_iff_ne->Kj,of_decide_eq_false->Kw,decide_eq_true_iff->Kz,beq_iff_eq->KA,decide_eq_false_iff_not->KD,or_false->KI,bne_self_eq_false->Nm,True->N1,dif_pos->Pi
open List renaming length_map->Gz,range->GL,getElem?_map->GM,length_append->GQ,mem_of_getElem?->GV,set->GX,mem_range->G2,zipWith->G3,mem_map->G4,getElem?_eq_getElem->G5,size_toArray->G6,all_eq_true->G7,mem_singleton->G8,getElem?_eq_some_iff->G9,getD_eq_getElem?_getD->Ha,length_range->Hg,mem_cons->Hj,map_append->Hk,getElem?_append_left->Hr,length_take->Hu,mem_append_right->Hw,replicate->Hy,getElem_mem->HA,mem_cons_of_mem->HC,mem_append->HF,map_congr_left->HH,length_cons->HJ,take_add_one->HK,map_map->HL,all_cons->HN,mem_cons_self->HU,map_cons->HX,take_length->HY,lookup_cons->Ig,mem_filter->Ih,getElem?_append_right->Ii,length_singleton->Ij,idxOf_lt_length_of_mem->Io,getElem_inj->Iq,append_nil->Iv,not_mem_nil->IF,getElem?_range->IG,length_nil->IL,findIdx?_eq_some_iff_getElem->IR,getElem?_set->IS,pairwise_map->IT,replicate_succ->IU,getElem?_eq_none_iff->IW,length_filter_le->IX,mem_append_left->Ja,find?_cons->Jf,range_succ->Jg,length_zipWith->Jh,getElem_of_mem->Ji,any_cons->Jm,find?_eq_none->Jr,nodup_iff_pairwise_ne->Js,pairwise_iff_getElem->Jw,nodup_cons->Jy,flatten_cons->JF,getElem_take->JG,mem_of_mem_take->JH,mem_iff_getElem->JI,length_dropLast->JJ,length_pos_iff->JP,length_drop->JR,length_eq_zero_iff->JT,eq_nil_of_length_eq_zero->JW,zip_cons_cons->JX,mem_eraseDups->JZ,getElem?_eq_none->J2,append_assoc->J4,ext_getElem->Kc,nodup_range->Kd,mem_flatMap->Ke,getLastD_eq_getLast?->Ki,filterMap_cons->Kk,map_take->Kr,filter_append->Kx,getElem_idxOf->Ky,take_of_length_le->KO,take_append_drop->KP,find?_some->KZ,rel_of_pairwise_cons->Lk,mem_of_find?_eq_some->Lm,exists_mem_of_ne_nil->Ln,getLast?_eq_getElem?->Lo,ext_getElem?->Lu,nodup_append->Lv,getElem?_take_of_lt->Lx,cons_append->LI,perm_middle->LJ,getElem?_set_self->LL,range_succ_eq_map->LO,drop_of_length_le->LV,getElem?_dropLast->LW,of_mem_zip->LY,nil_append->LZ,forIn_cons->L1,length_replicate->L8,getElem?_set_ne->Mh,forIn_nil->Mo,nodup_nil->Mp,getLastD_concat->Mq,length_eraseIdx->Mr,eraseDups_cons->MB,flatMap_append->MC,filter_eq_self->MD,mem_filterMap->MS,pairwise_cons->MZ,ne_nil_of_mem->M2,take_sublist->M9,map_nil->Nh,all_map->Ni,zip_nil_left->Nj,flatMap_cons->Nq,filter_congr->Nt,any_toArray->ND,getElem_map->NF,range'_succ->NG,any_eq_true->NH,isEmpty_iff->NK,cons_ne_nil->NM,length->NO,map_id->NS,length_set->NU,foldr_cons->NW,foldl->N6,drop_zero->Og,map->Oh,take_zero->Oi,map_set->OL,range'->OY,Nodup->Pf
open PySem renaming wpAny_bind->GB,Value->GC,Shared->GF,Addr->GP,wpAny_pure->GU,Str->Hc,Expr->Hh,Program->Ht,Around->Hz,World->HD,Heap->HP,wpAny_newObj_type->HQ,sizeLine_eq->HR,wpAny_callSpecial?_slot->Ik,wpAny_call_entry->Ix,wpAny_truthy_bool->Iy,NameKind->Iz,wpAny_holding->IC,Obj->IJ,codeAny_builtin->IN,wpAny_mono->IP,wpAny_field->Jb,wpAny_typeNameOfWhole_keyiter->Jc,DictEntry->Jd,Spec->Jo,FuncData->Jp,Pos->Ju,wpAny_passesOwn->Jx,wpAny_typeNameOf_keyiter->JL,Stmt->JN,mem_of_lookup->JO,Scope->JU,plainId_quiet->J0,wpAny_seqItems->J9,wpAny_loadPart'->Ks,wpAny_Call_Name_kw->Kt,call_meets->Ku,wpAny_dictEntries->KH,wpAny_standAt->KU,wpAny_letGo->KW,wpAny_typeOf->K4,IsPart->Lb,wpAny_setField->Ld,wpAny_tryCatch->Le,wpAny_pyIter_list->Lr,wpAny_attempt->Ly,wpAny_comprehension_free->LA,noFill_tuple_add->LC,wpAny_forIn_list->LD,wpAny_isInstance->LF,Paired->LK,codeAny_mono->LM,Builtin->LP,ItemsOf->LQ,wpAny_execs_nil->LX,wpAny_dictEpoch->L3,wpAny_updateSeq->L4,pushCells_keeps->L7,wpAny_isOneOf_keyiter->Mc,GenState->Mg,wpAny_of_eq->Mk,wpAny_pyIter_keyiter->Ml,wpAny_runValue->Mn,PassesOwn->Mv,rangeSize_one->ME,seq_tuple_add->MF,wpAny_newList->MK,Env->MO,wpAny_rule->MQ,wpAny_load->MR,Params->MV,wpAny_pyIter_tuple->M0,wpAny_assign_Name->M5,Operator->M7,BindsTo->M8,concat_meets->Na,wpAny_sequenceKey->Nb,seqIndex_neg->Nc,list_append->Nd,wpAny_pyIter_enum->Np,wpAny_pyHash_int->Nv,wpAny_pyHash_str->Nw,Result->Ny,CmpOp->NN,seqIndex_of->NP,wpAny_mkInt->NQ,Keyword->NZ,wpAny_Name->N2,wpAny_bindName->N3,typeIs_int->N5,fitsIndex_both->N7,call->N9,SetTable->Oa,wpAny_fieldsOf->Oc,isSubtype_stop->Od,wpAny_newTuple->Of,intBits_le_64->Oo,evalPart_none->Oq,call_list_seq->Ot,wpAny_handled->Oz,small_one->OE,call_range_1->OH,Model->OP,Sem->OQ,IsRangeIter->OR,wpAny_throw->OX,wpAny_alloc->OZ,BoolOp->Pd,IsEnum->Pe,IsRange->Pj,Drawn->Ps,Walks->Pw,Tok->Py
open Option renaming map_eq_some_iff->GD,map_some->Hv,isSome_iff_exists->HW,getD_none->NA,getD_some->NJ,toList->OB
open Bool renaming and_eq_true->GK,false_ne_true->He,false_eq_true->Iu,or_eq_true->ID,eq_iff_iff->IE,true_and->JM,not_eq_true'->KM,and_eq_false_iff->L9,and_eq_true_iff->Ms,and_true->MG,not_true->MH,false_or->MJ,or_false->Os,not_not->OM
open PySem.Heap renaming get?_push_of_some->GN,get?_push_size->Hb,lt_size->Hd,get?_update_other->Ic,get?_update_self->Jt,SameBut->JB,get?_update_ne->Km,size_push->KJ,ExtBut->Mj,size_update->NE
open Int renaming natCast_nonneg->GR,toNat_natCast->G0,emod_lt_of_pos->IY,emod_nonneg->JA,zero_add->KN,toNat_of_nonneg->My,ediv_nonneg->NX
open Nat renaming le_refl->GY,ne_of_lt->Ho,lt_of_lt_of_le->Hq,le_trans->HB,lt_irrefl->Il,zero_le->IH,lt_succ_self->Jn,ne_of_gt->JC,le_succ->JV,min_self->JY,le_of_ble_eq_true->J3,le_of_lt->Kb,lt_succ_of_lt->KL,succ_le_succ->KS,lt_trans->K5,lt_of_le_of_lt->Lg,lt_of_succ_lt_succ->LS,lt_or_gt_of_ne->MY,sub_zero->Nn,lt_or_ge->No,sub_self->Nr,min_eq_right->NL,min_eq_left->NY,not_lt->Oe,add_assoc->Ox,succ_mul->OI,one_pos->O0,ble->PD
open PySem.W renaming Frag->GZ,look_both->HG,keepIn->Iw,fnOf->IZ,kia_one->Jz,codeIn->JQ,kas_sort->JS,nsIn->Kf,methodObj->Lp,cellsFrom_some->LN,OpenLaw->L0,kat_nil->L6,KdlSrc->Mm,WalkO->Ou,recOk->Ov,Looks->OA,mg_of->OD,xlAt->OJ
open Array renaming length_toList->Hn,getElem?_toList->II,getElem?_eq_some_iff->Jq,getElem?_eq_getElem->Kh,perm_iff_toList_perm->Lf,getD->LR,append_assoc->MN,forIn_toList->MW,toList->OG
open Option.some renaming injEq->Hx,inj->HV
open PySem.Value renaming ref->HM,none->HZ,bool->J6,type->J7,int->KQ,str->LB
open PySem.Obj renaming mapSeq->IA,data_mapFields->Kv,isFreed_of_fields->Mf,cls_mapFields->Nk,mapFields->Oy
open PySem.Around renaming under_plainId->IB
open PySem.Builtin.Tuple renaming tupleExact->IK,tupleItemsOf->J8,tupleHashOf->Lh,tupleCompareSizes->Nu,tupleIsExact->Ob
open ForInStep renaming yield->IM
open PySem.Builtin.Range renaming rangeSize->IQ,small->K1
open PyProof.Rows renaming slot_tuple_getitem->IV,callWith_type1->Jj,subscriptTail_builtinR->KG,assignInOrder_cons->La,AllBare->Lq,listUpdate_at->Lz,SortKind->LG,get?_update_seq->L5,entry_tuple_getitem->Mx,lt_int->Mz,args_tuple_getitem->MT,IsTup->M4,assignInOrder_nil->M6,IntsAre->Ng,listItems_at->Nl,callWith_builtin1->Nz,seqEpoch_at->NR,slicePart_none->N4,tupleItemsOf_->Op
open PySem.F renaming plainAttrs_list->Je,args_tuple_add_2->Kn,entry_tuple_add->KC,slot_tuple_add->KF,slot_list_index->LH,slot_dict_get->Ma
open PySem.Str renaming ofString->Jk
open PySem.Builtin.List renaming listExtendWith->Jl,listTooLong->JK,listFitsIndex->N8
open PySem.Builtin.Slice renaming slicePlaces->Jv,sliceAdjust->Kg,sliceApplied->Lc,slicePartIndex->NT,sliceFields->Oj
open PySem.NameKind renaming cell->J1,free->Kq
open PySem.Heap.SameBut renaming update->Kl,refl->Pk
open PySem.Builtin.SmallTypes renaming ownedTupleIsFree->Ko,nextOf->Ll,ownedTupleHandOut->MA
open PySem.SeqAt renaming EqAt->KR,notIn_listAt->MU,in_tupleAt->NB,in_listAt->NV
open True renaming intro->KT
open PySem.Builtin.Dict_items renaming ownsTuple->KY
open PySem.Challenge renaming pw_layworld_k26_bases_told_otherwise->K6,rw_layworld_k26_bases_told_otherwise->K8
open PySem.Builtin.Builtins renaming bindParams->K7
open PySem.Calls renaming Name_function_global->K9,call_function_entry->Lj,Constant_str->MP
open Classical renaming byContradiction->Li,propDecidable->OF
open Function renaming comp_def->Ls
open PySem.Paired renaming length->Lw
open PySem.Env renaming kindOf->LU
open PySem.Builtin.Dict renaming showsAll->Mb,dictSlotNone->Om,pendingCount->On
open Sum renaming inl->Mt,inr->Mu
open PySem.Expr renaming Name->Mw
open PySem.SeqAt.EqAt renaming int_str->ML,str_int->MM,none_bool->OT,bool_none->OU,bool_bool->OV,none_int->O1,none_str->O2,bool_int->O3,bool_str->O4,int_none->O5,int_bool->O6,str_none->O7,str_bool->O8,int_int->Pa,str_str->Pb,same->Pq
open PUnit renaming unit->MX
open PySem.ScopeKind renaming function->M1
open PySem.AutoListH renaming list___mul___list_int_3->M3
open PySem.AutoSeq1 renaming list_extend_list_list_0->Nf,sub_tuple_tuple->Ow
open PyProof.Rows.IsTup renaming new->Nx
open PySem.IsL renaming update->NC
open PySem.Builtin.Str renaming tooLong->Ol
open Prod.mk renaming injEq->OC
open List.Perm renaming append_right->ON,append_left->OO,nil_eq->Po,swap->Pu,map->Px
open Prod renaming ext->OS
open PySem.MeetsSeq renaming list_pop_at->OW
open PySem.Heap.IsSliceOf renaming new->O9
open PySem.Walks renaming list->Pc
open List.Nodup renaming sublist->Pg
open List.Pairwise renaming nil->Ph
open PySem.Flow renaming next->Pl
open PySem.W.Looks renaming ld->Pn
open PySem.W.XL renaming keeps->Pp
open PySem.PassesOwn renaming never->Pr
open PySem.Txt renaming mul->Pz
open Iff renaming rfl->PC
open Nat.succ renaming inj->PF
set_option genSizeOf false
namespace ZZ.Lean
noncomputable section
set_option Elab.async false
set_option linter.all false
set_option maxRecDepth 100000
namespace L2
open PySem PySem.Spec PyProof.Rows
noncomputable abbrev mh:=Sum G1 Hc
abbrev z9:mh->GC->Hi
 | .inl k,v=>Value.isInt k v
 | .inr x,v=>Value.isStrOf x v
abbrev EQ (w:HD):mh->G1
 | .inl k=>hashInt k
 | .inr x=>hashStr w x
def bw:∀ {k:mh} {v:GC},z9 k v=true->(∃i t,k=Mt i/\v=KQ i t)\/(∃x t,k=Mu x/\v=LB x t)
 | .inl i,v,h=>by
  obtain⟨t,e⟩:=Value.isInt_shape (k:=i) (v:=v) h;exact .inl #[i,t,rfl,e]
 | .inr x,v,h=>by
  obtain⟨t,e⟩:=Value.isStrOf_shape (x:=x) (v:=v) h;exact .inr #[x,t,rfl,e]
def AI (a b:G1):decide ((Mt a:mh)=Mt b)=(a==b):=by
 by_cases e:a=b
 ·subst e; simp
 ·have h:¬ (Mt a:mh)=Mt b:=λq=>e (Sum.inl.inj q)
  rw[Hs h];exact(Kj.mpr e).symm
def AJ (a b:Hc):decide ((Mu a:mh)=Mu b)=decide (a=b):=by
 by_cases e:a=b
 ·subst e; simp
 ·have h:¬ (Mu a:mh)=Mu b:=λq=>e (Sum.inr.inj q)
  rw[Hs h,Hs e]
def AK (a:G1)(b:Hc):decide ((Mt a:mh)=Mu b)=false:=Hs (λq=>nomatch q)
def AL (a:Hc)(b:G1):decide ((Mu a:mh)=Mt b)=false:=Hs (λq=>nomatch q)
abbrev mj (prog:Ht)(w:HD):PySem.KeyKind prog w mh where
 is:=z9
 hash:=EQ w
 inj:=λv a b ha hb=>by
  rcases bw ha with⟨i,t,rfl,rfl⟩|⟨x,t,rfl,rfl⟩
  ·rcases bw hb with⟨j,u,rfl,e⟩|⟨y,u,rfl,e⟩
   ·injection e with e1 _; rw[e1]
   ·exact nomatch e
  ·rcases bw hb with⟨j,u,rfl,e⟩|⟨y,u,rfl,e⟩
   ·exact nomatch e
   ·injection e with e1 _; rw[e1]
 byValue:=λk v h=>by
  rcases bw h with⟨i,t,rfl,rfl⟩|⟨x,t,rfl,rfl⟩ <;> rfl
 pyHash:=λhv h=>by
  rcases bw hv with⟨i,t,rfl,rfl⟩|⟨x,t,rfl,rfl⟩
  ·exact Nv h
  ·exact Nw h
 eqBool:=λhu hv h=>by
  rcases bw hu with⟨i,t,rfl,rfl⟩|⟨x,t,rfl,rfl⟩
  ·rcases bw hv with⟨j,u,rfl,rfl⟩|⟨y,u,rfl,rfl⟩
   ·rw[AI]at h; exact wpAny_eqBool_int h
   ·rw[AK]at h; exact ML i t y u _ _ _ _ h
  ·rcases bw hv with⟨j,u,rfl,rfl⟩|⟨y,u,rfl,rfl⟩
   ·rw[AL]at h; exact MM x t j u _ _ _ _ h
   ·rw[AJ]at h; exact wpAny_eqBool_str h
 «strs»:=λk x t v h=>by
  rcases bw h with⟨i,u,rfl,e⟩|⟨y,u,rfl,e⟩
  ·exact nomatch e
  ·injection e with e1 _
   subst e1;cases v <;> rfl
inductive V where
 | non|bl (b:Hi)|int (i:G1)|str (x:Hc)|byt (b:HE UInt8)|flt (b:UInt64)|ref (a:GP)|ty (n:Ir)
 deriving J5
abbrev RelV:V->GC->Prop
 | .non,u=>u=HZ
 | .bl b,u=>u=J6 b
 | .int i,u=>∃t,u=KQ i t
 | .str x,u=>∃t,u=LB x t
 | .byt b,u=>∃t,u=Value.bytes b t
 | .flt b,u=>∃t,u=Value.float b t
 | .ref a,u=>u=HM a
 | .ty n,u=>u=J7 n
noncomputable abbrev Vals:Gy V->Gy GC->Prop:=LK RelV
def Vals.length {xs:Gy V}{us:Gy GC}(r:Vals xs us):xs.length=us.length:=Lw r
def Vals.get:∀ {xs:Gy V} {us:Gy GC} {i:GJ} {x:V},Vals xs us->xs[i]?=gV x->∃u,us[i]?=gV u/\RelV x u
 | _,_,_,_,.nil,e=>by simp at e
 | _,_,0,_,.cons r _,e=>by simp at e; subst e; exact#[_,rfl,r]
 | _,_,i+1,x,.cons _ t,e=>by
  obtain⟨u,h1,h2⟩:=Vals.get (i:=i) (x:=x) t (by simpa using e)
  exact#[u,by simpa using h1,h2]
def Vals.set {x:V}{u:GC}(r:RelV x u):∀ {xs:Gy V} {us:Gy GC} (i:GJ),Vals xs us->Vals (xs.set i x) (us.set i u)
 | _,_,_,.nil=>.nil
 | _,_,0,.cons _ t=>.cons r t
 | _,_,i+1,.cons q t=>.cons q (Vals.set r i t)
def Vals.append:∀ {xs ys:Gy V} {us ws:Gy GC},Vals xs us->Vals ys ws->Vals (xs++ys) (us++ws)
 | _,_,_,_,.nil,s=>s
 | _,_,_,_,.cons r t,s=>.cons r (Vals.append t s)
def Vals.take:∀ {xs:Gy V} {us:Gy GC} (n:GJ),Vals xs us->Vals (xs.take n) (us.take n)
 | _,_,0,_=>.nil
 | _,_,_+1,.nil=>.nil
 | _,_,n+1,.cons r t=>.cons r (Vals.take n t)
def Vals.drop:∀ {xs:Gy V} {us:Gy GC} (n:GJ),Vals xs us->Vals (xs.drop n) (us.drop n)
 | _,_,0,r=>r
 | _,_,_+1,.nil=>.nil
 | _,_,n+1,.cons _ t=>Vals.drop n t
abbrev CO:GH V->GH GC->Prop
 | some v,gV u=>RelV v u
 | none,td=>N1
 | _,_=>Ip
abbrev KV {κ:Type}:Gy (κ×V)->Gy (κ×GC)->Prop:=LK λ(p:κ×V) (q:κ×GC)=>p.1=q.1/\RelV p.2 q.2
abbrev kV:mh->V
 | .inl i=>.int i
 | .inr x=>.str x
inductive HO where
 | lst (xs:Gy V)
 | tup (xs:Gy V)
 | dK (U:Gy (mh×V))|dT (U:Gy (Gy mh×V))
 | set (S:G1->Hi) (n:GJ)
 | ins (C dx:GP) (fs:Gy (Hc×V))
 | own (x:GP)
 | xd (fs:Gy (Hc×V))
 | met (f x:GP)
 | rng (lo hi:G1)
 | frz (o:IJ) (u:HO)
 | tbl (ps:HE GC)
 | ext (φ:HP->Prop)
noncomputable abbrev Hp:=GP->GH HO
abbrev bH (H:Hp)(a:GP)(o:HO):Hp:=λb=>if b=a then gV o else H b
def ba {H:Hp}{a:GP}{o:HO}:bH H a o a=gV o:=by unfold bH; rw[Hf rfl]
def aG {H:Hp}{a b:GP}{o:HO}(h:b≠a):bH H a o b=H b:=by unfold bH; rw[Hl h]
def dM {H:Hp}{a b:GP}{o:HO}(h:H a=gV o)(h':H b=td):a≠b:=by
 intro e; subst e; rw[h]at h'; cases h'
section
variable (P:Ht) (w:HD)
abbrev ObjOk (H:Hp)(h:HP)(a:GP):HO->Prop
 | .lst xs=>xs.length<=sizeLine/\∃(its:Gy GC) (n:GJ),Vals xs its/\h.get? a=gV { cls:=.type "list",data:=.seq its.toArray n }
 | .tup xs=>xs.length<=sizeLine/\∃its:Gy GC,Vals xs its/\M4 h a its.toArray
 | .dK U=>U.length<=sizeLine/\(a==sysModules)=false/\∃vs,KV U vs/\h.DictOf (mj P w) a vs
 | .dT U=>U.length<=sizeLine/\(a==sysModules)=false/\∃xs:Gy (Gy mh×GP×GC),
   LK (λ(p:Gy mh×V) (q:Gy mh×GP×GC)=>p.1=q.1/\H q.2.1=gV (.tup (p.1.map kV))/\RelV p.2 q.2.2) U xs/\
   ∃o es ep,h.get? a=gV o/\o.ExactDict/\o.data=.dict es ep/\es.toList=xs.map (entryOfKey (tupleKind (mj P w)))/\(xs.map (·.1)).Nodup
 | .set S n=>h.SetOf (intKind P w) a S n
 | .ins C dx fs=>H dx=gV (.own a)/\fs.length<=1000/\dx≠a/\h.get? a=gV (PySem.W.instObj C dx)/\
   ∃mA,h.Ns1 dx mA/\(∀f,CO (fs.lookup f) (mA f))/\PySem.Within mA (fs.map (·.1))
 | .own _=>∃o,h.get? a=gV o
 | .xd fs=>∃mA,h.Ns1 a mA/\∀f,CO (fs.lookup f) (mA f)
 | .rng lo hi=>∃t u v,h.get? a=gV { cls:=.type "range",data:=.fields [.int lo t,.int hi u,.int 1 v].toArray }
 | .frz o u=>h.get? a=gV o/\ObjOk H h a u
 | .tbl ps=>h.get? a=gV { cls:=.none,data:=.fields ps }
 | .met f x=>h.get? a=gV (Lp (.ref f) (.ref x))
 | .ext φ=>φ h/\(∃o,h.get? a=gV o)/\∀h1 h2:HP,φ h1->(∀o,h1.get? a=gV o->h2.get? a=gV o)->φ h2
abbrev HOk (H:Hp)(h:HP):Prop:=∀a o,H a=gV o->ObjOk P w H h a o
end
section
variable{P:Ht}{w:HD}{H H':Hp}{h h':HP}{a:GP}{o:HO}
def ObjOk.lt (x:ObjOk P w H h a o):a < h.objs.size:=by
 cases o with
 | lst xs=>obtain⟨_,_,_,_,e⟩:=x; exact Hd e
 | tup xs=>obtain⟨_,_,_,p⟩:=x; exact p.lt
 | dK U=>obtain⟨_,_,_,_,o,_,_,e,_⟩:=x; exact Hd e
 | dT U=>obtain⟨_,_,_,_,o,_,_,e,_⟩:=x; exact Hd e
 | set S n=>obtain⟨o,_,_,_,e,_⟩:=x; exact Hd e
 | ins C dx fs=>obtain⟨_,_,_,e,_⟩:=x; exact Hd e
 | own y=>obtain⟨_,e⟩:=x; exact Hd e
 | xd fs=>obtain⟨_,⟨_,_,_,e,_⟩,_⟩:=x; exact Hd e
 | rng lo hi=>obtain⟨_,_,_,e⟩:=x; exact Hd e
 | frz ob u=>obtain⟨e,_⟩:=x; exact Hd e
 | tbl ps=>exact Hd (show h.get? a=gV _ from x)
 | met f y=>exact Hd (show h.get? a=gV _ from x)
 | ext φ=>obtain⟨_,⟨_,e⟩,_⟩:=x; exact Hd e
def Paired.mapP {α β:Type}{F G:α->β->Prop}:∀ {l₁:Gy α} {l₂:Gy β},LK F l₁ l₂->(∀a b,F a b->G a b)->LK G l₁ l₂
 | _,_,.nil,_=>.nil
 | _,_,.cons r t,f=>.cons (f _ _ r) (Paired.mapP t f)
def ObjOk.stay (x:ObjOk P w H h a o)(k:∀b u,(b=a\/H b=gV (.own a))->h.get? b=gV u->h'.get? b=gV u)
  (ho:∀b,H b=gV (.own a)->H' b=gV (.own a)) (ht:∀b xs,H b=gV (.tup xs)->H' b=gV (.tup xs)):ObjOk P w H' h' a o:=by
 induction o with
 | lst xs=>obtain⟨z,its,n,r,e⟩:=x; exact#[z,its,n,r,k _ _ (.inl rfl) e]
 | tup xs=>obtain⟨z,its,r,ob,e,c⟩:=x; exact#[z,its,r,ob,k _ _ (.inl rfl) e,c]
 | dK U=>obtain⟨z,y,vs,r,ob,es,ep,e,c⟩:=x; exact#[z,y,vs,r,ob,es,ep,k _ _ (.inl rfl) e,c]
 | dT U=>
  obtain⟨z,y,xs,r,ob,es,ep,e,c⟩:=x;exact#[z,y,xs,Paired.mapP r λp q z=>#[z.1,ht _ _ z.2.1,z.2.2],ob,es,ep,k _ _ (.inl rfl) e,c]
 | set S n=>obtain⟨ob,es,ep,t,e,c⟩:=x; exact#[ob,es,ep,t,k _ _ (.inl rfl) e,c]
 | ins C dx fs=>
  obtain⟨d,z,ne,e,mA,⟨od,es,ep,e2,c⟩,r⟩:=x;exact#[ho _ d,z,ne,k _ _ (.inl rfl) e,mA,#[od,es,ep,k _ _ (.inr d) e2,c],r]
 | own y=>obtain⟨ob,e⟩:=x; exact#[ob,k _ _ (.inl rfl) e]
 | xd fs=>obtain⟨mA,⟨od,es,ep,e,c⟩,r⟩:=x; exact#[mA,#[od,es,ep,k _ _ (.inl rfl) e,c],r]
 | rng lo hi=>obtain⟨t,u,v,e⟩:=x; exact#[t,u,v,k _ _ (.inl rfl) e]
 | frz ob u ih=>obtain⟨e,q⟩:=x; exact#[k _ _ (.inl rfl) e,ih q]
 | tbl ps=>
  have e:h.get? a=gV { cls:=.none,data:=.fields ps }:=x;change h'.get? a=gV { cls:=.none,data:=.fields ps };exact k a _ (.inl rfl) e
 | met f y=>
  have e:h.get? a=gV (Lp (.ref f) (.ref y)):=x;change h'.get? a=gV (Lp (.ref f) (.ref y));exact k a _ (.inl rfl) e
 | ext φ=>obtain⟨p,⟨o,e⟩,st⟩:=x; exact#[st _ _ p λo q=>k _ _ (.inl rfl) q,#[o,k _ _ (.inl rfl) e],st]
def HOk.lt (x:HOk P w H h)(e:H a=gV o):a < h.objs.size:=(x a o e).lt
def HOk.fresh (x:HOk P w H h)(e:h.objs.size<=a):H a=td:=by
 cases q:H a with
 | none=>rfl
 | some u=>exact absurd (Hq (x.lt q) e) (Il _)
def HOk.kept (x:HOk P w H h)(k:∀b u,h.get? b=gV u->h'.get? b=gV u):HOk P w H h':=λa o e=>
 (x a o e).stay (λb u _ q=>k b u q) (λ_ q=>q) λ_ _ q=>q
def HOk.laid (x:HOk P w H h)(k:∀b u,h.get? b=gV u->h'.get? b=gV u)(hp:h.objs.size<=a)(new:ObjOk P w (bH H a o) h' a o):HOk P w (bH H a o) h':=λb u e=>by
 have hn:=x.fresh hp
 by_cases hb:b=a
 ·subst hb; rw[ba]at e; cases e; exact new
 ·rw[aG hb]at e;exact(x b u e).stay (λc v _ q=>k c v q) (λc q=>by rw[aG (dM q hn)]; exact q) λc xs q=>by rw[aG (dM q hn)]; exact q
end
abbrev Rd (H:Hp)(a:GP)(u:HO):Prop:=H a=gV u\/∃o,H a=gV (.frz o u)
def Rd.ok {P:Ht}{w:HD}{H:Hp}{h:HP}{a:GP}{u:HO}(r:Rd H a u)(x:HOk P w H h):ObjOk P w H h a u:=by
 rcases r with r|⟨o,r⟩
 ·exact x a u r
 ·obtain⟨_,q⟩:=x a _ r;exact q
abbrev CP:GH HO->Prop
 | some (.lst _)=>N1
 | some (.dK _)=>N1
 | some (.dT _)=>N1
 | some (.set _ _)=>N1
 | some (.ins _ _ _)=>N1
 | some (.ext _)=>N1
 | _=>Ip
section
variable{P:Ht}{w:HD}{H:Hp}{h h':HP}{x e:GP}{o':HO}
def HOk.write (ok:HOk P w H h)(mu:CP (H x))(he:e=x\/H e=gV (.own x))(k:∀b u,b≠e->h.get? b=gV u->h'.get? b=gV u)(heo:∃u,h'.get? e=gV u)
  (new:ObjOk P w (bH H x o') h' x o'):HOk P w (bH H x o') h':=λb u q=>by
 have nown:∀c y,H c=gV (.own y)->c≠x:=λc y r z=>by subst z; rw[r]at mu; exact mu
 have ntup:∀c xs,H c=gV (.tup xs)->c≠x:=λc xs r z=>by subst z; rw[r]at mu; exact mu
 by_cases hb:b=x
 ·subst hb; rw[ba]at q; cases q; exact new
 ·rw[aG hb]at q
  by_cases hbe:b=e
  ·have q':H b=gV (.own x):=by
    rcases he with z|z
    ·exact absurd (hbe.trans z) hb
    ·rw[hbe]; exact z
   rw[q]at q'; cases q'
   obtain⟨v,hv⟩:=heo;exact#[v,by rw[hbe]; exact hv]
  ·show(ok b u q).stay (λc v hc r=>k c v ?_ r) (λc r=>by rw[aG (nown c b r)]; exact r) λc xs r=>by rw[aG (ntup c xs r)]; exact r
   rcases hc with rfl|hc
   ·exact hbe
   ·rintro rfl;rcases he with z|z
    ·exact nown c b hc z
    ·rw[hc]at z; cases z; exact hb rfl
end
structure Un (fs ex:Gy GP)(H H':Hp)(h h':HP):Prop where
 keep:∀b o,h.get? b=gV o->H b=td->b∉fs->b∉ex->h'.get? b=gV o
 slot:∀b o,h.get? b=gV o->H b=td->b∈fs->b∉ex->∃sl,h'.get? b=gV { o with slots:=sl }
 free:∀b o,h.get? b=gV o->H b=td->b∉ex->H' b=td
 there:∀b o,h.get? b=gV o->b∉ex->∃o',h'.get? b=gV o'
 tups:∀b xs,H b=gV (.tup xs)->H' b=gV (.tup xs)
 frzs:∀b o u,H b=gV (.frz o u)->H' b=gV (.frz o u)
 tbls:∀b ps,H b=gV (.tbl ps)->∃more,H' b=gV (.tbl (ps++more))
section
variable{fs fs' ex ex':Gy GP}{H H1 H2:Hp}{h h1 h2 h':HP}{a x e:GP}{o:HO}
def Un.any (u:Un fs ex H H1 h h1){b:GP}{ob:IJ}(q:h.get? b=gV ob)(n:H b=td)(hx:b∉ex):∃sl,h1.get? b=gV { ob with slots:=sl }:=by
 by_cases hb:b∈fs
 ·exact u.slot b ob q n hb hx
 ·exact#[ob.slots,u.keep b ob q n hb hx]
def Un.trans (a:Un fs ex H H1 h h1)(b:Un fs ex H1 H2 h1 h2):Un fs ex H H2 h h2 where
 keep:=λc ob q n hc hx=>b.keep c ob (a.keep c ob q n hc hx) (a.free c ob q n hx) hc hx
 slot:=λc ob q n hc hx=>by
  obtain⟨sl,e1⟩:=a.slot c ob q n hc hx;obtain⟨sl',e2⟩:=b.slot c _ e1 (a.free c ob q n hx) hc hx;exact#[sl',e2]
 free:=λc ob q n hx=>by
  obtain⟨o',e1⟩:=a.there c ob q hx;exact b.free c o' e1 (a.free c ob q n hx) hx
 there:=λc ob q hx=>by
  obtain⟨o',e1⟩:=a.there c ob q hx;exact b.there c o' e1 hx
 tups:=λc xs q=>b.tups c xs (a.tups c xs q)
 frzs:=λc ob xs q=>b.frzs c ob xs (a.frzs c ob xs q)
 tbls:=λc ps q=>by
  obtain⟨m1,e1⟩:=a.tbls c ps q;obtain⟨m2,e2⟩:=b.tbls c _ e1;exact#[m1++m2,by rw[e2,MN]]
def Un.kept (k:∀b u,h.get? b=gV u->h'.get? b=gV u):Un fs ex H H h h':=
 #[λb ob q _ _ _=>k b ob q,λb ob q _ _ _=>#[ob.slots,k b ob q],λ_ _ _ n _=>n,λb ob q _=>#[ob,k b ob q],λ_ _ q=>q,λ_ _ _ q=>q,λ_ ps q=>#[#[],by rw[q]; simp]]
def Un.refl:Un fs ex H H h h:=Un.kept λ_ _ q=>q
def Un.laid (k:∀b u,h.get? b=gV u->h'.get? b=gV u)(hp:h.objs.size<=a)(hn:H a=td):Un fs ex H (bH H a o) h h' where
 keep:=λb u q _ _ _=>k b u q
 slot:=λb u q _ _ _=>#[u.slots,k b u q]
 free:=λb u q n _=>by rw[aG (Ho (Hq (Hd q) hp))]; exact n
 there:=λb u q _=>#[u,k b u q]
 tups:=λb xs q=>by rw[aG (dM q hn)]; exact q
 frzs:=λb u xs q=>by rw[aG (dM q hn)]; exact q
 tbls:=λb ps q=>#[#[],by rw[aG (dM q hn),q]; simp]
def Un.write (mu:CP (H x))(he:e=x\/H e=gV (.own x))(k:∀b u,b≠e->h.get? b=gV u->h'.get? b=gV u)(heo:∃u,h'.get? e=gV u):Un fs ex H (bH H x o) h h':=by
 have hx:∀b,H b=td->b≠x:=λb n z=>by subst z; rw[n]at mu; exact mu
 have hb:∀b,H b=td->b≠e:=λb n z=>by
  subst z;rcases he with r|r
  ·exact hx b n r
  ·rw[n]at r; cases r
 have hm:∀b u,H b=gV u->¬ CP (gV u)->b≠x:=λb u q nm z=>by subst z; rw[q]at mu; exact nm mu
 show#[λb u q n _ _=>k b u (hb b n) q,λb u q n _ _=>#[u.slots,k b u (hb b n) q],λb u q n _=>by rw[aG (hx b n)]; exact n,λb u q _=>?_,
  λb xs q=>by rw[aG (hm b _ q λz=>z)]; exact q,λb u xs q=>by rw[aG (hm b _ q λz=>z)]; exact q,λb ps q=>#[#[],by rw[aG (hm b _ q λz=>z),q]; simp]]
 by_cases hbe:b=e
 ·subst hbe; exact heo
 ·exact#[u,k b u hbe q]
end
abbrev ED (h:HP)(H:Hp):Gy GP:=(GL h.objs.size).filter λa=>(H a).isSome
abbrev mo (h:HP)(H:Hp):HP:=PySem.W.hideAll h (ED h H)
def sB (h:HP)(H:Hp):(mo h H).objs.size=h.objs.size:=PySem.W.hideAll_size _ _
def uu {h:HP}{H:Hp}{b:GP}{o:IJ}(e:h.get? b=gV o)(n:H b=td):(mo h H).get? b=gV o:=
 PySem.W.hideAll_get _ e λhm=>by
  have q:(H b).isSome=true:=(Ih.mp hm).2;rw[n]at q; simp at q
def xL {h:HP}{H:Hp}{b:GP}{o:IJ}(e:(mo h H).get? b=gV o):h.get? b=gV o/\H b=td:=by
 have e':h.get? b=gV o:=PySem.W.of_hideAll (ED h H) e;show#[e',?_];cases q:H b with
 | none=>rfl
 | some x=>
  have hm:b∈ED h H:=Ih.mpr #[G2.mpr (Hd e'),by simp[q]]
  have z:(mo h H).get? b=td:=PySem.W.hideAll_none (ED h H) hm;rw[z]at e; cases e
abbrev xM (g h:HP)(L:GP):Gy (GP×IJ):=(GL h.objs.size).filterMap λa=>if a=L\/(g.get? a).isSome=true then td else(h.get? a).map λo=>(a,o)
abbrev cj (g h:HP)(L d:GP):Gy (GP×IJ):=(xM g h L).filter λp=>decide (p.1≠d)
structure Mod (K:GZ)(mg:Hc->GH GC)(base:HP):Prop where
 kin:K.In base
 glob:base.Ns mainGlobals mg
 blt:∃mb,base.Ns builtinsNs mb/\∀x:Hc,x≠"__name__"->mb x=bootBuiltins x
 nolimit:base.NoLimit
structure Cx where
 prog:Ht
 w:HD
 K:GZ
 mg:Hc->GH GC
 base:HP
 A:Hz
 N:Gy Hc
 s₀:GF
 H₀:Hp
 env:MO
 outer:Gy MO
 stack:Gy MO
 ex:Gy GP
 fn:Hc->Hi
 calm:Hi
 pn:Gy (GP×IJ)
 xe:GC->GF->Prop
abbrev pO (l:Gy MO):Gy GP:=l.filterMap (·.frame)
noncomputable abbrev Cx.fs (X:Cx):Gy GP:=pO X.outer
abbrev ER (sc:JU)(x:Hc):Prop:=sc.names.lookup x=gV .local\/sc.names.lookup x=gV .cell\/sc.names.lookup x=gV .free
abbrev xN (sc:JU)(x:Hc):Prop:=sc.names.lookup x=gV .local\/sc.names.lookup x=gV .cell
abbrev ES (env:MO)(h:HP)(m:Hc->GH GC)(x:Hc)(u:GC):Prop:=
 (env.kindOf x=gV .local/\m x=gV u)\/((env.kindOf x=gV .cell\/env.kindOf x=gV .free)/\∃c,env.cells.lookup x=gV c/\h.IsCell c (gV u))
structure Cx.Ok (X:Cx):Prop where
 mod:Mod X.K X.mg X.base
 kind:X.env.scope.kind=.function
 glob:X.env.globals=mainGlobals
 blt:X.env.builtins=builtinsNs
 above:X.s₀.heap.objs.size<=X.env.locals
 inj:∀x y c,X.env.cells.lookup x=gV c->X.env.cells.lookup y=gV c->x=y
 has:∀x,(X.env.kindOf x=gV .cell\/X.env.kindOf x=gV .free)->∃c,X.env.cells.lookup x=gV c
 cab:∀x c,X.fn x=true->X.env.cells.lookup x=gV c->X.s₀.heap.objs.size<=c
 hd:X.calm=true->X.A.handled=td
 frames:X.A.frames=gV X.stack
 stk:X.stack=X.outer\/(X.stack=X.env::X.outer/\X.env.frame=gV X.env.locals)
 exf:∀b∈X.ex,b≠X.env.locals/\∀x c,X.env.cells.lookup x=gV c->c≠b
 bs:∀b o,X.base.get? b=gV o->X.s₀.heap.get? b=gV o/\X.H₀ b=td
 bsz:X.base.objs.size<=X.s₀.heap.objs.size
 noex:∀b o,X.base.get? b=gV o->b∉X.ex
 exfs:∀b∈X.ex,b∉X.fs
 funs:X.s₀.heap.FunFrames X.base X.outer
 frf:∀b∈X.fs,X.H₀ b=td
structure Inv (X:Cx)(J:Gy (GP×IJ))(Y:Gy (GH V))(H:Hp)(s:GF):Prop where
 ok:X.Ok
 os:s.os=X.s₀.os
 bare:Lq s.gens
 base:Un X.fs X.ex X.H₀ H X.s₀.heap s.heap
 loc:∃m,s.heap.Ns X.env.locals m/\∀(i:GJ) (x:Hc) (v:V),X.N[i]?=gV x->Y[i]?=gV (gV v)->ER X.env.scope x->∃u,RelV v u/\ES X.env s.heap m x u
 cell:∀x c,X.env.cells.lookup x=gV c->∃v,s.heap.IsCell c v
 free:H X.env.locals=td
 freeC:∀x c,X.env.cells.lookup x=gV c->H c=td
 pin:∀p∈X.pn++J,s.heap.get? p.1=gV p.2/\H p.1=td/\p.1≠X.env.locals/\p.1∉X.fs/\∀v,p.2.data≠.cell v
 hok:HOk X.prog X.w H s.heap
 len:Y.length=X.N.length
section
variable{X:Cx}{J:Gy (GP×IJ)}{Y:Gy (GH V)}{H H':Hp}{s:GF}{h':HP}
def Cx.Ok.nofr (ok:X.Ok){b:GP}{o:IJ}(e:X.base.get? b=gV o):b∉X.fs:=λhb=>by
 have:=(ok.funs.mem hb).1;rw[e]at this; cases this
def Inv.bs (I:Inv X J Y H s):∀b o,X.base.get? b=gV o->s.heap.get? b=gV o/\H b=td:=λb o e=>
 #[I.base.keep b o (I.ok.bs b o e).1 (I.ok.bs b o e).2 (I.ok.nofr e) (I.ok.noex b o e),I.base.free b o (I.ok.bs b o e).1 (I.ok.bs b o e).2 (I.ok.noex b o e)]
def Inv.bk (I:Inv X J Y H s):∀b o,X.base.get? b=gV o->s.heap.get? b=gV o:=λb o e=>(I.bs b o e).1
def Inv.mod (I:Inv X J Y H s):Mod X.K X.mg X.base:=I.ok.mod
def Inv.kIn (I:Inv X J Y H s):X.K.In s.heap:=I.ok.mod.kin.keeps I.bk
def Inv.lt (I:Inv X J Y H s):X.env.locals < s.heap.objs.size:=let ⟨_,hn,_⟩:=I.loc; hn.lt
def Inv.sz (I:Inv X J Y H s):X.s₀.heap.objs.size<=s.heap.objs.size:=HB I.ok.above (Kb I.lt)
def Inv.nofs (I:Inv X J Y H s){a:GP}(h:s.heap.objs.size<=a):a∉X.fs:=λhb=>by
 obtain⟨_,o,ho,_⟩:=I.ok.funs.mem hb;exact absurd (Hq (Hd ho) (HB I.sz h)) (Il _)
def Inv.cne (I:Inv X J Y H s):∀x c,X.env.cells.lookup x=gV c->c≠X.env.locals:=λx c e z=>by
 obtain⟨v,o,ho,hd⟩:=I.cell x c e;obtain⟨m,⟨o',es,ep,ho',hd',_⟩,_⟩:=I.loc;rw[z,ho']at ho; cases ho; rw[hd']at hd; cases hd
def Inv.funs (I:Inv X J Y H s):s.heap.FunFrames X.base X.outer:=by
 have all:∀(l:Gy MO),(∀b∈pO l,b∈X.fs)->X.s₀.heap.FunFrames X.base l->s.heap.FunFrames X.base l:=by
  intro l
  induction l with
  | nil=>intro _ _; trivial
  | cons env r ih=>
   intro hs hl;obtain⟨hk,⟨L,o,hf,hn,ho,hd⟩,hr⟩:=hl;have hL:L∈X.fs:=hs L (by unfold pO; rw[Kk,hf]; exact HU)
   obtain⟨sl,e⟩:=I.base.slot L o ho (I.ok.frf L hL) hL λz=>I.ok.exfs L z hL
   exact#[hk,#[L,_,hf,hn,e,hd],ih (λb hb=>hs b (by unfold pO; rw[Kk,hf]; exact HC _ hb)) hr]
 exact all X.outer (λ_ hb=>hb) I.ok.funs
def Inv.stack (I:Inv X J Y H s):s.heap.FunFrames X.base X.stack:=by
 rcases I.ok.stk with e|⟨e,hf⟩
 ·rw[e]; exact I.funs
 ·rw[e];obtain⟨m,hn,_⟩:=I.loc;show .cons (by rw[I.ok.kind]; decide) hf hn ?_ I.funs
  exact Heap.get?_none_of_le (HB I.ok.bsz I.ok.above)
def Inv.stkSub (I:Inv X J Y H s):∀b∈pO X.stack,b∈X.env.locals::X.fs:=λb hb=>by
 rcases I.ok.stk with e|⟨e,hf⟩
 ·rw[e]at hb; exact HC _ hb
 ·rw[e]at hb;unfold pO at hb;rw[Kk,hf]at hb;exact hb
def Inv.stkFree (I:Inv X J Y H s):∀b∈pO X.stack,H b=td:=λb hb=>by
 rcases Hj.mp (I.stkSub b hb)with e|hb
 ·rw[e]; exact I.free
 ·obtain⟨_,o,ho,_⟩:=I.ok.funs.mem hb;exact I.base.free b o ho (I.ok.frf b hb) λz=>I.ok.exfs b z hb
def Inv.step {g':HE Mg}{t':GJ}{d':Ps}{ch:Gy GP}(I:Inv X J Y H s)
  (hch:∀b∈ch,(b∈X.ex\/X.s₀.heap.objs.size<=b)/\b≠X.env.locals/\(∀x c,X.env.cells.lookup x=gV c->c≠b)/\∀p∈X.pn++J,p.1≠b)
  (keep:∀b o,b≠X.env.locals->b∉X.fs->b∉ch->s.heap.get? b=gV o->H b=td->h'.get? b=gV o)
  (slot:∀b o,b≠X.env.locals->b∈X.fs->b∉ch->s.heap.get? b=gV o->H b=td->∃sl,h'.get? b=gV { o with slots:=sl }) (free:∀b o,b∉ch->s.heap.get? b=gV o->H b=td->H' b=td)
  (there:∀b o,b∉ch->s.heap.get? b=gV o->∃o',h'.get? b=gV o')
  (tups:∀b xs,H b=gV (.tup xs)->H' b=gV (.tup xs)) (frzs:∀b o u,H b=gV (.frz o u)->H' b=gV (.frz o u)) (tbls:∀b ps,H b=gV (.tbl ps)->∃more,H' b=gV (.tbl (ps++more)))
  (ns:∀m,s.heap.Ns X.env.locals m->h'.Ns X.env.locals m) (hok:HOk X.prog X.w H' h') (hg:Lq g') :
  Inv X J Y H' { s with heap:=h',gens:=g',drawn:=d',toks:=t' }:=by
 have neL:∀b o,X.s₀.heap.get? b=gV o->b≠X.env.locals:=λb o e=>Ho (Hq (Hd e) I.ok.above)
 have neC:∀b o,X.s₀.heap.get? b=gV o->b∉X.ex->b∉ch:=λb o e hx hb=>by
  rcases(hch b hb).1 with z|z
  ·exact hx z
  ·exact absurd (Hq (Hd e) z) (Il _)
 have cellK:∀x c,X.env.cells.lookup x=gV c->∀v,s.heap.IsCell c v->h'.IsCell c v:=λx c e v #[o,ho,hd]=>by
  have nch:c∉ch:=λz=>(hch c z).2.2.1 x c e rfl
  by_cases hc:c∈X.fs
  ·obtain⟨sl,q⟩:=slot c o (I.cne x c e) hc nch ho (I.freeC x c e);exact#[_,q,hd]
  ·exact#[o,keep c o (I.cne x c e) hc nch ho (I.freeC x c e),hd]
 show#[I.ok,I.os,hg,#[λb o e n hb hx=>?_,λb o e n hb hx=>?_,λb o e n hx=>?_,λb o e hx=>?_,λb xs e=>tups b xs (I.base.tups b xs e),λb o xs e=>frzs b o xs (I.base.frzs b o xs e),λb ps e=>?_],?_,λx c e=>?_,?_,λx c e=>?_,λp hp=>?_,hok,I.len]
 ·exact keep b o (neL b o e) hb (neC b o e hx) (I.base.keep b o e n hb hx) (I.base.free b o e n hx)
 ·obtain⟨sl,e1⟩:=I.base.slot b o e n hb hx;obtain⟨sl',e2⟩:=slot b _ (neL b o e) hb (neC b o e hx) e1 (I.base.free b o e n hx);exact#[sl',e2]
 ·obtain⟨o',e1⟩:=I.base.there b o e hx;exact free b o' (neC b o e hx) e1 (I.base.free b o e n hx)
 ·obtain⟨o',e1⟩:=I.base.there b o e hx;exact there b o' (neC b o e hx) e1
 ·obtain⟨m1,e1⟩:=I.base.tbls b ps e;obtain⟨m2,e2⟩:=tbls b _ e1;exact#[m1++m2,by rw[e2,MN]]
 ·obtain⟨m,hn,hl⟩:=I.loc;show#[m,ns m hn,λi x v e1 e2 e3=>?_]
  obtain⟨u,r,l⟩:=hl i x v e1 e2 e3;show#[u,r,?_];rcases l with l|⟨k,c,e,z⟩
  ·exact .inl l
  ·exact .inr #[k,c,e,cellK x c e _ z]
 ·obtain⟨v,z⟩:=I.cell x c e;exact#[v,cellK x c e v z]
 ·obtain⟨m,⟨o,_,_,ho,_⟩,_⟩:=I.loc;exact free _ o (λz=>(hch _ z).2.1 rfl) ho I.free
 ·obtain⟨v,o,ho,hd⟩:=I.cell x c e;exact free c o (λz=>(hch c z).2.2.1 x c e rfl) ho (I.freeC x c e)
 ·obtain⟨e,n,ne,nf,d⟩:=I.pin p hp;have nch:p.1∉ch:=λz=>(hch p.1 z).2.2.2 p hp rfl
  exact#[keep p.1 p.2 ne nf nch e n,free p.1 p.2 nch e n,ne,nf,d]
def Inv.un {t':GJ}(I:Inv X J Y H s)(u:Un X.fs [] H H' s.heap h')(hok:HOk X.prog X.w H' h'):Inv X J Y H' { s with heap:=h',toks:=t' }:=by
 obtain⟨m,⟨o,es,ep,ho,r⟩,_⟩:=id I.loc;obtain⟨sl,hL⟩:=u.any ho I.free (by simp)
 exact I.step (g':=s.gens) (d':=s.drawn) (ch:=[]) (λ_ z=>nomatch z) (λb o _ hb _ e n=>u.keep b o e n hb (by simp)) (λb o _ hb _ e n=>u.slot b o e n hb (by simp)) (λb o _ e n=>u.free b o e n (by simp)) (λb o _ e=>u.there b o e (by simp)) u.tups u.frzs u.tbls (λm' hm=>by
  obtain⟨o',es',ep',ho',r'⟩:=hm;rw[ho]at ho'; cases ho'
  exact#[_,es',ep',hL,r']) hok I.bare
def Inv.call {g':HE Mg}{t':GJ}{d':Ps}{ch:Gy GP}(I:Inv X J Y H s)(u:Un (pO X.stack) ch H H' s.heap h')(hok:HOk X.prog X.w H' h')(hg:Lq g')
  (hch:∀b∈ch,(b∈X.ex\/X.s₀.heap.objs.size<=b)/\b≠X.env.locals/\(∀x c,X.env.cells.lookup x=gV c->c≠b)/\∀p∈X.pn++J,p.1≠b) :
  Inv X J Y H' { s with heap:=h',gens:=g',drawn:=d',toks:=t' }:=by
 obtain⟨m,⟨o,es,ep,ho,r⟩,_⟩:=id I.loc;obtain⟨sl,hL⟩:=u.any ho I.free λz=>(hch _ z).2.1 rfl
 exact I.step (ch:=ch) hch (λb o hL hb hc e n=>u.keep b o e n (λz=>(Hj.mp (I.stkSub b z)).elim hL hb) hc) (λb o _ _ hc e n=>u.any e n hc) (λb o hc e n=>u.free b o e n hc) (λb o hc e=>u.there b o e hc) u.tups u.frzs u.tbls (λm' hm=>by
  obtain⟨o',es',ep',ho',r'⟩:=hm;rw[ho]at ho'; cases ho'
  exact#[_,es',ep',hL,r']) hok hg
def Inv.turned {t':GJ}{it:GP}(I:Inv X J Y H s)(k:∀b o,b≠it->s.heap.get? b=gV o->h'.get? b=gV o)(hn:H it=td)(hL:it≠X.env.locals)
  (h1:it∈X.ex\/X.s₀.heap.objs.size<=it) (h2:∀x c,X.env.cells.lookup x=gV c->c≠it) (h3:∀p∈X.pn++J,p.1≠it):Inv X J Y H { s with heap:=h',toks:=t' }:=by
 have nit:∀b u,H b=gV u->b≠it:=λb u e z=>by rw[z,hn]at e; cases e
 show I.step (g':=s.gens) (d':=s.drawn) (ch:=[it]) (λb hb=>?_) (λb o _ _ hc e _=>k b o (λz=>hc (by simp[z])) e) (λb o _ _ hc e _=>#[o.slots,k b o (λz=>hc (by simp[z])) e]) (λ_ _ _ _ n=>n)
  (λb o hc e=>#[o,k b o (λz=>hc (by simp[z])) e]) (λ_ _ e=>e) (λ_ _ _ e=>e) (λb ps e=>#[#[],by rw[e]; simp]) (λm hm=>?_) (λb u e=>?_) I.bare
 ·have e:b=it:=by simpa using hb
  subst e;exact#[h1,hL,h2,h3]
 ·obtain⟨o,es,ep,ho,r⟩:=hm;exact#[o,es,ep,k _ o (Ne.symm hL) ho,r]
 ·show(I.hok b u e).stay (λc v hc q=>k c v ?_ q) (λ_ q=>q) λ_ _ q=>q
  rcases hc with z|z
  ·rw[z]; exact nit b u e
  ·exact nit c _ z
def Inv.tok (I:Inv X J Y H s)(t:GJ):Inv X J Y H { s with toks:=t }:=I.un (h':=s.heap) (t':=t) Un.refl I.hok
def Inv.kept {t':GJ}(I:Inv X J Y H s)(k:∀b u,s.heap.get? b=gV u->h'.get? b=gV u):Inv X J Y H { s with heap:=h',toks:=t' }:=I.un (Un.kept k) (I.hok.kept k)
def Inv.laid {a:GP}{o:HO}{t':GJ}(I:Inv X J Y H s)(k:∀b u,s.heap.get? b=gV u->h'.get? b=gV u)(hp:s.heap.objs.size<=a)(new:ObjOk X.prog X.w (bH H a o) h' a o) :
  Inv X J Y (bH H a o) { s with heap:=h',toks:=t' }:=I.un (Un.laid k hp (I.hok.fresh hp)) (I.hok.laid k hp new)
def Inv.write {x e:GP}{o:HO}{t':GJ}(I:Inv X J Y H s)(mu:CP (H x))(he:e=x\/H e=gV (.own x))(k:∀b u,b≠e->s.heap.get? b=gV u->h'.get? b=gV u)(heo:∃u,h'.get? e=gV u)
  (new:ObjOk X.prog X.w (bH H x o) h' x o):Inv X J Y (bH H x o) { s with heap:=h',toks:=t' }:=I.un (Un.write mu he k heo) (I.hok.write mu he k heo new)
def Inv.pins_of {J':Gy (GP×IJ)}(I:Inv X J Y H s)(h:∀p∈J',s.heap.get? p.1=gV p.2/\H p.1=td/\p.1≠X.env.locals/\p.1∉X.fs/\∀v,p.2.data≠.cell v):Inv X J' Y H s:=
 #[I.ok,I.os,I.bare,I.base,I.loc,I.cell,I.free,I.freeC,λp hp=>(HF.mp hp).elim (λz=>I.pin p (Ja _ z)) (h p),I.hok,I.len]
def nI {N:Gy Hc}(hN:N.Nodup){i j:GJ}{x:Hc}(a:N[i]?=gV x)(b:N[j]?=gV x):i=j:=by
 obtain⟨h1,e1⟩:=G9.mp a;obtain⟨h2,e2⟩:=G9.mp b;exact(Iq hN).mp (e1.trans e2.symm)
def sC {tx:OP}{A:Hz}{E:GC->GF->Prop}{i:GJ}{x:Hc}{v:V}{u:GC}{Q:Unit->GF->Prop}(I:Inv X J Y H s)(hN:X.N.Nodup)(hi:X.N[i]?=gV x)(hx:xN X.env.scope x)(r:RelV v u)
  (h:∀s',Inv X J (Y.set i (gV v)) H s'->(∃a,JB a s.heap s'.heap/\(a=X.env.locals\/X.env.cells.lookup x=gV a))->Q () s') (hf:X.fn x=true\/X.env.scope.names.lookup x=gV .local):wpAny tx A (storeName X.env x u) Q E s:=by
 obtain⟨m,hn,hl⟩:=id I.loc;have hcls:(X.env.scope.kind==.class||(X.env.scope.kind==.module&&X.env.locals != X.env.globals))=false:=by rw[I.ok.kind]; rfl
 have hiσ:i < Y.length:=by rw[I.len]; exact(G9.mp hi).1
 have cne:=I.cne;have tracked:∀ {a:GP} {h':HP},(∃o,s.heap.get? a=gV o/\H a=td)->JB a s.heap h'->HOk X.prog X.w H h':=λ{a h'} ha hs b ob e=>by
  obtain⟨_,_,hfree⟩:=ha;show(I.hok b ob e).stay (λc w' hc q=>(hs.2 c ?_).trans q) (λ_ q=>q) λ_ _ q=>q
  rintro rfl;rcases hc with rfl|hc
  ·rw[hfree]at e; cases e
  ·rw[hfree]at hc; cases hc
 rcases hx with hk|hk
 ·show wpAny_storeName_local hk hn (λh' hn' hs=>?_) hcls
  obtain⟨oL,_,_,hoL,_⟩:=id hn;show h _ #[I.ok,I.os,I.bare,#[λb o e n hb hx=>?_,λb o e n hb hx=>?_,I.base.free,λb o e hx=>?_,I.base.tups,I.base.frzs,I.base.tbls],#[_,hn',λj y v' e1 e2 e3=>?_],λy c e=>?_,I.free,I.freeC,λp hp=>?_,tracked #[oL,hoL,I.free] hs,by simpa using I.len] #[_,hs,.inl rfl]
  ·exact(hs.2 b (Ho (Hq (Hd e) I.ok.above))).trans (I.base.keep b o e n hb hx)
  ·obtain⟨sl,e1⟩:=I.base.slot b o e n hb hx;exact#[sl,(hs.2 b (Ho (Hq (Hd e) I.ok.above))).trans e1]
  ·obtain⟨o',e1⟩:=I.base.there b o e hx;exact#[o',(hs.2 b (Ho (Hq (Hd e) I.ok.above))).trans e1]
  ·by_cases hj:j=i
   ·subst hj;rw[hi]at e1; cases e1
    rw[LL hiσ]at e2;cases e2;exact#[u,r,.inl #[hk,by simp]]
   ·rw[Mh (Ne.symm hj)]at e2;obtain⟨u',r',q⟩:=hl j y v' e1 e2 e3;show#[u',r',?_];rcases q with⟨k,e⟩|⟨k,c,e,z⟩
    ·show .inl #[k,?_];have:y≠x:=λe=>hj (nI hN e1 (e ▸ hi))
     simp[this,e]
    ·exact .inr #[k,c,e,z.sameBut hs (cne y c e)]
  ·obtain⟨w',z⟩:=I.cell y c e;exact#[w',z.sameBut hs (cne y c e)]
  ·obtain⟨e,n,ne,nf,d⟩:=I.pin p hp;exact#[(hs.2 p.1 ne).trans e,n,ne,nf,d]
 ·have hfn:X.fn x=true:=by
   rcases hf with z|z
   ·exact z
   ·rw[z]at hk; cases hk
  obtain⟨c,hc⟩:=I.ok.has x (.inl hk);obtain⟨w',z⟩:=I.cell x c hc;show wpAny_storeName_cell I.ok.kind hk hc z (λh' hc' hs=>?_)
  obtain⟨oc,hoc,hocd⟩:=id z;show h { s with heap:=h' } #[I.ok,I.os,I.bare,#[λb o e n hb hx=>?_,λb o e n hb hx=>?_,I.base.free,λb o e hx=>?_,I.base.tups,I.base.frzs,I.base.tbls],#[m,hn.sameBut hs (Ne.symm (cne x c hc)),λj y v' e1 e2 e3=>?_],λy c' e=>?_,I.free,I.freeC,λp hp=>?_,tracked #[oc,hoc,I.freeC x c hc] hs,by simpa using I.len] #[c,hs,.inr hc]
  ·exact(hs.2 b (Ho (Hq (Hd e) (I.ok.cab x c hfn hc)))).trans (I.base.keep b o e n hb hx)
  ·obtain⟨sl,e1⟩:=I.base.slot b o e n hb hx;exact#[sl,(hs.2 b (Ho (Hq (Hd e) (I.ok.cab x c hfn hc)))).trans e1]
  ·obtain⟨o',e1⟩:=I.base.there b o e hx;exact#[o',(hs.2 b (Ho (Hq (Hd e) (I.ok.cab x c hfn hc)))).trans e1]
  ·by_cases hj:j=i
   ·subst hj;rw[hi]at e1; cases e1
    rw[LL hiσ]at e2;cases e2;exact#[u,r,.inr #[.inl hk,c,hc,hc']]
   ·rw[Mh (Ne.symm hj)]at e2;obtain⟨u',r',q⟩:=hl j y v' e1 e2 e3;show#[u',r',?_];rcases q with q|⟨k,c',e,z'⟩
    ·exact .inl q
    ·show .inr #[k,c',e,z'.sameBut hs ?_];rintro rfl;exact hj (nI hN e1 (I.ok.inj _ _ _ e hc ▸ hi))
  ·by_cases hcc:c'=c
   ·subst hcc; exact#[_,hc']
   ·obtain⟨w2,z2⟩:=I.cell y c' e;exact#[w2,z2.sameBut hs hcc]
  ·obtain⟨e,n,ne,nf,d⟩:=I.pin p hp;show#[(hs.2 p.1 ?_).trans e,n,ne,nf,d];intro q;rw[q,hoc]at e;have q':oc=p.2:=HV e;exact d w' (by rw[<- q']; exact hocd)
def gX {tx:OP}{A:Hz}{E:GC->GF->Prop}{i:GJ}{x:Hc}{v:V}{u:GC}{Q:Unit->GF->Prop}(I:Inv X J Y H s)(hN:X.N.Nodup)(hi:X.N[i]?=gV x)(hx:xN X.env.scope x)(r:RelV v u)
  (h:∀s',Inv X J (Y.set i (gV v)) H s'->Q () s') (hf:X.fn x=true\/X.env.scope.names.lookup x=gV .local):wpAny tx A (storeName X.env x u) Q E s:=
 sC I hN hi hx r (λs' I' _=>h s' I') hf
def Inv.call' {s':GF}{ch:Gy GP}(I:Inv X J Y H s)(ho:s'.os=s.os)(u:Un (pO X.stack) ch H H' s.heap s'.heap)(hok:HOk X.prog X.w H' s'.heap)(hg:Lq s'.gens)
  (hch:∀b∈ch,(b∈X.ex\/X.s₀.heap.objs.size<=b)/\b≠X.env.locals/\(∀x c,X.env.cells.lookup x=gV c->c≠b)/\∀p∈X.pn++J,p.1≠b):Inv X J Y H' s':=by
 obtain⟨h',g',d',t',o'⟩:=s';have e:o'=s.os:=ho;subst e;exact I.call (g':=g') (t':=t') (d':=d') u hok hg hch
end
noncomputable abbrev XK:=GC->GH GP->Hp->Prop
noncomputable abbrev St:=Gy (GH V)
noncomputable abbrev VK:=V->Hp->Prop
noncomputable abbrev TE:=St->Hp->VK->Prop
noncomputable abbrev TT:=St->Hp->(Hi->Hp->Prop)->Prop
noncomputable abbrev TA:=St->Hp->(Gy V->Hp->Prop)->Prop
structure Ends where
 nx:St->Hp->Prop
 rt:VK
 bk:St->Hp->Prop:=λ_ _=>Ip
 ct:St->Hp->Prop:=λ_ _=>Ip
noncomputable abbrev TS:=Ends->St->Hp->Prop
inductive EP (X:Cx)(J:Gy (GP×IJ))(Y:St)(Q:VK)(u:GC)(s':GF):Prop
 | mk (v:V) (H':Hp) (i:Inv X J Y H' s') (r:RelV v u) (q:Q v H'):EP X J Y Q u s'
inductive TP (X:Cx)(J:Gy (GP×IJ))(Y:St)(Q:Hi->Hp->Prop)(b:Hi)(s':GF):Prop
 | mk (H':Hp) (i:Inv X J Y H' s') (q:Q b H'):TP X J Y Q b s'
inductive AP (X:Cx)(J:Gy (GP×IJ))(Y:St)(Q:Gy V->Hp->Prop)(us:Gy GC)(s':GF):Prop
 | mk (vs:Gy V) (H':Hp) (i:Inv X J Y H' s') (r:Vals vs us) (q:Q vs H'):AP X J Y Q us s'
abbrev SP (X:Cx)(J:Gy (GP×IJ))(D:Ends)(f:Flow)(s':GF):Prop:=
 match f with
 | .next=>∃Y' H',Inv X J Y' H' s'/\D.nx Y' H'
 | .brk=>∃Y' H',Inv X J Y' H' s'/\D.bk Y' H'
 | .cont=>∃Y' H',Inv X J Y' H' s'/\D.ct Y' H'
 | .ret u=>∃v Y' H',Inv X J Y' H' s'/\RelV v u/\D.rt v H'
abbrev PE (X:Cx)(e:Hh)(t:TE):Prop:=
 ∀(J:Gy (GP×IJ)) (s:GF) (Y:St) (H:Hp) (Q:VK),Inv X J Y H s->t Y H Q->wpAny (model X.prog X.w) X.A (eval e X.env) (EP X J Y Q) X.xe s
abbrev PT (X:Cx)(e:Hh)(t:TT):Prop:=
 ∀(J:Gy (GP×IJ)) (s:GF) (Y:St) (H:Hp) (Q:Hi->Hp->Prop),Inv X J Y H s->t Y H Q->wpAny (model X.prog X.w) X.A (isTrue e X.env (eval e X.env)) (TP X J Y Q) X.xe s
abbrev PW (X:Cx)(e:Hh)(t:TT):Prop:=
 ∀(whole:OQ GC) (J:Gy (GP×IJ)) (s:GF) (Y:St) (H:Hp) (Q:Hi->Hp->Prop),Inv X J Y H s->t Y H Q->wpAny (model X.prog X.w) X.A (isTrue e X.env whole) (TP X J Y Q) X.xe s
def PW.pt {X:Cx}{e:Hh}{t:TT}(h:PW X e t):PT X e t:=h _
abbrev PA (X:Cx)(es:Gy Hh)(t:TA):Prop:=
 ∀(pos:Ju) (J:Gy (GP×IJ)) (s:GF) (Y:St) (H:Hp) (Q:Gy V->Hp->Prop),Inv X J Y H s->t Y H Q->wpAny (model X.prog X.w) X.A (spliced (backTo pos (starEach es X.env))) (AP X J Y Q) X.xe s
abbrev PS (X:Cx)(st:JN)(t:TS):Prop:=
 ∀(J:Gy (GP×IJ)) (s:GF) (Y:St) (H:Hp) (D:Ends),Inv X J Y H s->t D Y H->wpAny (model X.prog X.w) X.A (exec st X.env) (SP X J D) X.xe s
abbrev PSs (X:Cx)(st:Gy JN)(t:TS):Prop:=
 ∀(J:Gy (GP×IJ)) (s:GF) (Y:St) (H:Hp) (D:Ends),Inv X J Y H s->t D Y H->wpAny (model X.prog X.w) X.A (execs st X.env) (SP X J D) X.xe s
def bm {α:Type}{t:OQ α}{Q Q':α->GF->Prop}{tx:OP}{A:Hz}{E:GC->GF->Prop}{s:GF}(h:wpAny tx A t Q E s)(hQ:∀a s,Q a s->Q' a s):wpAny tx A t Q' E s:=IP h hQ λ_ _ x=>x
section
variable{X:Cx}
abbrev CQ (i:GJ):TE:=λY H Q=>∃v,Y[i]?=gV (gV v)/\Q v H
abbrev tC (v:V):TE:=λ_ H Q=>Q v H
def AM {i:GJ}{x:Hc}{pos:Ju}(hN:X.N[i]?=gV x)(hv:ER X.env.scope x)(hd:(x==("__debug__" : Hc))=false:=by decide)(hcd:(x==("__classdict__" : Hc))=false:=by decide):PE X (.Name x pos) (CQ i):=by
 intro J s Y H Q I h;obtain⟨v,e,h⟩:=h;obtain⟨m,hn,hl⟩:=I.loc;obtain⟨u,r,l⟩:=hl i x v hN e hv;have fin:EP X J Y Q u s:=#[v,H,I,r,h];rcases l with⟨hk,hm⟩|⟨hk,c,hc,hcell⟩
 ·exact N2 (wpAny_loadName_local I.ok.kind hk hn hm fin) hd
 ·rcases hk with hk|hk
  ·exact N2 (wpAny_loadName_cell I.ok.kind hk hc hcell fin) hd
  ·exact N2 (wpAny_loadName_free I.ok.kind hk hc hcell fin hcd) hd
def uw {i j pos}:PE X (.Constant (.int i) j pos) (tC (.int i)):=λ_ _ _ H _ I h=>wpAny_Constant_int #[.int i,H,I.tok _,#[_,rfl],h]
def Aa {b j pos}:PE X (.Constant (.bool b) j pos) (tC (.bl b)):=λ_ _ _ H _ I h=>Constant_bool #[.bl b,H,I,rfl,h]
def uy {j pos}:PE X (.Constant .none j pos) (tC .non):=λ_ _ _ H _ I h=>Constant_none #[.non,H,I,rfl,h]
def uz {x j pos}:PE X (.Constant (.str x) j pos) (tC (.str x)):=λ_ _ _ H _ I h=>MP #[.str x,H,I.tok _,#[_,rfl],h]
abbrev Gl (X:Cx)(x:Hc):Prop:=X.env.kindOf x=gV .globalImplicit
def qR {E:GC->GF->Prop}{J:Gy (GP×IJ)}{s:GF}{Y:St}{H:Hp}{x:Hc}{u:GC}{pos:Ju}{Q:GC->GF->Prop}(I:Inv X J Y H s)(hg:Gl X x)(hm:X.mg x=gV u)(h:Q u s)
  (hd:(x==("__debug__" : Hc))=false:=by decide):wpAny (model X.prog X.w) X.A (eval (.Name x pos) X.env) Q E s:=
 K9 I.ok.kind hg (Calls.loadGlobal_global (by rw[I.ok.glob]; exact I.mod.glob.keeps I.bk) hm h) hd
def iA {E:GC->GF->Prop}{J:Gy (GP×IJ)}{s:GF}{Y:St}{H:Hp}{x:Hc}{u:GC}{pos:Ju}{Q:GC->GF->Prop}(I:Inv X J Y H s)(hg:Gl X x)(hm:X.mg x=td)(hv:bootBuiltins x=gV u)(h:Q u s)
  (hn:x≠"__name__":=by decide) (hd:(x==("__debug__" : Hc))=false:=by decide):wpAny (model X.prog X.w) X.A (eval (.Name x pos) X.env) Q E s:=by
 obtain⟨mb,h1,h2⟩:=I.mod.blt;exact K9 I.ok.kind hg (Calls.loadGlobal_builtin (by rw[I.ok.glob]; exact I.mod.glob.keeps I.bk) hm (by rw[I.ok.blt]; exact h1.keeps I.bk) ((h2 x hn).trans hv) h) hd
def xO {x:Hc}{v:V}{u:GC}{pos:Ju}(hg:Gl X x)(hm:X.mg x=td)(hv:bootBuiltins x=gV u)(r:RelV v u)(hn:x≠"__name__":=by decide)(hd:(x==("__debug__" : Hc))=false:=by decide):PE X (.Name x pos) (tC v):=
 λ_ _ _ H _ I h=>iA I hg hm hv #[v,H,I,r,h] hn hd
variable{a b:Hh}{ta tb:TE}{pos:Ju}
variable{tA tB':TT}{cj:Gy Hh}
abbrev CS (t u:TT):TT:=λY H Q=>t Y H λc H1=>if c=true then u Y H1 Q else Q false H1
abbrev F4 (t u:TT):TT:=λY H Q=>t Y H λc H1=>if c=true then Q true H1 else u Y H1 Q
abbrev ET (t:TT):TT:=λY H Q=>t Y H λc H1=>Q (!c) H1
def xP (ha:PT X a tA):PW X (.BoolOp .And [a] pos) tA:=by
 intro wh J s Y H Q I h;show isTrue_and (bm (ha J s Y H Q I h) λc s1 e=>?_)
 cases c with
 | true=>exact isTrue_and_nil e
 | false=>exact e
def AN (ha:PT X a tA):PW X (.BoolOp .Or [a] pos) tA:=by
 intro wh J s Y H Q I h;show isTrue_or (bm (ha J s Y H Q I h) λc s1 e=>?_)
 cases c with
 | false=>exact isTrue_or_nil e
 | true=>exact e
def AO (ha:PT X a tA)(hb:PW X (.BoolOp .And (b::cj) pos) tB'):PW X (.BoolOp .And (a::b::cj) pos) (CS tA tB'):=by
 intro wh J s Y H Q I h;show isTrue_and (bm (ha J s Y H _ I h) λc s1 #[H1,I1,q1]=>?_)
 cases c with
 | true=>exact hb wh J s1 Y H1 Q I1 q1
 | false=>exact#[H1,I1,q1]
def CT (ha:PT X a tA)(hb:PW X (.BoolOp .Or (b::cj) pos) tB'):PW X (.BoolOp .Or (a::b::cj) pos) (F4 tA tB'):=by
 intro wh J s Y H Q I h;show isTrue_or (bm (ha J s Y H _ I h) λc s1 #[H1,I1,q1]=>?_)
 cases c with
 | true=>exact#[H1,I1,q1]
 | false=>exact hb wh J s1 Y H1 Q I1 q1
def AQ (ha:PT X a tA):PT X (.UnaryOp .Not a pos) (ET tA):=by
 intro J s Y H Q I h;exact isTrue_not (bm (ha J s Y H (λc H1=>Q (!c) H1) I h) λ_ _ #[H1,i,q]=>#[H1,i,q])
abbrev CU (ta tb:TE):TE:=λY H Q=>ta Y H λx H1=>∃c,x=.bl c/\if c=true then tb Y H1 Q else Q (.bl false) H1
abbrev EU (ta tb:TE):TE:=λY H Q=>ta Y H λx H1=>∃c,x=.bl c/\if c=true then Q (.bl true) H1 else tb Y H1 Q
abbrev CV (ta:TE):TE:=λY H Q=>ta Y H λx H1=>∃c,x=.bl c/\Q (.bl (!c)) H1
def AR {op}{t:TE}(h:PE X a t):PE X (.BoolOp op [a] pos) t:=λJ s Y H Q I hw=>BoolOp_one (h J s Y H Q I hw)
def AS (ha:PE X a ta)(hb:PE X (.BoolOp .And (b::cj) pos) tb):PE X (.BoolOp .And (a::b::cj) pos) (CU ta tb):=by
 intro J s Y H Q I h;show BoolOp_and (bm (ha J s Y H _ I h) λv s1 #[x,H1,I1,r1,q1]=>?_)
 obtain⟨c,rfl,q1⟩:=q1;cases r1;show Iy ?_;cases c with
 | true=>exact hb J s1 Y H1 Q I1 q1
 | false=>exact#[.bl false,H1,I1,rfl,q1]
def CW (ha:PE X a ta)(hb:PE X (.BoolOp .Or (b::cj) pos) tb):PE X (.BoolOp .Or (a::b::cj) pos) (EU ta tb):=by
 intro J s Y H Q I h;show BoolOp_or (bm (ha J s Y H _ I h) λv s1 #[x,H1,I1,r1,q1]=>?_)
 obtain⟨c,rfl,q1⟩:=q1;cases r1;show Iy ?_;cases c with
 | false=>exact hb J s1 Y H1 Q I1 q1
 | true=>exact#[.bl true,H1,I1,rfl,q1]
def AT (ha:PE X a ta):PE X (.UnaryOp .Not a pos) (CV ta):=by
 intro J s Y H Q I h;show UnaryOp_ (bm (ha J s Y H _ I h) λv s1 #[x,H1,I1,r1,q1]=>?_)
 obtain⟨c,rfl,q1⟩:=q1;cases r1;exact not_of (Iy #[.bl (!c),H1,I1,rfl,q1])
abbrev Gj (t:TT)(ta tb:TE):TE:=λY H Q=>t Y H λc H1=>if c=true then ta Y H1 Q else tb Y H1 Q
def uA {c:Hh}(hc:PT X c tA)(ha:PE X a ta)(hb:PE X b tb):PE X (.IfExp c a b pos) (Gj tA ta tb):=by
 intro J s Y H Q I h;show wpAny_IfExp (bm (hc J s Y H _ I h) λd s1 #[H1,I1,q1]=>?_)
 cases d with
 | true=>exact ha J s1 Y H1 Q I1 q1
 | false=>exact hb J s1 Y H1 Q I1 q1
end
abbrev SqL (K:GZ)(H:Hp)(a:GP)(xs:Gy V):Prop:=
 Rd H a (.lst xs)\/
  ∃(o:IJ) (its:HE GC) (n:GJ),K.lookup a=gV o/\o.cls=.type "list"/\o.dict=td/\o.data=.seq its n/\its.size<=sizeLine/\Vals xs its.toList
abbrev SqT (K:GZ)(H:Hp)(a:GP)(xs:Gy V):Prop:=
 Rd H a (.tup xs)\/
  ∃(o:IJ) (its:HE GC) (n:GJ),K.lookup a=gV o/\o.cls=.type "tuple"/\o.data=.seq its n/\its.size<=sizeLine/\Vals xs its.toList
abbrev EV:GC->GH V
 | .none=>gV .non
 | .bool b=>gV (.bl b)
 | .int i _=>gV (.int i)
 | .str x _=>gV (.str x)
 | .bytes b _=>gV (.byt b)
 | .float b _=>gV (.flt b)
 | .ref a=>gV (.ref a)
 | .type n=>gV (.ty n)
 | _=>td
def RelV.abs {x:V}{u:GC}(r:RelV x u):EV u=gV x:=by
 cases x with
 | non=>cases r; rfl
 | bl _=>cases r; rfl
 | int _=>obtain⟨t,rfl⟩:=r; rfl
 | str _=>obtain⟨t,rfl⟩:=r; rfl
 | byt _=>obtain⟨t,rfl⟩:=r; rfl
 | flt _=>obtain⟨t,rfl⟩:=r; rfl
 | ref _=>cases r; rfl
 | ty _=>cases r; rfl
def RelV.inj {x y:V}{u:GC}(r:RelV x u)(q:RelV y u):x=y:=HV (r.abs.symm.trans q.abs)
def Vals.inj:∀ {xs ys:Gy V} {us:Gy GC},Vals xs us->Vals ys us->xs=ys
 | _,_,_,.nil,.nil=>rfl
 | _,_,_,.cons r t,.cons r' t'=>by rw[r.inj r',Vals.inj t t']
section
variable{X:Cx}{J:Gy (GP×IJ)}{Y:St}{H:Hp}{s:GF}{a:GP}{xs ys:Gy V}
def SqL.of {K:GZ}(h:H a=gV (.lst xs)):SqL K H a xs:=.inl (.inl h)
def SqT.of {K:GZ}(h:H a=gV (.tup xs)):SqT K H a xs:=.inl (.inl h)
def Inv.list (I:Inv X J Y H s)(h:SqL X.K H a xs):∃its:Gy GC,Vals xs its/\PlainL s.heap a its.toArray/\xs.length<=sizeLine:=by
 rcases h with h|⟨o,its,n,hk,hc,hd,hs,hz,r⟩
 ·obtain⟨z,its,n,r,e⟩:=h.ok I.hok;exact#[its,r,#[_,n,e,rfl,rfl,rfl],z]
 ·show#[its.toList,r,#[o,n,I.kIn a o hk,hc,hd,by simpa using hs],?_]
  have e:=r.length;simp only[Hn]at e;omega
def Inv.tuple (I:Inv X J Y H s)(h:SqT X.K H a xs):∃its:Gy GC,Vals xs its/\M4 s.heap a its.toArray/\xs.length<=sizeLine:=by
 rcases h with h|⟨o,its,n,hk,hc,hs,hz,r⟩
 ·obtain⟨z,its,r,p⟩:=h.ok I.hok;exact#[its,r,p,z]
 ·show#[its.toList,r,#[o,I.kIn a o hk,hc,n,by simpa using hs],?_]
  have e:=r.length;simp only[Hn]at e;omega
def Inv.list_inj (I:Inv X J Y H s)(h:SqL X.K H a xs)(h':SqL X.K H a ys):xs=ys:=by
 obtain⟨its,r,⟨o,n,e,_,_,d⟩,_⟩:=I.list h;obtain⟨its',r',⟨o',n',e',_,_,d'⟩,_⟩:=I.list h';rw[e]at e'; cases e'
 rw[d]at d';injection d' with d1 _
 have:its=its':=by simpa using congrArg OG d1
 subst this;exact r.inj r'
def Inv.tuple_inj (I:Inv X J Y H s)(h:SqT X.K H a xs)(h':SqT X.K H a ys):xs=ys:=by
 obtain⟨its,r,⟨o,e,_,n,d⟩,_⟩:=I.tuple h;obtain⟨its',r',⟨o',e',_,n',d'⟩,_⟩:=I.tuple h';rw[e]at e'; cases e'
 rw[d]at d';injection d' with d1 _
 have:its=its':=by simpa using congrArg OG d1
 subst this;exact r.inj r'
end
noncomputable abbrev Cx.wish (X:Cx)(E:GC->GF->Prop):Cx:={ X with xe:=E }
noncomputable abbrev Cx.nox (X:Cx):Cx:=X.wish λ_ _=>Ip
def Cx.Ok.wish {X:Cx}(ok:X.Ok)(E:GC->GF->Prop):(X.wish E).Ok:=
 #[ok.mod,ok.kind,ok.glob,ok.blt,ok.above,ok.inj,ok.has,ok.cab,ok.hd,ok.frames,ok.stk,ok.exf,ok.bs,ok.bsz,ok.noex,ok.exfs,ok.funs,ok.frf]
def Cx.Ok.unwish {X:Cx}{E:GC->GF->Prop}(ok:(X.wish E).Ok):X.Ok:=
 #[ok.mod,ok.kind,ok.glob,ok.blt,ok.above,ok.inj,ok.has,ok.cab,ok.hd,ok.frames,ok.stk,ok.exf,ok.bs,ok.bsz,ok.noex,ok.exfs,ok.funs,ok.frf]
section
variable{X:Cx}{J:Gy (GP×IJ)}{Y:St}{H:Hp}{s:GF}{E:GC->GF->Prop}
def Inv.wish (I:Inv X J Y H s)(E:GC->GF->Prop):Inv (X.wish E) J Y H s:=#[I.ok.wish E,I.os,I.bare,I.base,I.loc,I.cell,I.free,I.freeC,I.pin,I.hok,I.len]
def Inv.unwish (I:Inv (X.wish E) J Y H s):Inv X J Y H s:=#[I.ok.unwish,I.os,I.bare,I.base,I.loc,I.cell,I.free,I.freeC,I.pin,I.hok,I.len]
def SP.unwish {D:Ends}{f:Flow}{s':GF}(h:SP (X.wish E) J D f s'):SP X J D f s':=by
 cases f with
 | next=>obtain⟨Y',H',I,q⟩:=h; exact#[Y',H',I.unwish,q]
 | brk=>obtain⟨Y',H',I,q⟩:=h; exact#[Y',H',I.unwish,q]
 | cont=>obtain⟨Y',H',I,q⟩:=h; exact#[Y',H',I.unwish,q]
 | ret u=>obtain⟨v,Y',H',I,r,q⟩:=h; exact#[v,Y',H',I.unwish,r,q]
def PSs.nox {st:Gy JN}{t:TS}(h:PSs X.nox st t):PSs X st t:=λJ s Y H D I hw=>
 IP (h J s Y H D (I.wish _) hw) (λ_ _ q=>q.unwish) λ_ _ z=>Ip.elim z
end
section
variable{X:Cx}{st:JN}{cj:Gy JN}{t u:TS}{e:Hh}{te:TE}{pos:Ju}
abbrev uB:TS:=λD Y H=>D.nx Y H
abbrev EW (t u:TS):TS:=λD Y H=>t { D with nx:=u D } Y H
def xQ:PSs X [] uB:=λ_ _ Y H _ I h=>LX #[Y,H,I,h]
def uC (h1:PS X st t)(h2:PSs X cj u):PSs X (st::cj) (EW t u):=by
 intro J s Y H D I h;show wpAny_execs_cons (bm (h1 J s Y H { D with nx:=u D } I h) λf s1 q=>?_)
 cases f with
 | next=>
  obtain⟨Y',H',I',q⟩:=q;exact h2 J s1 Y' H' D I' q
 | ret v=>exact q
 | brk=>exact q
 | cont=>exact q
def xR:PS X (.Pass pos) uB:=λ_ _ Y H _ I h=>wpAny_Pass #[Y,H,I,h]
def Inv.quiet {J:Gy (GP×IJ)}{Y:St}{H:Hp}{s:GF}(I:Inv X J Y H s):interactive X.env=false:=by simp[interactive,I.ok.kind]
def AU {x j pos pos'}:PS X (.Expr (.Constant (.str x) j pos) pos') uB:=λ_ s Y H _ I h=>wpAny_Expr (MP (show SP X _ _ .next { s with toks:=s.toks+1 } from#[Y,H,I.tok _,h])) I.quiet
abbrev CY (te:TE):TS:=λD Y H=>te Y H λ_ H1=>D.nx Y H1
def xS (he:PE X e te)(hs:swapsWith e td pos.line X.env=pure false:=by rfl):PS X (.Expr e pos) (CY te):=by
 intro J s Y H D I h;exact wpAny_Expr_any (bm (he J s Y H _ I h) λv s1 #[x,H1,I1,r1,q1]=>#[Y,H1,I1,q1]) I.quiet hs
abbrev EX (te:TE):TS:=λD Y H=>te Y H D.rt
def AV (he:PE X e te):PS X (.Return (gV e) pos) (EX te):=by
 intro J s Y H D I h;exact wpAny_Return_some (bm (he J s Y H _ I h) λv s1 #[x,H1,I1,r1,q1]=>#[x,Y,H1,I1,r1,q1])
abbrev EY (c:TT)(t u:TS):TS:=λD Y H=>c Y H λb H1=>if b=true then t D Y H1 else u D Y H1
def CZ {c:Hh}{a b:Gy JN}{tc:TT}(hc:PT X c tc)(ha:PSs X a t)(hb:PSs X b u):PS X (.If c a b pos) (EY tc t u):=by
 intro J s Y H D I h;show wpAny_If (bm (hc J s Y H _ I h) λd s1 #[H1,I1,q1]=>?_)
 cases d with
 | true=>exact ha J s1 Y H1 D I1 q1
 | false=>exact hb J s1 Y H1 D I1 q1
end
noncomputable abbrev TG:=V->St->Hp->(St->Hp->Prop)->Prop
noncomputable abbrev AW:=Gy V->St->Hp->(St->Hp->Prop)->Prop
abbrev PG (X:Cx)(target:Hh)(t:TG):Prop:=
 ∀(J:Gy (GP×IJ)) (s:GF) (Y:St) (H:Hp) (v:V) (u:GC) (Q:St->Hp->Prop),Inv X J Y H s->RelV v u->t v Y H Q->
  wpAny (model X.prog X.w) X.A (assign target X.env u) (λ_ s'=>∃Y' H',Inv X J Y' H' s'/\Q Y' H') X.xe s
abbrev C0 (X:Cx)(ts:Gy Hh)(t:AW):Prop:=
 ∀(J:Gy (GP×IJ)) (s:GF) (Y:St) (H:Hp) (vs:Gy V) (us:Gy GC) (Q:St->Hp->Prop),Inv X J Y H s->Vals vs us->t vs Y H Q->
  wpAny (model X.prog X.w) X.A (assignInOrder ((assignEach ts X.env).map (·.2)) us) (λ_ s'=>∃Y' H',Inv X J Y' H' s'/\Q Y' H') X.xe s
noncomputable abbrev AX:=V->V->V->Hp->(Hp->Prop)->Prop
abbrev AY (X:Cx)(t:AX):Prop:=
 ∀(J:Gy (GP×IJ)) (s:GF) (Y:St) (H:Hp) (o i v:V) (ov iv u:GC) (Q:Hp->Prop),Inv X J Y H s->RelV o ov->RelV i iv->RelV v u->t o i v H Q->
  wpAny (model X.prog X.w) X.A (setItem ov iv u) (λ_ s'=>∃H',Inv X J Y H' s'/\Q H') X.xe s
section
variable{X:Cx}{pos:Ju}
abbrev C3 (i:GJ):TG:=λv Y H Q=>Q (Y.set i (gV v)) H
def qS {i:GJ}{x:Hc}(hN:X.N.Nodup)(hi:X.N[i]?=gV x)(hx:xN X.env.scope x)(hf:X.fn x=true\/X.env.scope.names.lookup x=gV .local):PG X (.Name x pos) (C3 i):=by
 intro J s Y H v u Q I r h;exact M5 (gX I hN hi hx r (λs' I'=>#[_,H,I',h]) hf)
abbrev EZ:AW:=λvs Y H Q=>vs=[]/\Q Y H
abbrev C4 (t:TG)(u:AW):AW:=λvs Y H Q=>∃v r,vs=v::r/\t v Y H λY' H'=>u r Y' H' Q
def xT:C0 X [] EZ:=by
 intro J s Y H vs us Q I r h;obtain⟨e,h⟩:=h;subst e;cases r;exact M6 #[Y,H,I,h]
def uD {e:Hh}{es:Gy Hh}{t:TG}{u:AW}(h1:PG X e t)(h2:C0 X es u)
  (hs:(assignEach (e::es) X.env).map (·.2)=assign e X.env::(assignEach es X.env).map (·.2):=by rfl):C0 X (e::es) (C4 t u):=by
 intro J s Y H vs us Q I r h;obtain⟨v,vr,e1,h⟩:=h;subst e1;cases r with
 | cons r rr=>
  rw[hs];show La (bm (h1 J s Y H _ _ _ I r h) λ_ s1 #[Y1,H1,I1,q1]=>?_)
  exact h2 J s1 Y1 H1 _ _ Q I1 rr q1
abbrev E1 (K:GZ)(n:GJ)(t:AW):TG:=λv Y H Q=>∃a xs,v=.ref a/\SqT K H a xs/\xs.length=n/\t xs Y H Q
def AZ {es:Gy Hh}{k:GJ}{t:AW}{n:GJ}(hc:X.calm=true)(h:C0 X es t)
  (hn:(assignEach es X.env).length=n:=by rfl) (hst:(assignEach es X.env).findIdx? (·.1)=td:=by rfl):PG X (.Tuple es k pos) (E1 X.K n t):=by
 intro J s Y H v u Q I r hw;obtain⟨a,xs,e1,hq,hl,hw⟩:=hw;subst e1;cases r;obtain⟨its,rv,ht,hz⟩:=I.tuple hq;show assign_Tuple_tuple (I.ok.hd hc) ht (by simp[hn,<- hl,rv.length]) hst λh' hx=>?_
 have I1:Inv X J Y H { s with heap:=h' }:=I.kept (t':=s.toks) λb o e=>hx b o (Ho (Hd e)) e
 exact h J _ Y H xs _ Q I1 (by simpa using rv) hw
abbrev E2 (to ti:TE)(t:AX):TG:=λv Y H Q=>to Y H λo H1=>ti Y H1 λi H2=>t o i v H2 λH3=>Q Y H3
def A6 {o i:Hh}{to ti:TE}{t:AX}(ho:PE X o to)(hi:PE X i ti)(hs:AY X t)
  (ha:∀v,assign (.Subscript o i pos) X.env v=(do
   let ov <- holding [v] (eval o X.env)
   let iv <- holding [v,ov] (eval i X.env)
   standAt pos
   holding [v,ov,iv] (setItem ov iv v)
   release [v,ov,iv] []):=by intro _; rfl):PG X (.Subscript o i pos) (E2 to ti t):=by
 intro J s Y H v u Q I r h;rw[ha];show GB (IC (bm (ho J s Y H _ I h) λov s1 #[x,H1,I1,r1,q1]=>?_))
 show GB (IC (bm (hi J s1 Y H1 _ I1 q1) λiv s2 #[y,H2,I2,r2,q2]=>?_))
 show GB (KU (GB (IC (bm (hs J s2 Y H2 x y v ov iv u _ I2 r1 r2 r q2) λ_ s3 #[H3,I3,q3]=>?_))))
 exact wpAny_release #[Y,H3,I3,q3]
abbrev E3 (te:TE)(g:TG):TS:=λD Y H=>te Y H λx H1=>g x Y H1 D.nx
def A7 {tg e:Hh}{te:TE}{g:TG}(he:PE X e te)(hg:PG X tg g)(hs:swapsWithSole [tg] e pos.line X.env=pure false:=by rfl)(hw:swappedStores [tg] e X.env=pure td:=by rfl)
  (h1:(assignEach [tg] X.env).map (·.2)=[assign tg X.env]:=by rfl):PS X (.Assign [tg] e pos) (E3 te g):=by
 intro J s Y H D I h;show wpAny_Assign_stores (bm (he J s Y H _ I h) λv s1 #[x,H1,I1,r1,q1]=>?_) hs hw
 rw[h1];exact bm (hg J s1 Y H1 x v _ I1 r1 q1) λ_ s2 q=>q
abbrev E4 (i j:GJ)(ta:TA):TS:=λD Y H=>ta Y H λvs H1=>∃v w,vs=[v,w]/\D.nx ((Y.set i (gV v)).set j (gV w)) H1
def Ba {i j:GJ}{x y:Hc}{a b:Hh}{ta:TA}{px py pt:Ju}{kt k2 pt2}(hc:X.calm=true)(hN:X.N.Nodup)(hi:X.N[i]?=gV x)(hj:X.N[j]?=gV y)(hij:i≠j)
  (hx:X.env.scope.names.lookup x=gV .local) (hy:X.env.scope.names.lookup y=gV .local) (ha:PA X [a,b] ta)
  (hw:swappedStores [.Tuple [.Name x px,.Name y py] kt pt] (.Tuple [a,b] k2 pt2) X.env=pure (gV [x,y]))
  (hs:swapsWithSole [.Tuple [.Name x px,.Name y py] kt pt] (.Tuple [a,b] k2 pt2) pos.line X.env=pure false:=by rfl) :
  PS X (.Assign [.Tuple [.Name x px,.Name y py] kt pt] (.Tuple [a,b] k2 pt2) pos) (E4 i j ta):=by
 intro J s Y H D I h;rw[exec_Assign_arm];show GB (KU ?_);rw[hs];show GB (GU ?_);rw[Hl #v[]]
 show GB (Tuple_ (bm (ha _ J s Y H _ I h) λus s1 #[vs,H1,I1,r1,q1]=>?_))
 obtain⟨v,w,e1,q1⟩:=q1;subst e1;obtain⟨u1,u2,rfl,rv,rw'⟩ : ∃u1 u2,us=[u1,u2]/\RelV v u1/\RelV w u2:=by
  cases r1 with
  | cons p q=>
   cases q with
   | cons p' q'=>
    cases q';exact#[_,_,rfl,p,p']
 show HQ ?_ (by change 2<=sizeLine; decide)
 have I2:Inv X J Y H1 { s1 with heap:=s1.heap.push { cls:=.type "tuple",data:=.seq [u1,u2].toArray } }:=I1.kept (t':=s1.toks) λb o e=>GN _ e
 rw[hw];show GB (GU ?_);change wpAny (model X.prog X.w) X.A (do rule "assign.swapped-stores"; let items <- unpackItems (.ref s1.heap.objs.size) 2 td; assignInOrder [λv=>bindName X.env y v,λv=>bindName X.env x v] items.reverse; pure Pl) _ _ _
 show GB (MQ (GB (unpackItems_tuple (items:=[u1,u2].toArray) (I.ok.hd hc) (Nx s1.heap _) λh' hx'=>?_)))
 have I3:=I2.kept (h':=h') (t':=s1.toks) λb o e=>hx' b o (Ho (Hd e)) e
 change wpAny _ _ (assignInOrder [λv=>bindName X.env y v,λv=>bindName X.env x v] [u2,u1] >>= λ_=>pure Pl) _ _ _
 show GB (La (N3 (gX I3 hN hj (.inl hy) rw' (λs2 I4=>?_) (.inr hy))))
 show La (N3 (gX I4 hN hi (.inl hx) rv (λs3 I5=>M6 (GU ?_)) (.inr hx)))
 rw[List.set_comm _ _ (Ne.symm hij)]at I5;exact#[_,H1,I5,q1]
abbrev Bb (c:TT)(tb:TS):TS:=λD Y H=>∃W:GJ->St->Hp->Prop,(∃m,W m Y H)/\∀m Y H,W m Y H->
 c Y H λb H1=>if b=true then ∃N:St->Hp->Prop,(∀Y' H',N Y' H'->∃m',m' < m/\W m' Y' H')/\tb { D with nx:=N,ct:=N,bk:=D.nx } Y H1 else D.nx Y H1
def uE {c:Hh}{body:Gy JN}{tc:TT}{tb:TS}(hp:Mv (model X.prog X.w) X.A X.env X.xe)(hc:PT X c tc)(hb:PSs X body tb):PS X (.While c body [] pos) (Bb tc tb):=by
 intro J s Y H D I h;obtain⟨W,⟨m0,w0⟩,turn⟩:=h;show wpAny_While (codeAny_whileLoop (λn s'=>∃Y' H',Inv X J Y' H' s'/\W n Y' H') ?_ m0 #[Y,H,I,w0])
 rintro n s1 ⟨Y1,H1,I1,w1⟩;show Jx hp (bm (hc J s1 Y1 H1 _ I1 (turn n Y1 H1 w1)) λb s2 #[H2,I2,q2]=>?_)
 cases b with
 | true=>
  obtain⟨N,hN,q2⟩:=q2;rw[Hf rfl];show Jx hp (bm (hb J s2 Y1 H2 _ I2 q2) λf s3 q3=>?_)
  cases f with
  | next=>
   obtain⟨Y3,H3,I3,n3⟩:=q3;obtain⟨m',hm,w3⟩:=hN Y3 H3 n3;exact#[m',hm,Y3,H3,I3,w3]
  | cont=>
   obtain⟨Y3,H3,I3,n3⟩:=q3;obtain⟨m',hm,w3⟩:=hN Y3 H3 n3;exact#[m',hm,Y3,H3,I3,w3]
  | brk=>exact q3
  | ret v=>exact q3
 | false=>
  rw[Hl He];exact LX #[Y1,H2,I2,q2]
end
structure It where
 go:GJ->Hp->Prop
 yld:GJ->Hp->V->Hp->Prop
 stop:GJ->Hp->Prop
abbrev iB (X:Cx)(J:Gy (GP×IJ))(H:Hp)(b:GP):Prop:=
 H b=td/\b≠X.env.locals/\b∉X.fs/\(b∈X.ex\/X.s₀.heap.objs.size<=b)/\(∀x c,X.env.cells.lookup x=gV c->c≠b)/\∀p∈X.pn++J,p.1≠b
def Inv.fpOk {X:Cx}{J:Gy (GP×IJ)}{Y:St}{H H':Hp}{s:GF}{b:GP}(I:Inv X J Y H s)(hb:s.heap.objs.size<=b)(hn:H' b=td):iB X J H' b:=by
 show#[hn,JC (Hq I.lt hb),I.nofs hb,.inr (HB I.sz hb),λx c e z=>?_,λp hp z=>?_]
 ·obtain⟨v,q⟩:=I.cell x c e;exact absurd (Hq q.lt (by rw[z]; exact hb)) (Il _)
 ·exact absurd (Hq (Hd (I.pin p hp).1) (by rw[z]; exact hb)) (Il _)
structure Turn (P:Ht)(w:HD)(K:GZ)(tg:Hh)(tv:It)(fp:Gy GP)(it:GP)(tn:GJ->HP->Prop):Prop where
 mem:it∈fp
 obj:∀i h,tn i h->∀b∈fp,∃o,h.get? b=gV o/\∀v,o.data≠.cell v
 keep:∀i h h',tn i h->(∀b∈fp,∀o,h.get? b=gV o->h'.get? b=gV o)->tn i h'
 item:∀(X:Cx),X.prog=P->X.w=w->X.K=K->X.calm=true->∀(i:GJ) (J:Gy (GP×IJ)) (s:GF) (Y:St) (H:Hp) (E:GC->GF->Prop),Inv X J Y H s->(∀b∈fp,iB X J H b)->tn i s.heap->tv.go i H->
  wpAny (model P w) X.A (pyNext (.ref it)) (λr s1=>∃u,r=gV u/\
   wpAny (model P w) X.A (letOwnedTupleGo tg (.ref it) u) (λ_ s2=>∃x H',Inv X J Y H' s2/\RelV x u/\tv.yld i H x H'/\tn (i+1) s2.heap/\∀b∈fp,H' b=td) E s1) E s
 done:∀(X:Cx),X.prog=P->X.w=w->X.K=K->X.calm=true->∀(i:GJ) (J:Gy (GP×IJ)) (s:GF) (Y:St) (H:Hp) (E:GC->GF->Prop),Inv X J Y H s->(∀b∈fp,iB X J H b)->tn i s.heap->tv.stop i H->
  wpAny (model P w) X.A (pyNext (.ref it)) (λr s1=>r=td/\Inv X J Y H s1) E s
 self:∀(A:Hz) (i:GJ) (s:GF) (Q:GC->GF->Prop) (E:GC->GF->Prop),tn i s.heap->Q (.ref it) s->wpAny (model P w) A (pyIter (.ref it)) Q E s
noncomputable abbrev TI:=St->Hp->(It->Hp->Prop)->Prop
abbrev EE (X:Cx)(J:Gy (GP×IJ))(Y:St)(tg:Hh)(R:It->Hp->Prop)(itv:GC)(s2:GF):Prop:=
 ∃(it:GP) (fp:Gy GP) (tn:GJ->HP->Prop) (tv:It) (H':Hp),itv=.ref it/\Inv X J Y H' s2/\Turn X.prog X.w X.K tg tv fp it tn/\tn 0 s2.heap/\(∀b∈fp,iB X J H' b)/\R tv H'
abbrev PI (X:Cx)(tg iter:Hh)(wi:TI):Prop:=
 ∀(J:Gy (GP×IJ)) (s:GF) (Y:St) (H:Hp) (R:It->Hp->Prop),Inv X J Y H s->wi Y H R->
  wpAny (model X.prog X.w) X.A (eval iter X.env) (λv s1=>wpAny (model X.prog X.w) X.A (pyIter v) (EE X J Y tg R) X.xe s1) X.xe s
def qT {tx:OP}{A:Hz}{E:GC->GF->Prop}{s:GF}{tg:Hh}{it:GP}{u:GC}{o:IJ}{n:Ir}{vs:HE GC}{Q:Unit->GF->Prop}(ho:s.heap.get? it=gV o)(hc:o.cls=.type n)(hd:o.data=.fields vs)
    (hn:["enumerate","zip","dict_itemiterator","dict_reverseitemiterator","odict_iterator","itertools.zip_longest","itertools.pairwise"].contains n=false) (hQ:Q () s):wpAny tx A (letOwnedTupleGo tg (.ref it) u) Q E s:=by
  unfold letOwnedTupleGo;cases tg <;> first
    | exact GU hQ
    | (cases u <;> first
        | exact GU hQ
        | (show GB (MR ho ?_)
           rw[hc,hd];change wpAny tx A (if (["enumerate","zip","dict_itemiterator","dict_reverseitemiterator","odict_iterator","itertools.zip_longest","itertools.pairwise"].contains n&&vs[0]?==gV (rawInt _))=true then _ else _) Q E s
           rw[Hl (by intro h; rw[hn,Bool.false_and]at h; cases h)]
           exact GU hQ))
abbrev E5 (K:GZ)(a:GP):It:=
 #[λi H=>∃xs x,SqL K H a xs/\xs[i]?=gV x,λi H x H'=>H'=H/\∀xs,SqL K H a xs->xs[i]?=gV x,λi H=>∃xs,SqL K H a xs/\xs.length<=i]
abbrev CH (K:GZ)(a:GP):It:=
 #[λi H=>∃xs x,SqT K H a xs/\xs[i]?=gV x,λi H x H'=>H'=H/\∀xs,SqT K H a xs->xs[i]?=gV x,λi H=>∃xs,SqT K H a xs/\xs.length<=i]
abbrev C5 (lo:G1)(n:GJ):It:=#[λi _=>i < n,λi H x H'=>H'=H/\x=.int (lo+i),λi _=>n<=i]
def sD {P:Ht}{w:HD}{K:GZ}{tg:Hh}(a it:GP):Turn P w K tg (E5 K a) [it] it (λi h=>h.IsListIter it a i) where
 mem:=by simp
 obj:=λi h st b hb=>by
  have e:b=it:=by simpa using hb
  subst e;obtain⟨o,e,c,d⟩:=st;exact#[o,e,λv z=>by rw[d]at z; cases z]
 keep:=λi h h' st k=>st.at λo e=>k it (by simp) o e
 item:=by
  intro X hP hw hK hc i J s Y H E I hf st hg;subst hP hw hK;obtain⟨xs,x,hq,hx⟩:=hg;obtain⟨its,rv,p,hz⟩:=I.list hq;obtain⟨u,hu,ru⟩:=rv.get hx;obtain⟨f0,f1,f2,f3,f4,f5⟩:=hf it (by simp)
  show wpAny_pyNext_list_item st p.isList (x:=u) (by simpa using hu) λh' st' sb=>?_
  have I1:Inv X J Y H { s with heap:=h' }:=I.turned (t':=s.toks) (λb o hb e=>(sb.2 b hb).trans e) f0 f1 f3 f4 f5
  obtain⟨o,e,c,d⟩:=id st';exact#[u,rfl,qT (s:={ s with heap:=h' }) e c d #v[] #[x,H,I1,ru,#[rfl,λys hy=>by rw[I.list_inj hy hq]; exact hx],st',λb hb=>(hf b hb).1]]
 done:=by
  intro X hP hw hK hc i J s Y H E I hf st hg;subst hP hw hK;obtain⟨xs,hq,hx⟩:=hg;obtain⟨its,rv,p,hz⟩:=I.list hq;obtain⟨f0,f1,f2,f3,f4,f5⟩:=hf it (by simp)
  have hl:=rv.length;exact wpAny_pyNext_list_end (I.ok.hd hc) st p.isList (by simp; omega) λh' eb=>#[rfl,I.turned (t':=s.toks) (λb o hb e=>eb b o hb e) f0 f1 f3 f4 f5]
 self:=λ_ _ _ _ _ st h=>wpAny_pyIter_listiter st h
def pP {P:Ht}{w:HD}{K:GZ}{tg:Hh}(a it:GP):Turn P w K tg (CH K a) [it] it (λi h=>h.IsTupleIter it a i) where
 mem:=by simp
 obj:=λi h st b hb=>by
  have e:b=it:=by simpa using hb
  subst e;obtain⟨o,e,c,d⟩:=st;exact#[o,e,λv z=>by rw[d]at z; cases z]
 keep:=λi h h' st k=>st.at λo e=>k it (by simp) o e
 item:=by
  intro X hP hw hK hc i J s Y H E I hf st hg;subst hP hw hK;obtain⟨xs,x,hq,hx⟩:=hg;obtain⟨its,rv,p,hz⟩:=I.tuple hq;obtain⟨u,hu,ru⟩:=rv.get hx;obtain⟨f0,f1,f2,f3,f4,f5⟩:=hf it (by simp)
  show wpAny_pyNext_tuple_item st (show s.heap.IsTuple a its.toArray from p) (x:=u) (by simpa using hu) λh' st' sb=>?_
  have I1:Inv X J Y H { s with heap:=h' }:=I.turned (t':=s.toks) (λb o hb e=>(sb.2 b hb).trans e) f0 f1 f3 f4 f5
  obtain⟨o,e,c,d⟩:=id st';exact#[u,rfl,qT (s:={ s with heap:=h' }) e c d #v[] #[x,H,I1,ru,#[rfl,λys hy=>by rw[I.tuple_inj hy hq]; exact hx],st',λb hb=>(hf b hb).1]]
 done:=by
  intro X hP hw hK hc i J s Y H E I hf st hg;subst hP hw hK;obtain⟨xs,hq,hx⟩:=hg;obtain⟨its,rv,p,hz⟩:=I.tuple hq;obtain⟨f0,f1,f2,f3,f4,f5⟩:=hf it (by simp)
  have hl:=rv.length;exact wpAny_pyNext_tuple_end (I.ok.hd hc) st (show s.heap.IsTuple a its.toArray from p) (by simp; omega) λh' eb=>#[rfl,I.turned (t':=s.toks) (λb o hb e=>eb b o hb e) f0 f1 f3 f4 f5]
 self:=λ_ _ _ _ _ st h=>wpAny_pyIter_tupleiter st h
def pQ {P:Ht}{w:HD}{K:GZ}{tg:Hh}(it:GP)(lo:G1)(n:GJ):Turn P w K tg (C5 lo n) [it] it (λi h=>OR h it (lo+(i:GJ)*1) ((n:G1) - (i:GJ)) 1) where
 mem:=by simp
 obj:=λi h st b hb=>by
  have e:b=it:=by simpa using hb
  subst e;exact#[_,st,λv z=>by
   have z':Data.fields _=Data.cell v:=z;cases z']
 keep:=λi h h' st k=>k it (by simp) _ st
 item:=by
  intro X hP hw hK hc i J s Y H E I hf st hg;subst hP hw hK;obtain⟨f0,f1,f2,f3,f4,f5⟩:=hf it (by simp)
  have W:=Walks.range (prog:=X.prog) (w:=X.w) (I.ok.hd hc) it lo 1 n;show W.item i s _ _ hg st λv h' tk hv st' kk=>?_
  obtain⟨t,rfl⟩:=hv;have I1:Inv X J Y H { s with heap:=h',toks:=tk }:=I.turned (λb o hb e=>kk b o (by simpa using hb) e) f0 f1 f3 f4 f5
  show#[_,rfl,qT (s:={ s with heap:=h',toks:=tk }) (n:="range_iterator") st' rfl rfl #v[] #[.int (lo+i),H,I1,#[t,?_],#[rfl,rfl],st',λb hb=>(hf b hb).1]]
  rw[Int.mul_one]
 done:=by
  intro X hP hw hK hc i J s Y H E I hf st hg;subst hP hw hK;obtain⟨f0,f1,f2,f3,f4,f5⟩:=hf it (by simp)
  exact wpAny_pyNext_range_end (I.ok.hd hc) st (by have:n<=i:=hg; omega) λh' eb=>#[rfl,I.turned (t':=s.toks) (λb o hb e=>eb b o hb e) f0 f1 f3 f4 f5]
 self:=λ_ _ _ _ _ st h=>wpAny_pyIter_rangeiter st h
section
variable{X:Cx}{tg:Hh}
def nJ {J:Gy (GP×IJ)}{Y:St}{H:Hp}{s:GF}{R:It->Hp->Prop}{E:GC->GF->Prop}{lo hi:G1}{t u v:Py}{tk:GJ}(I:Inv X J Y H s)(h1 : -(2 ^ 62)<=lo)(h2:lo < 2 ^ 62)(h3 : -(2 ^ 62)<=hi)(h4:hi < 2 ^ 62)
  (q:R (C5 lo (hi - lo).toNat) H):wpAny (model X.prog X.w) X.A (pyIter (.ref s.heap.objs.size)) (EE X J Y tg R) E { s with heap:=s.heap.push { cls:=.type "range",data:=.fields [.int lo t,.int hi u,.int 1 v].toArray },toks:=tk }:=by
 show wpAny_pyIter_range (IsRange.new ..) (OE h1 h2 h3 h4) ?_;have I1:Inv X J Y H { s with heap:=s.heap.push { cls:=.type "range",data:=.fields [.int lo t,.int hi u,.int 1 v].toArray },toks:=tk }:=I.kept λb o e=>GN _ e
 show#[(s.heap.push { cls:=.type "range",data:=.fields [.int lo t,.int hi u,.int 1 v].toArray }).objs.size,[(s.heap.push { cls:=.type "range",data:=.fields [.int lo t,.int hi u,.int 1 v].toArray }).objs.size],_,_,H,rfl,
  I1.kept (t':=tk) λb o e=>GN _ e,pQ _ lo (hi - lo).toNat,?_,λb hb=>?_,q]
 ·have e1:lo+((0:GJ):G1)*1=lo:=by simp
  have e2:(((hi - lo).toNat:GJ):G1) - ((0:GJ):G1)=IQ lo hi 1:=by rw[ME]; split <;> omega
  change OR _ _ (lo+((0:GJ):G1)*1) ((((hi - lo).toNat:GJ):G1) - ((0:GJ):G1)) 1;rw[e1,e2];exact Hb _ rfl
 ·have e:b=(s.heap.push { cls:=.type "range",data:=.fields [.int lo t,.int hi u,.int 1 v].toArray }).objs.size:=by simpa using hb
  subst e;exact I1.fpOk (GY _) (I1.hok.fresh (GY _))
abbrev C6 (ta:TA):TI:=λY H R=>ta Y H λvs H1=>∃j:G1,vs=[.int j]/\-(2 ^ 62)<=j/\j < 2 ^ 62/\R (C5 0 j.toNat) H1
abbrev iRng2 (ta:TA):TI:=λY H R=>ta Y H λvs H1=>∃i j:G1,vs=[.int i,.int j]/\(-(2 ^ 62)<=i/\i < 2 ^ 62/\-(2 ^ 62)<=j/\j < 2 ^ 62)/\R (C5 i (j - i).toNat) H1
def sE {a:Hh}{ta:TA}{p pos:Ju}(hg:Gl X "range")(hm:X.mg "range" = td)(ha:PA X [a] ta)(hs:starEach [a] X.env=[(false,eval a X.env)]:=by rfl):PI X tg (.Call (.Name "range" p) [a] [] pos) (C6 ta):=by
 intro J s Y H R I h;show Call_ (iA I hg hm boot_range (Jj (bm (ha pos J s Y H _ I h) λus s1 #[vs,H1,I1,r1,q1]=>?_) hs rfl))
 obtain⟨j,e,q1,q2,q⟩:=q1;subst e;cases r1 with
 | cons r rr=>
  cases rr;obtain⟨t,rfl⟩:=r;exact OH (nJ I1 ∅ ∅ q1 q2 (by simpa using q))
def sF {a b:Hh}{ta:TA}{p pos:Ju}(hg:Gl X "range")(hm:X.mg "range" = td)(ha:PA X [a,b] ta)(hs:starEach [a,b] X.env=[(false,eval a X.env),(false,eval b X.env)]:=by rfl)(hs2:starEach [b] X.env=[(false,eval b X.env)]:=by rfl) :
  PI X tg (.Call (.Name "range" p) [a,b] [] pos) (iRng2 ta):=by
 intro J s Y H R I h;show Call_ (iA I hg hm boot_range (Jj (bm (ha pos J s Y H _ I h) λus s1 #[vs,H1,I1,r1,q1]=>?_) (by rw[hs,hs2]) (by rw[hs2]; rfl)))
 obtain⟨i,j,e,⟨q1,q2,q3,q4⟩,q⟩:=q1;subst e;cases r1 with
 | cons r rr=>
  cases rr with
  | cons r' rr=>
   cases rr;obtain⟨t,rfl⟩:=r;obtain⟨t',rfl⟩:=r';exact call_range_2 (nJ I1 q1 q2 q3 q4 q)
abbrev E6 (wi:TI)(g:TG)(tb:TS):TS:=λD Y H=>wi Y H λtv H1=>∃W:GJ->GJ->St->Hp->Prop,(∃m,W 0 m Y H1)/\∀i m Y H,W i m Y H->
 (tv.stop i H/\D.nx Y H)\/(tv.go i H/\∃N:St->Hp->Prop,(∀Y' H',N Y' H'->∃m',m' < m/\W (i+1) m' Y' H')/\∀x H',tv.yld i H x H'->g x Y H' λY2 H2=>tb { D with nx:=N,ct:=N,bk:=D.nx } Y2 H2)
abbrev iC (fp:Gy GP)(h:HP):Gy (GP×IJ):=fp.filterMap λb=>(h.get? b).map λo=>(b,o)
def eT {fp:Gy GP}{h:HP}{b:GP}{o:IJ}(hb:b∈fp)(e:h.get? b=gV o):(b,o)∈iC fp h:=MS.mpr #[b,hb,by rw[e]; rfl]
def sG {fp:Gy GP}{h:HP}{p:GP×IJ}(hp:p∈iC fp h):p.1∈fp/\h.get? p.1=gV p.2:=by
 obtain⟨b,hb,e⟩:=MS.mp hp;cases q:h.get? b with
 | none=>rw[q]at e; cases e
 | some o=>
  rw[q]at e;have e':(b,o)=p:=HV e;subst e';exact#[hb,q]
def Inv.pinned {J:Gy (GP×IJ)}{Y:St}{H:Hp}{s:GF}{fp:Gy GP}(I:Inv X J Y H s)(hf:∀b∈fp,iB X J H b)(ho:∀b∈fp,∃o,s.heap.get? b=gV o/\∀v,o.data≠.cell v):Inv X (J++iC fp s.heap) Y H s:=
 I.pins_of λp hp=>(HF.mp hp).elim (λz=>I.pin p (Hw _ z)) λz=>by
  obtain⟨hb,e⟩:=sG z;obtain⟨f0,f1,f2,_⟩:=hf p.1 hb;obtain⟨o,e',d⟩:=ho p.1 hb;rw[e]at e'; cases e'
  exact#[e,f0,f1,f2,d]
def Inv.unpinned {J pl:Gy (GP×IJ)}{Y:St}{H:Hp}{s:GF}(I:Inv X (J++pl) Y H s):Inv X J Y H s:=I.pins_of λp hp=>I.pin p (Hw _ (Ja _ hp))
def Bc {iter:Hh}{body:Gy JN}{wi:TI}{g:TG}{tb:TS}{pos:Ju}(hp:Mv (model X.prog X.w) X.A X.env X.xe)(hc:X.calm=true)(hi:PI X tg iter wi)(hg:PG X tg g)(hb:PSs X body tb)
  (hs:∀x,foldedSetIterable iter X.env x=pure x:=by intro _; rfl):PS X (.For tg iter body [] pos) (E6 wi g tb):=by
 intro J s Y H D I h;show wpAny_For (bm (hi J s Y H _ I h) λv s1 h1=>bm h1 λitv s2 h2=>?_) hs
 obtain⟨it,fp,tn,tv,H2,e,I2,T,aJ,f2,W,⟨m0,w0⟩,turn⟩:=h2;subst e;have stat:∀ {H':Hp},(∀b∈fp,H' b=td)->∀b∈fp,iB X J H' b:=λhn b hb=>#[hn b hb,(f2 b hb).2]
 show codeAny_forLoop_any (λn s'=>∃i Y' H',Inv X J Y' H' s'/\tn i s'.heap/\(∀b∈fp,H' b=td)/\W i n Y' H') ?_ m0 #[0,Y,H2,I2,aJ,λb hb=>(f2 b hb).1,w0]
 rintro n s3 ⟨i,Y3,H3,I3,st3,fr3,w3⟩;rcases turn i n Y3 H3 w3 with⟨stop,qn⟩|⟨go,N,hN,step⟩
 ·show Jx hp (bm (T.done X rfl rfl rfl hc i J s3 Y3 H3 X.xe I3 (stat fr3) st3 stop) λr s4 #[hr,I4]=>?_)
  subst hr;exact LX #[Y3,H3,I4,qn]
 ·show Jx hp (bm (T.item X rfl rfl rfl hc i J s3 Y3 H3 X.xe I3 (stat fr3) st3 go) λr s4 #[u,hr,h4]=>?_)
  subst hr;show Jx hp (bm h4 λ_ s5 #[x,H5,I5,r5,y5,st5,fr5]=>?_)
  have I5':=I5.pinned (stat fr5) (T.obj _ _ st5);show Jx hp (bm (hg _ s5 Y3 H5 x u _ I5' r5 (step x H5 y5)) λ_ s6 #[Y6,H6,I6,q6]=>?_)
  show Jx hp (bm (hb _ s6 Y6 H6 _ I6 q6) λf s7 q7=>?_)
  have again:∀ {Y7:St} {H7:Hp},Inv X (J++iC fp s5.heap) Y7 H7 s7->N Y7 H7->∃m,m < n/\∃i Y' H',Inv X J Y' H' s7/\tn i s7.heap/\(∀b∈fp,H' b=td)/\W i m Y' H':=λ{Y7 H7} I7 n7=>by
   obtain⟨m',hm,w7⟩:=hN Y7 H7 n7;show#[m',hm,i+1,Y7,H7,I7.unpinned,T.keep _ _ _ st5 λb hb o e=>(I7.pin (b,o) (Hw _ (Hw _ (eT hb e)))).1,λb hb=>?_,w7]
   obtain⟨o,e,d⟩:=T.obj _ _ st5 b hb;exact(I7.pin (b,o) (Hw _ (Hw _ (eT hb e)))).2.1
  cases f with
  | next=>obtain⟨Y7,H7,I7,n7⟩:=q7; exact again I7 n7
  | cont=>obtain⟨Y7,H7,I7,n7⟩:=q7; exact again I7 n7
  | brk=>obtain⟨Y7,H7,I7,q7⟩:=q7; exact#[Y7,H7,I7.unpinned,q7]
  | ret v=>obtain⟨x7,Y7,H7,I7,r7,q7⟩:=q7; exact#[x7,Y7,H7,I7.unpinned,r7,q7]
end
def for_tup {K:GZ}{a:GP}{xs:Gy V}{g:TG}{tb:TS}{D:Ends}{Y:St}{H:Hp}(Pv:GJ->St->Hp->Prop)(h0:Pv 0 Y H)(hl:∀i Y H,i<=xs.length->Pv i Y H->SqT K H a xs)
  (hs:∀i x Y H,xs[i]?=gV x->Pv i Y H->g x Y H λY2 H2=>tb { D with nx:=Pv (i+1),ct:=Pv (i+1),bk:=D.nx } Y2 H2) (hd:∀Y H,Pv xs.length Y H->D.nx Y H) :
  ∃W:GJ->GJ->St->Hp->Prop,(∃m,W 0 m Y H)/\∀i m Y H,W i m Y H->
   ((CH K a).stop i H/\D.nx Y H)\/((CH K a).go i H/\∃N:St->Hp->Prop,(∀Y' H',N Y' H'->∃m',m' < m/\W (i+1) m' Y' H')/\∀x H',(CH K a).yld i H x H'->g x Y H' λY2 H2=>tb { D with nx:=N,ct:=N,bk:=D.nx } Y2 H2):=by
 show#[λi m Y H=>m=xs.length - i/\i<=xs.length/\Pv i Y H,#[xs.length,by simp,IH _,h0],?_]
 rintro i m Y H ⟨rfl,hi,p⟩;have q:=hl i Y H hi p
 by_cases hlt:i < xs.length
 ·show .inr #[#[xs,xs[i],q,by simp[hlt]],Pv (i+1),λY' H' p'=>#[xs.length - (i+1),∅,rfl,hlt,p'],λx H' y=>?_]
  obtain⟨e,y⟩:=y;subst e;exact hs i x Y _ (y xs q) p
 ·have e:i=xs.length:=∅
  subst e;exact .inl #[#[xs,q,GY _],hd Y H p]
noncomputable abbrev R2:=V->V->Hp->VK->Prop
abbrev OpR (X:Cx)(f:GC->GC->OQ GC)(r:R2):Prop:=
 ∀(J:Gy (GP×IJ)) (s:GF) (Y:St) (H:Hp) (x y:V) (v u:GC) (Q:VK),Inv X J Y H s->RelV x v->RelV y u->r x y H Q->
  wpAny (model X.prog X.w) X.A (f v u) (EP X J Y Q) X.xe s
abbrev E7 (X:Cx)(f:GC->OQ GC)(r:V->Hp->VK->Prop):Prop:=
 ∀(J:Gy (GP×IJ)) (s:GF) (Y:St) (H:Hp) (x:V) (v:GC) (Q:VK),Inv X J Y H s->RelV x v->r x H Q->
  wpAny (model X.prog X.w) X.A (f v) (EP X J Y Q) X.xe s
abbrev CallR (X:Cx)(f:GC)(r:Gy V->Hp->VK->Prop):Prop:=
 ∀(J:Gy (GP×IJ)) (s:GF) (Y:St) (H:Hp) (xs:Gy V) (us:Gy GC) (Q:VK),Inv X J Y H s->Vals xs us->r xs H Q->
  wpAny (model X.prog X.w) X.A (call f us) (EP X J Y Q) X.xe s
abbrev E8 (X:Cx)(r:V->Hp->(Hi->Hp->Prop)->Prop):Prop:=
 ∀(J:Gy (GP×IJ)) (s:GF) (Y:St) (H:Hp) (x:V) (v:GC) (Q:Hi->Hp->Prop),Inv X J Y H s->RelV x v->r x H Q->
  wpAny (model X.prog X.w) X.A (truthy v) (TP X J Y Q) X.xe s
abbrev EF (r:R2)(ta tb:TE):TE:=λY H Q=>ta Y H λx H1=>tb Y H1 λy H2=>r x y H2 Q
abbrev Gk (r:V->Hp->VK->Prop)(ta:TE):TE:=λY H Q=>ta Y H λx H1=>r x H1 Q
abbrev rI (C:G1->G1->Prop)(g:G1->G1->V):R2:=λx y H Q=>∃i j,x=.int i/\y=.int j/\C i j/\Q (g i j) H
abbrev Ab (g:G1->G1->V):R2:=λx y H Q=>∃i j,x=.int i/\y=.int j/\Q (g i j) H
abbrev rU (g:G1->V):V->Hp->VK->Prop:=λx H Q=>∃i,x=.int i/\Q (g i) H
section
variable{X:Cx}{a b c:Hh}{ta tb tc:TE}{pos:Ju}
def Bd (ha:PE X a ta)(hb:PE X b tb){J:Gy (GP×IJ)}{s:GF}{Y:St}{H:Hp}{R:V->V->Hp->Prop}(I:Inv X J Y H s)
  (h:ta Y H λx H1=>tb Y H1 λy H2=>R x y H2) {Q:GC->GF->Prop} {f:GC->GC->OQ GC}
  (hf:∀v u s2 x y H2,Inv X J Y H2 s2->RelV x v->RelV y u->R x y H2->wpAny (model X.prog X.w) X.A (f v u) Q X.xe s2) :
  wpAny (model X.prog X.w) X.A (eval a X.env) (λv s₁=>wpAny (model X.prog X.w) X.A (eval b X.env) (λu s₂=>wpAny (model X.prog X.w) X.A (f v u) Q X.xe s₂) X.xe s₁) X.xe s:=by
 show bm (ha J s Y H _ I h) λv s1 #[x,H1,I1,r1,q1]=>?_
 show bm (hb J s1 Y H1 _ I1 q1) λu s2 #[y,H2,I2,r2,q2]=>?_
 exact hf v u s2 x y H2 I2 r1 r2 q2
def C7 {op:M7}{r:R2}(ho:OpR X (binaryOp op) r)(ha:PE X a ta)(hb:PE X b tb):PE X (.BinOp a op b pos) (EF r ta tb):=by
 intro J s Y H Q I h;exact wpAny_BinOp (Bd ha hb I h λv u s2 x y H2 I2 rx ry q=>ho J s2 Y H2 x y v u Q I2 rx ry q)
def C8 {op:UnaryOp}{r:V->Hp->VK->Prop}(ho:E7 X (unaryOp op) r)(ha:PE X a ta):PE X (.UnaryOp op a pos) (Gk r ta):=by
 intro J s Y H Q I h;exact UnaryOp_ (bm (ha J s Y H _ I h) λv s1 #[x,H1,I1,r1,q1]=>ho J s1 Y H1 x v Q I1 r1 q1)
def EG {f:GC->GC->OQ GC}{C:G1->G1->Prop}{g:G1->G1->G1}
  (rule:∀(i j:G1) (t u:Py) (s:GF) (Q:GC->GF->Prop) (E:GC->GF->Prop),C i j->Q (.int (g i j) s.toks) { s with toks:=s.toks+1 }->wpAny (model X.prog X.w) X.A (f (.int i t) (.int j u)) Q E s) :
  OpR X f (rI C λi j=>.int (g i j)):=by
 intro J s Y H x y v u Q I rx ry h;obtain⟨i,j,rfl,rfl,hc,q⟩:=h;obtain⟨t,rfl⟩:=rx;obtain⟨t',rfl⟩:=ry;exact rule i j t t' s _ _ hc #[.int (g i j),H,I.tok _,#[_,rfl],q]
def C9 {f:GC->GC->OQ GC}{g:G1->G1->G1}
  (rule:∀(i j:G1) (t u:Py) (s:GF) (Q:GC->GF->Prop) (E:GC->GF->Prop),Q (.int (g i j) s.toks) { s with toks:=s.toks+1 }->wpAny (model X.prog X.w) X.A (f (.int i t) (.int j u)) Q E s) :
  OpR X f (Ab λi j=>.int (g i j)):=by
 intro J s Y H x y v u Q I rx ry h;obtain⟨i,j,rfl,rfl,q⟩:=h;obtain⟨t,rfl⟩:=rx;obtain⟨t',rfl⟩:=ry;exact rule i j t t' s _ _ #[.int (g i j),H,I.tok _,#[_,rfl],q]
def xU {f:GC->GC->OQ GC}{g:G1->G1->Hi}
  (rule:∀(i j:G1) (t u:Py) (s:GF) (Q:GC->GF->Prop) (E:GC->GF->Prop),Q (.bool (g i j)) s->wpAny (model X.prog X.w) X.A (f (.int i t) (.int j u)) Q E s) :
  OpR X f (Ab λi j=>.bl (g i j)):=by
 intro J s Y H x y v u Q I rx ry h;obtain⟨i,j,rfl,rfl,q⟩:=h;obtain⟨t,rfl⟩:=rx;obtain⟨t',rfl⟩:=ry;exact rule i j t t' s _ _ #[.bl (g i j),H,I,rfl,q]
abbrev E9 (i j:G1):Prop:=0 < j/\j < 1073741824
abbrev Fa (i j:G1):Prop:=0<=j/\j<=1000000/\i.natAbs < 2 ^ 64
abbrev CMul (i j:G1):Prop:=(-(2 ^ 64) < i/\i < 2 ^ 64)\/(-(2 ^ 64) < j/\j < 2 ^ 64)
def CMul.ok {i j:G1}(h:CMul i j):IntMulOk i j:=by
 rcases h with⟨h1,h2⟩|⟨h1,h2⟩
 ·exact .of_left (Oo h1 h2)
 ·exact .of_right (Oo h1 h2)
def Be:OpR X (binaryOp .Add) (Ab λi j=>.int (i+j)):=C9 λ_ _ _ _ _ _ _ q=>add_int q
def Bf:OpR X (binaryOp .Sub) (Ab λi j=>.int (i - j)):=C9 λ_ _ _ _ _ _ _ q=>sub_int q
def Bg:OpR X (binaryOp .Mult) (rI CMul λi j=>.int (i*j)):=EG λ_ _ _ _ _ _ _ hc q=>mul_int q hc.ok
def xV:OpR X (binaryOp .FloorDiv) (rI E9 λi j=>.int (i / j)):=EG λi j _ _ _ _ _ hc q=>by
 have h1:(0:G1) < j:=hc.1;have h2:j < 1073741824:=hc.2;exact floordiv_int ∅ (by rw[Int.fdiv_eq_ediv_of_nonneg i ∅]; exact q) (.inl (PyProof.noPylong_small ∅))
def Bh:OpR X (binaryOp .Mod) (rI (λ_ j=>0 < j) λi j=>.int (i % j)):=EG λi j _ _ _ _ _ hc q=>by
 have h1:(0:G1) < j:=hc;exact mod_int' ∅ (by rw[Int.fmod_eq_emod_of_nonneg i ∅]; exact q)
def Bj:OpR X (binaryOp .Pow) (rI Fa λi j=>.int (i ^ j.toNat)):=EG λ_ _ _ _ _ _ _ hc q=>pow_int_small hc.1 hc.2.1 hc.2.2 q
def Gm {f:GC->OQ GC}{g:G1->G1}
  (rule:∀(i:G1) (t:Py) (s:GF) (Q:GC->GF->Prop) (E:GC->GF->Prop),Q (.int (g i) s.toks) { s with toks:=s.toks+1 }->wpAny (model X.prog X.w) X.A (f (.int i t)) Q E s) :
  E7 X f (rU λi=>.int (g i)):=by
 intro J s Y H x v Q I rx h;obtain⟨i,rfl,q⟩:=h;obtain⟨t,rfl⟩:=rx;exact rule i t s _ _ #[.int (g i),H,I.tok _,#[_,rfl],q]
def Bk:E7 X (unaryOp .USub) (rU λi=>.int (-i)):=Gm λ_ _ _ _ _ q=>neg_int q
def uF {J:Gy (GP×IJ)}{Y:St}{H:Hp}{s:GF}{Q:VK}{k k':Hi}(I:Inv X J Y H s)(q:Q (.bl k) H)(e:k=k'):EP X J Y Q (.bool k') s:=by
 subst e;exact#[.bl k,H,I,rfl,q]
def Da:OpR X (compareOp .Lt) (Ab λi j=>.bl (decide (i < j))):=xU λ_ _ _ _ _ _ _ q=>lt_int q
def Db:OpR X (compareOp .LtE) (Ab λi j=>.bl (decide (i<=j))):=xU λ_ _ _ _ _ _ _ q=>le_int q
def Dc:OpR X (compareOp .Gt) (Ab λi j=>.bl (decide (j < i))):=xU λ_ _ _ _ _ _ _ q=>gt_int q
def De:OpR X (compareOp .GtE) (Ab λi j=>.bl (decide (j<=i))):=xU λ_ _ _ _ _ _ _ q=>ge_int q
def Bl:OpR X (compareOp .Is) (λx y H Q=>y=.non/\Q (.bl (decide (x=.non))) H):=by
 intro J s Y H x y v u Q I rx ry h;obtain⟨rfl,q⟩:=h;cases ry;show is_none_gen (uF I q ?_);cases x <;> first
  | (cases rx; rfl)
  | (obtain⟨t,rfl⟩:=rx; rfl)
def xW:OpR X (compareOp .IsNot) (λx y H Q=>y=.non/\Q (.bl (!decide (x=.non))) H):=by
 intro J s Y H x y v u Q I rx ry h;obtain⟨rfl,q⟩:=h;cases ry;show isnot_none_gen (uF I q ?_);cases x <;> first
  | (cases rx; rfl)
  | (obtain⟨t,rfl⟩:=rx; rfl)
def xX {op:NN}{r:R2}(ho:OpR X (compareOp op) r)(ha:PE X a ta)(hb:PE X b tb)(hm:behindInMarks op b=false):PE X (.Compare a [op] [b] pos) (EF r ta tb):=by
 intro J s Y H Q I h;exact wpAny_Compare1 (Bd ha hb I h λv u s2 x y H2 I2 rx ry q=>ho J s2 Y H2 x y v u Q I2 rx ry q) hm
abbrev Ac (t:TE):TT:=λY H Q=>t Y H λx H'=>∃k,x=.bl k/\Q k H'
def xY {op:NN}{r:R2}(ho:OpR X (compareOp op) r)(ha:PE X a ta)(hb:PE X b tb)(hm:behindInMarks op b=false):PT X (.Compare a [op] [b] pos) (Ac (EF r ta tb)):=by
 intro J s Y H Q I h;show wpAny_isTrue_Compare1 (bm (ha J s Y H _ I h) λv s1 #[x,H1,I1,r1,q1]=>bm (hb J s1 Y H1 _ I1 q1) λu s2 #[y,H2,I2,r2,q2]=>
  bm (ho J s2 Y H2 x y v u _ I2 r1 r2 q2) λc s3 #[z,H3,I3,r3,k,e,q3]=>?_) hm
 subst e;cases r3;exact Iy #[H3,I3,q3]
abbrev pR (r r':R2)(ta tb tc:TE):TE:=λY H Q=>ta Y H λx H1=>tb Y H1 λy H2=>r x y H2 λz H3=>∃k,z=.bl k/\
 (if k=true then tc Y H3 λw' H4=>r' y w' H4 Q else Q (.bl false) H3)
def uG {op op':NN}{r r':R2}(ho:OpR X (compareOp op) r)(ho':OpR X (compareOp op') r')(ha:PE X a ta)(hb:PE X b tb)(hc:PE X c tc)
  (hm:lastMarks [op,op'] [b,c]=false:=by with_unfolding_all rfl):PE X (.Compare a [op,op'] [b,c] pos) (pR r r' ta tb tc):=by
 intro J s Y H Q I h;show Compare_chain (bm (ha J s Y H _ I h) λv s1 #[x,H1,I1,r1,q1]=>chain_link (bm (hb J s1 Y H1 _ I1 q1) λu s2 #[y,H2,I2,r2,q2]=>
  bm (ho J s2 Y H2 x y v u _ I2 r1 r2 q2) λd s3 #[z,H3,I3,r3,k,e,q3]=>?_)) hm
 subst e;cases r3;show Iy ?_;cases k with
 | false=>exact ite_ff #[.bl false,H3,I3,rfl,q3]
 | true=>exact ite_tt (chain_last (bm (hc J s3 Y H3 _ I3 q3) λw' s4 #[z',H4,I4,r4,q4]=>ho' J s4 Y H4 y z' u w' Q I4 r2 r4 q4))
def uH {op op':NN}{r r':R2}(ho:OpR X (compareOp op) r)(ho':OpR X (compareOp op') r')(ha:PE X a ta)(hb:PE X b tb)(hc:PE X c tc)
  (hm:lastMarks [op,op'] [b,c]=false:=by with_unfolding_all rfl):PT X (.Compare a [op,op'] [b,c] pos) (Ac (pR r r' ta tb tc)):=by
 intro J s Y H Q I h;show isTrue_chain (bm (ha J s Y H _ I h) λv s1 #[x,H1,I1,r1,q1]=>test_link (bm (hb J s1 Y H1 _ I1 q1) λu s2 #[y,H2,I2,r2,q2]=>
  bm (ho J s2 Y H2 x y v u _ I2 r1 r2 q2) λd s3 #[z,H3,I3,r3,k,e,q3]=>?_)) hm
 subst e;cases r3;show Iy ?_;cases k with
 | false=>
  obtain⟨k',e',q'⟩:=q3;cases e';exact ite_ff #[H3,I3,q']
 | true=>
  show ite_tt (test_last (bm (hc J s3 Y H3 _ I3 q3) λw' s4 #[z',H4,I4,r4,q4]=>bm (ho' J s4 Y H4 y z' u w' _ I4 r2 r4 q4) λd' s5 #[z2,H5,I5,r5,k2,e2,q5]=>?_))
  subst e2;cases r5;exact Iy #[H5,I5,q5]
abbrev Fb (K:GZ)(x:V)(H:Hp)(k:Hi):Prop:=
 match x with
 | .non=>k=false
 | .bl b=>k=b
 | .int i=>k=(i != 0)
 | .str y=>y.length<=sizeLine/\k=((y.length:G1) != 0)
 | .byt y=>y.size<=sizeLine/\k=((y.size:G1) != 0)
 | .ref p=>(∃xs,SqL K H p xs/\k = !xs.isEmpty)\/(∃xs,SqT K H p xs/\k = !xs.isEmpty)\/∃U,H p=gV (.dK U)/\k = !U.isEmpty
 | _=>Ip
def pS {κ:Type}{U:Gy (κ×V)}{vs:Gy (κ×GC)}(r:KV U vs):(!vs.isEmpty) = !U.isEmpty:=by
 cases r <;> rfl
def jO {xs:Gy V}{its:Gy GC}(r:Vals xs its):(!its.toArray.isEmpty) = !xs.isEmpty:=by
 cases r <;> simp
def iD:(sizeLine:GJ) < 2 ^ 63:=by rw[HR]; decide
def Bm:E8 X (λx H Q=>∃k,Fb X.K x H k/\Q k H):=by
 intro J s Y H x v Q I rx h;obtain⟨k,e,q⟩:=h;have hl:=iD;have hs:sizeLine=16777216:=HR;cases x with
 | non=>
  cases rx;have e':k=false:=e;subst e';exact truthy_none #[H,I,q]
 | bl b=>
  cases rx;have e':k=b:=e;subst e';exact Iy #[H,I,q]
 | int i=>
  obtain⟨t,rfl⟩:=rx;have e':k=(i != 0):=e;subst e';exact PySem.P.truthy_int #[H,I,q]
 | str y=>
  obtain⟨t,rfl⟩:=rx;obtain⟨hy,e'⟩ : y.length<=sizeLine/\k=((y.length:G1) != 0):=e;subst e';exact PySem.P.truthy_str ∅ #[H,I.tok _,q]
 | byt y=>
  obtain⟨t,rfl⟩:=rx;obtain⟨hy,e'⟩ : y.size<=sizeLine/\k=((y.size:G1) != 0):=e;subst e';exact PySem.W.truthy_bytes ∅ #[H,I.tok _,q]
 | ref p=>
  cases rx;have e':(∃xs,SqL X.K H p xs/\k = !xs.isEmpty)\/(∃xs,SqT X.K H p xs/\k = !xs.isEmpty)\/∃U,H p=gV (.dK U)/\k = !U.isEmpty:=e;rcases e' with⟨xs,hx,e'⟩|⟨xs,hx,e'⟩|⟨U,hx,e'⟩
  ·subst e';obtain⟨its,r,pl,hz⟩:=I.list hx;have hlen:=r.length;exact wpAny_truthy_list pl.isList (by simp only[G6]; omega) #[H,I.tok _,by rw[jO r]; exact q]
  ·subst e';obtain⟨its,r,pl,hz⟩:=I.tuple hx;have hlen:=r.length;exact truthy_tuple pl (by simp only[G6]; omega) #[H,I.tok _,by rw[jO r]; exact q]
  ·subst e';obtain⟨hz,hS,vs,r,m⟩ : U.length<=sizeLine/\(p==sysModules)=false/\∃vs,KV U vs/\s.heap.DictOf (mj X.prog X.w) p vs:=I.hok p _ hx;have hlen:U.length=vs.length:=Lw r;exact wpAny_truthy_dict hS m ∅ #[H,I.tok _,by rw[pS r]; exact q]
 | _=>exact(show Ip from e).elim
def pT:OpR X (binaryOp .Add) (λx y H Q=>∃i j,x=.str i/\y=.str j/\i.length+j.length<=sizeLine/\Q (.str (i++j)) H):=by
 intro J s Y H x y v u Q I rx ry h;obtain⟨i,j,rfl,rfl,hz,q⟩:=h;obtain⟨t,rfl⟩:=rx;obtain⟨t',rfl⟩:=ry;exact add_str (λt' tk=>#[.str (i++j),H,I.tok _,#[_,rfl],q]) hz
def lu {x:V}{us:Gy GC}(r:Vals [x] us):∃u,us=[u]/\RelV x u:=by
 cases r with
 | cons r1 r2=>cases r2; exact#[_,rfl,r1]
def uI:CallR X (.builtin "abs") (λxs H Q=>∃i,xs=[.int i]/\Q (.int (if i < 0 then -i else i)) H):=by
 intro J s Y H xs us Q I r h;obtain⟨i,rfl,q⟩:=h;obtain⟨u,rfl,t,rfl⟩:=lu r;exact call_abs_int λu tk=>#[.int (if i < 0 then -i else i),H,I.tok _,#[_,rfl],q]
def lv:CallR X (.type "int") (λxs H Q=>(∃i,xs=[.int i]/\Q (.int i) H)\/∃k,xs=[.bl k]/\Q (.int (if k then 1 else 0)) H):=by
 intro J s Y H xs us Q I r h;rcases h with⟨i,rfl,q⟩|⟨k,rfl,q⟩
 ·obtain⟨u,rfl,t,rfl⟩:=lu r;exact call_int_int #[.int i,H,I,#[_,rfl],q]
 ·obtain⟨u,rfl,r1⟩:=lu r;cases r1;exact call_int_bool #[.int (if k then 1 else 0),H,I.tok _,#[_,rfl],q]
abbrev Fc (K:GZ)(x:V)(H:Hp)(n:GJ):Prop:=
 match x with
 | .str y=>y.length<=sizeLine/\n=y.length
 | .byt y=>y.size<=sizeLine/\n=y.size
 | .ref p=>(∃xs,SqL K H p xs/\n=xs.length)\/∃xs,SqT K H p xs/\n=xs.length
 | _=>Ip
def jP:CallR X (.builtin "len") (λxs H Q=>∃x n,xs=[x]/\Fc X.K x H n/\Q (.int n) H):=by
 intro J s Y H xs us Q I r h;obtain⟨x,n,rfl,e,q⟩:=h;obtain⟨u,rfl,rx⟩:=lu r;have hl:=iD;have hs:sizeLine=16777216:=HR;cases x with
 | str y=>
  obtain⟨t,rfl⟩:=rx;obtain⟨hy,e'⟩ : y.length<=sizeLine/\n=y.length:=e;subst e';exact len_str ∅ #[.int _,H,I.tok _,#[_,rfl],q]
 | byt y=>
  obtain⟨t,rfl⟩:=rx;obtain⟨hy,e'⟩ : y.size<=sizeLine/\n=y.size:=e;subst e';exact PySem.W.len_bytes ∅ #[.int _,H,I.tok _,#[_,rfl],q]
 | ref p=>
  cases rx;have e':(∃xs,SqL X.K H p xs/\n=xs.length)\/∃xs,SqT X.K H p xs/\n=xs.length:=e;rcases e' with⟨xs,hx,e'⟩|⟨xs,hx,e'⟩
  ·subst e';obtain⟨its,r',pl,hz⟩:=I.list hx;have hlen:=r'.length;exact Calls.call_len_list pl.isList (by simp only[G6]; omega) #[.int xs.length,H,I.tok _,#[_,by simp only[G6]; rw[hlen]],q]
  ·subst e';obtain⟨its,r',pl,hz⟩:=I.tuple hx;have hlen:=r'.length;exact len_tuple pl (by simp only[G6]; omega) #[.int xs.length,H,I.tok _,#[_,by simp only[G6]; rw[hlen]],q]
 | _=>exact(show Ip from e).elim
end
structure Room (k:GJ)(A:Hz):Prop where
 hd:A.handled=td
 dp:A.depth+3*k+5 < recursionLimit
 un:A.units+16*k+200 < cLine
def Room.deeper {k:GJ}{A:Hz}(r:Room (k+1) A)(env:MO):Room k (A.deeper env):=
 #[r.hd,by have:=r.dp; show A.depth+1+3*k+5 < _; omega,by have:=r.un; show A.units+3+16*k+200 < _; omega]
def Room.depth {k:GJ}{A:Hz}(r:Room k A):A.depth < recursionLimit:=by have:=r.dp; omega
abbrev Dg:TA:=λ_ H Q=>Q [] H
abbrev Dh (ta:TE)(tr:TA):TA:=λY H Q=>ta Y H λx H1=>tr Y H1 λxs H2=>Q (x::xs) H2
section
variable{X:Cx}{e:Hh}{es:Gy Hh}{te:TE}{t:TA}{pos:Ju}
def uJ:PA X [] Dg:=λ_ _ _ _ H Q I h=>Calls.spliced_nil #[[],H,I,.nil,h]
def mq (ha:PE X e te)(hr:PA X es t)(hs:starEach (e::es) X.env=(false,eval e X.env)::starEach es X.env:=by rfl):PA X (e::es) (Dh te t):=by
 intro pos J s Y H Q I h;rw[hs];change wpAny _ _ (spliced ((false,eval e X.env)::backTo pos (starEach es X.env))) _ _ s;show Calls.spliced_cons (bm (ha J s Y H _ I h) λu s1 #[x,H1,I1,r1,q1]=>?_)
 exact bm (hr pos J s1 Y H1 _ I1 q1) λus s2 #[xs,H2,I2,r2,q2]=>#[x::xs,H2,I2,.cons r1 r2,q2]
abbrev Fd (t:TA):TE:=λY H Q=>t Y H λxs H1=>xs.length<=sizeLine/\∀p,H1 p=td->Q (.ref p) (bH H1 p (.tup xs))
abbrev Fe (t:TA):TE:=λY H Q=>t Y H λxs H1=>xs.length<=sizeLine/\∀p,H1 p=td->Q (.ref p) (bH H1 p (.lst xs))
def Bn {x1}(h:PA X es t):PE X (.Tuple es x1 pos) (Fd t):=by
 intro J s Y H Q I hq;show wpAny_Tuple_spliced (bm (h pos J s Y H _ I hq) λus s1 #[xs,H1,I1,r,z,q]=>#[by rw[<- r.length]; exact z,?_])
 have hf:H1 s1.heap.objs.size=td:=I1.hok.fresh (GY _);show#[.ref s1.heap.objs.size,bH H1 s1.heap.objs.size (.tup xs),I1.laid (t':=s1.toks) (λb u e=>GN _ e) (GY _) ?_,rfl,q _ hf]
 exact#[z,us,r,#[_,Hb _ rfl,rfl,_,rfl]]
def Bo (h:PA X es t):PE X (.List es pos) (Fe t):=by
 intro J s Y H Q I hq;show wpAny_List_spliced (bm (h pos J s Y H _ I hq) λus s1 #[xs,H1,I1,r,z,q]=>#[by rw[<- r.length]; exact z,?_])
 have hf:H1 s1.heap.objs.size=td:=I1.hok.fresh (GY _);show#[.ref s1.heap.objs.size,bH H1 s1.heap.objs.size (.lst xs),I1.laid (t':=s1.toks) (λb u e=>GN _ e) (GY _) ?_,rfl,q _ hf]
 exact#[z,us,0,r,Hb _ rfl]
end
noncomputable abbrev Sp:=Gy V->Hp->VK->XK->Prop
noncomputable abbrev uK:=Gy MO->Hp->GF->XK->GC->GF->Prop
structure Env0 (P:Ht)(w:HD)(K:GZ)(mg:Hc->GH GC)(base:HP)(A:Hz)(outer:Gy MO)(s:GF)(H:Hp):Prop where
 frames:A.frames=gV outer
 mod:Mod K mg base
 bs:∀b o,base.get? b=gV o->s.heap.get? b=gV o/\H b=td
 bsz:base.objs.size<=s.heap.objs.size
 funs:s.heap.FunFrames base outer
 frf:∀b∈pO outer,H b=td
 hok:HOk P w H s.heap
 bare:Lq s.gens
abbrev CE (outer:Gy MO)(P:Ht)(w:HD)(H:Hp)(s:GF)(Q:VK)(u:GC)(s':GF):Prop:=
 ∃v H',s'.os=s.os/\Lq s'.gens/\Un (pO outer) [] H H' s.heap s'.heap/\HOk P w H' s'.heap/\RelV v u/\Q v H'
abbrev CR (CX:uK)(outer:Gy MO)(P:Ht)(w:HD)(H:Hp)(s:GF)(Q:VK)(E:XK)(r:Ny)(s':GF):Prop:=
 match r with
 | .ok (.ret u)=>CE outer P w H s Q u s'
 | .ok _=>Ip
 | .error e=>CX outer H s E e s'
structure FnOk (P:Ht)(w:HD)(K:GZ)(mg:Hc->GH GC)(base:HP)(CX:uK)(k:GJ)(f:GP)(fd:Jp)(ps:Gy Hc)(sp:Sp):Prop where
 len:∀vs H Q E,sp vs H Q E->vs.length=ps.length
 run:∀(A:Hz) (outer:Gy MO) (s:GF) (H:Hp) (args:Args) (us:Gy GC) (vs:Gy V) (Q:VK) (E:XK),Room k A->Env0 P w K mg base A outer s H->M8 s fd args (ps.zip us)->Vals vs us->sp vs H Q E->
  codeAny (model P w) A (.call (.ref f) args) (CR CX outer P w H s Q E) s
section
variable{X:Cx}{J:Gy (GP×IJ)}{Y:St}{H:Hp}{s s':GF}
def Inv.env0 (I:Inv X J Y H s):Env0 X.prog X.w X.K X.mg X.base X.A X.stack s H:=
 #[I.ok.frames,I.ok.mod,I.bs,HB I.ok.bsz I.sz,I.stack,I.stkFree,I.hok,I.bare]
def Inv.after {Q:VK}{u:GC}(I:Inv X J Y H s)(h:CE X.stack X.prog X.w H s Q u s'):EP X J Y Q u s':=by
 obtain⟨v,H',os,bare,un,hok,r,q⟩:=h;obtain⟨hh,g,d,t,os'⟩:=s';obtain rfl:os'=s.os:=os;exact#[v,H',I.call (h':=hh) (g':=g) (d':=d) (t':=t) (ch:=[]) un hok bare (λb z=>absurd z (by simp)),r,q]
end
abbrev uL (sp:Sp)(dvs:Gy V)(E:XK)(t:TA):TE:=λY H Q=>t Y H λvs H1=>sp (vs++dvs) H1 Q E
abbrev Binds (K:GZ)(fd:Jp)(ps:Gy Hc)(ds:Gy GC):Prop:=
 ∀(s:GF) (us:Gy GC),K.In s.heap->(us++ds).length=ps.length->M8 s fd #[us,[]] (ps.zip (us++ds))
def Binds.all {K:GZ}{fd:Jp}{ps:Gy Hc}(h:∀us:Gy GC,us.length=ps.length->bindArgs fd #[us,[]]=pure (ps.zip us)):Binds K fd ps []:=λs us _ hl=>by
 rw[Iv]at hl ⊢;exact .of_eq (h us hl)
abbrev mr (CX:uK)(X:Cx)(E:XK):Prop:=∀(J:Gy (GP×IJ)) (Y:St) (H:Hp) (s:GF) (e:GC) (s':GF),Inv X J Y H s->CX X.stack H s E e s'->X.xe e s'
section
variable{X:Cx}{CX:uK}{k:GJ}{f C:GP}{fd:Jp}{ps:Gy Hc}{sp:Sp}{dvs:Gy V}{ds:Gy GC}{E:XK}{x m:Hc}{p pos apos:Ju}{e o:Hh}{es:Gy Hh}{ta:TE}{t:TA}
def uM {J:Gy (GP×IJ)}{Y:St}{H:Hp}{s:GF}{Q:VK}{us:Gy GC}{vs:Gy V}(F:FnOk X.prog X.w X.K X.mg X.base CX k f fd ps sp)(hr:Room k X.A)(hb:Binds X.K fd ps ds)(hd:Vals dvs ds)(hx:mr CX X E)
  (I:Inv X J Y H s) (r:Vals vs us) (h:sp (vs++dvs) H Q E):wpAny (model X.prog X.w) X.A (call (.ref f) us) (EP X J Y Q) X.xe s:=by
 have r2:Vals (vs++dvs) (us++ds):=r.append hd;have hl:(us++ds).length=ps.length:=by rw[<- r2.length]; exact F.len _ _ _ _ h
 show wpAny_call (LM (F.run X.A X.stack s H #[us,[]] (us++ds) (vs++dvs) Q E hr I.env0 (hb s us I.kIn hl) r2 h) λr s' hq=>?_)
 cases r with
 | error e=>exact hx J Y H s e s' I hq
 | ok fl=>
  cases fl with
  | ret u=>exact I.after hq
  | next=>exact Ip.elim hq
  | brk=>exact Ip.elim hq
  | cont=>exact Ip.elim hq
def xZ (F:FnOk X.prog X.w X.K X.mg X.base CX k f fd ps sp)(hr:Room k X.A)(hg:Gl X x)(hm:X.mg x=gV (.ref f))(hk:Iw X.K (.ref f)=true)(hb:Binds X.K fd ps ds)(hd:Vals dvs ds)(hx:mr CX X E)
  (ha:PA X (e::es) t) (hdb:(x==("__debug__" : Hc))=false:=by decide) (he:starEach (e::es) X.env=(false,eval e X.env)::starEach es X.env:=by rfl) (hpl:(backTo pos (starEach es X.env)).any (·.1)=false:=by rfl) :
  PE X (.Call (.Name x p) (e::es) [] pos) (uL sp dvs E t):=by
 intro J s Y H Q I h;show Kt (qR I hg hm ?_ hdb);show PySem.W.callWith_K (h₀:=X.base) I.ok.mod.kin hk (bm (ha pos J s Y H _ I h) λus s1 #[vs,H1,I1,r,q]=>#[I1.kIn,?_]) he hpl
 exact uM F hr hb hd hx I1 r q
def uN (F:FnOk X.prog X.w X.K X.mg X.base CX k f fd ps sp)(hr:Room k X.A)(hg:Gl X x)(hm:X.mg x=gV (.ref f))(hk:Iw X.K (.ref f)=true)(hb:Binds X.K fd ps ds)(hd:Vals dvs ds)(hx:mr CX X E)
  (hdb:(x==("__debug__" : Hc))=false:=by decide):PE X (.Call (.Name x p) [] [] pos) (uL sp dvs E Dg):=by
 intro J s Y H Q I h;show Kt (qR I hg hm ?_ hdb);exact PySem.W.callWith_K0 I.kIn hk (uM (us:=[]) F hr hb hd hx I .nil h)
end
structure FnScope (N P:Gy Hc)(sc:JU):Prop where
 kind:sc.kind=.function
 co:sc.isCoroutine=false
 gen:sc.isGenerator=false
 nd:N.Nodup
 pre:N.take P.length=P
 par:∀x∈P,sc.names.lookup x=gV .local\/sc.names.lookup x=gV .cell
 nofree:∀y∈sc.names,y.2≠.free
def lx {kindOf:Hc->GH Iz}{x:Hc}:∀ {binds:Gy (Hc×GC)} {m:Hc->GH GC},(∀v,(x,v)∉binds)->bindL kindOf binds m x=m x
 | [],_,_=>rfl
 | (n,v)::r,m,h=>by
  unfold bindL;rw[lx λw hw=>h w (HC _ hw)]
  split
  ·have:x≠n:=by rintro rfl; exact h v HU
   simp[this]
  ·rfl
def ly {kindOf:Hc->GH Iz}{x:Hc}:∀ {binds:Gy (Hc×GC)} {m:Hc->GH GC},(∀v,(x,v)∉binds)->bindC kindOf binds m x=m x
 | [],_,_=>rfl
 | (n,v)::r,m,h=>by
  unfold bindC;rw[ly λw hw=>h w (HC _ hw)]
  split
  ·rfl
  ·have:x≠n:=by rintro rfl; exact h v HU
   simp[this]
def lz {kindOf:Hc->GH Iz}{x:Hc}{v:GC}:∀ {P:Gy Hc} {vs:Gy GC} {i:GJ} {m:Hc->GH GC},P.Nodup->P[i]?=gV x->vs[i]?=gV v->kindOf x=gV .local->
  bindL kindOf (P.zip vs) m x=gV v
 | [],_,_,_,_,h,_,_=>by simp at h
 | _::_,[],_,_,_,_,h,_=>by simp at h
 | p::P,w::vs,0,m,nd,h1,h2,hk=>by
  simp at h1 h2; subst h1; subst h2
  change bindL kindOf ((p,w)::P.zip vs) m p=_;unfold bindL;rw[lx λv hv=>(Jy.mp nd).1 (LY hv).1,Hf hk]
  simp
 | p::P,w::vs,i+1,m,nd,h1,h2,hk=>by
  change bindL kindOf ((p,w)::P.zip vs) m x=_;unfold bindL;exact lz (i:=i) (Jy.mp nd).2 (by simpa using h1) (by simpa using h2) hk
def lA {kindOf:Hc->GH Iz}{x:Hc}{v:GC}:∀ {P:Gy Hc} {vs:Gy GC} {i:GJ} {m:Hc->GH GC},P.Nodup->P[i]?=gV x->vs[i]?=gV v->kindOf x≠gV .local->
  bindC kindOf (P.zip vs) m x=gV v
 | [],_,_,_,_,h,_,_=>by simp at h
 | _::_,[],_,_,_,_,h,_=>by simp at h
 | p::P,w::vs,0,m,nd,h1,h2,hk=>by
  simp at h1 h2; subst h1; subst h2
  change bindC kindOf ((p,w)::P.zip vs) m p=_;unfold bindC;rw[ly λv hv=>(Jy.mp nd).1 (LY hv).1,Hl hk]
  simp
 | p::P,w::vs,i+1,m,nd,h1,h2,hk=>by
  change bindC kindOf ((p,w)::P.zip vs) m x=_;unfold bindC;exact lA (i:=i) (Jy.mp nd).2 (by simpa using h1) (by simpa using h2) hk
abbrev fD (N:Gy Hc)(vs:Gy V):St:=vs.map gV++Hy (N.length - vs.length) td
abbrev pU (CX:uK)(P:Ht)(w:HD)(K:GZ)(mg:Hc->GH GC)(base:HP)(N:Gy Hc)(qual:Hc)(scope:JU)(f:GP)(cd:GC)(A:Hz)(outer:Gy MO)(s:GF)(H:Hp)(E:XK):Cx where
 prog:=P
 w:=w
 K:=K
 mg:=mg
 base:=base
 A:=A.deeper (envOfC qual scope s.heap.objs.size f cd)
 N:=N
 s₀:=s
 H₀:=H
 env:=envOfC qual scope s.heap.objs.size f cd
 outer:=outer
 stack:=envOfC qual scope s.heap.objs.size f cd::outer
 ex:=[]
 calm:=true
 fn:=λ_=>true
 pn:=[]
 xe:=λe s'=>wpAny (model P w) (A.deeper (envOfC qual scope s.heap.objs.size f cd)) (leaving (envOfC qual scope s.heap.objs.size f cd) e) (λ_ s''=>CX outer H s E e s'') (λe' s''=>CX outer H s E e' s'') s'
def nK {sc:JU}{n:GJ}{x:Hc}(h:sc.names.lookup x=gV .cell):∃c,(cellsFrom n sc.names []).lookup x=gV c:=by
 have q:=LN sc.names n [] (.inl h);exact HW.mp q
def sH {CX:uK}{P:Ht}{w:HD}{K:GZ}{mg:Hc->GH GC}{base:HP}{N ps:Gy Hc}{qual:Hc}{scope:JU}{f:GP}{cd:GC}{A:Hz}{outer:Gy MO}{s s1:GF}{H:Hp}{E:XK}{us:Gy GC}{vs:Gy V}
  (S:FnScope N ps scope) (hd:A.handled=td) (e0:Env0 P w K mg base A outer s H) (hl:vs.length=ps.length) (r:Vals vs us)
  (x:InCallC s s.heap.objs.size (bindL (envOfC qual scope s.heap.objs.size f cd).kindOf (ps.zip us) λ_=>td) (cellsFrom (s.heap.objs.size+1) scope.names []) (bindC (envOfC qual scope s.heap.objs.size f cd).kindOf (ps.zip us) λ_=>td) s1) :
  Inv (pU CX P w K mg base N qual scope f cd A outer s H E) [] (fD N vs) H s1:=by
 have hpl:ps.length<=N.length:=by have:=congrArg NO S.pre; rw[Hu]at this; omega
 obtain⟨h1,tk,rfl,hk⟩:=x.done;have noA:∀b:GP,b∉(pU CX P w K mg base N qual scope f cd A outer s H E).ex:=λb z=>absurd (show b∈([]:Gy GP)from z) (by simp)
 show#[#[e0.mod,S.kind,rfl,rfl,GY _,λy z c h1 h2=>?_,λy hy=>?_,λy c _ h=>?_,λ_=>hd,Around.frames_deeper e0.frames,.inr #[rfl,rfl],λb z=>absurd z (noA b),e0.bs,e0.bsz,λb _ _=>noA b,λb z=>absurd z (noA b),e0.funs,e0.frf],
  rfl,e0.bare,Un.kept hk,#[_,x.toInCall.ns,λi y v h1 h2 h3=>?_],λy c h=>#[_,x.cell y c h],e0.hok.fresh (GY _),λy c h=>?_,λp hp=>absurd (show p∈([]:Gy (GP×IJ))from hp) (by simp),e0.hok.kept hk,?_]
 ·exact name_of_addr x.apart (JO h1) (JO h2)
 ·have hy:scope.names.lookup y=gV .cell\/scope.names.lookup y=gV .free:=hy;rcases hy with hy|hy
  ·exact nK hy
  ·exact absurd rfl (S.nofree _ (JO hy))
 ·exact Kb (x.above y c (JO h))
 ·have hi:i < vs.length:=by
   unfold fD at h2
   by_cases hi:i < vs.length
   ·exact hi
   ·rw[Ii (by simpa using hi)]at h2
    rw[List.getElem?_replicate]at h2;split at h2 <;> cases h2
  have ha:vs[i]?=gV v:=by
   unfold fD at h2;rw[Hr (by simpa using hi),GM]at h2
   cases e:vs[i]? with
   | none=>rw[e]at h2; cases h2
   | some a=>rw[e]at h2; cases h2; rfl
  obtain⟨u,hu,rv⟩:=r.get ha;have hp:ps[i]?=gV y:=by
   rw[<- S.pre,Lx ∅]; exact h1
  have ndP:ps.Nodup:=by rw[<- S.pre]; exact S.nd.sublist (M9 _ _)
  show#[u,rv,?_];rcases S.par y (GV hp)with k|k
  ·exact .inl #[k,lz ndP hp hu k]
  ·obtain⟨c,e⟩:=nK (n:=s.heap.objs.size+1) k;show .inr #[.inl k,c,e,?_];have q:=x.cell y c e;rw[lA ndP hp hu (by change scope.names.lookup y≠_; rw[k]; decide)]at q
   exact q
 ·exact e0.hok.fresh (Kb (x.above y c (JO h)))
 ·unfold fD;change _=N.length;rw[GQ,Gz,L8];omega
def Di {CX:uK}{P:Ht}{w:HD}{K:GZ}{mg:Hc->GH GC}{base:HP}{k:GJ}{f:GP}{name qual:Hc}{params:Arguments}{body:Gy JN}{scope:JU}{dV kV doc pm cdv ct oc:GC}{an od:GH GP}
  {osl:HE (GH GC)} {N ps:Gy Hc} {sp:Sp} (lk:K.lookup f=gV #[oc,od,.func (IZ name qual params body scope dV kV doc pm an cdv ct),osl]) (hcd:JQ K cdv qual=true) (S:FnScope N ps scope)
  (len:∀vs H Q E,sp vs H Q E->vs.length=ps.length)
  (hbody:∀(A:Hz) (outer:Gy MO) (s:GF) (H:Hp) (vs:Gy V) (Q:VK) (E:XK),Room k (A.deeper (envOfC qual scope s.heap.objs.size f cdv))->sp vs H Q E->
   ∃t,PSs (pU CX P w K mg base N qual scope f cdv A outer s H E) body t/\t { nx:=λ_ H'=>Q .non H',rt:=Q } (fD N vs) H) :
  FnOk P w K mg base CX (k+1) f (IZ name qual params body scope dV kV doc pm an cdv ct) ps sp:=by
 show#[len,λA outer s H args us vs Q E hr e0 hb r hsp=>?_]
 have hl:=len _ _ _ _ hsp;have KX:K.In s.heap:=e0.mod.kin.keeps λb o e=>(e0.bs b o e).1
 have lim:s.heap.NoLimit:=e0.mod.nolimit.keeps λb o e=>(e0.bs b o e).1
 have hkind:∀y∈ps.zip us,scope.names.lookup y.1=gV .local\/(scope.names.lookup y.1=gV .cell/\((cellsFrom (s.heap.objs.size+1) scope.names []).lookup y.1).isSome=true):=λ#[n,v] hy=>by
  rcases S.par n (LY hy).1 with q|q
  ·exact .inl q
  ·exact .inr #[q,LN _ _ _ (.inl q)]
 show codeAny_call_function hr.depth (KX _ _ lk) rfl S.co S.gen rfl (PySem.W.codeRec_of KX hcd) (hb _ _ _ _ ?_);show wpAny_newFunctionEnv_cells S.kind hkind λenv he s1 x=>?_
 subst he;show#[lim.keeps x.toInCall.keep,codeAny_func ?_];obtain⟨t,ht,hq⟩:=hbody A outer s H vs Q E (hr.deeper _) hsp;have I:Inv (pU CX P w K mg base N qual scope f cdv A outer s H E) [] (fD N vs) H s1:=sH S hr.hd e0 hl r x;show IP (ht [] s1 (fD N vs) H _ I hq) (λfl s' hs=>?_) λe s' hs=>hs
 have fin:∀ {Y':St} {H':Hp} {v:V} {u:GC},Inv (pU CX P w K mg base N qual scope f cdv A outer s H E) [] Y' H' s'->RelV v u->Q v H'->CE outer P w H s Q u s':=
  λ{Y' H' v u} tv rv q=>#[v,H',tv.os,tv.bare,tv.base,tv.hok,rv,q]
 cases fl with
 | ret u=>
  obtain⟨v,Y',H',tv,rv,q⟩:=hs;exact fin tv rv q
 | next=>
  obtain⟨Y',H',tv,q⟩:=hs;exact fin (v:=V.non) (u:=HZ) tv rfl q
 | brk=>
  obtain⟨_,_,_,q⟩:=hs;exact Ip.elim q
 | cont=>
  obtain⟨_,_,_,q⟩:=hs;exact Ip.elim q
section
variable{X:Cx}{x:Hc}{p pos:Ju}{e:Hh}{es:Gy Hh}{t:TA}{id T:Ir}{r:Gy V->Hp->VK->Prop}
abbrev F5 (r:Gy V->Hp->VK->Prop)(t:TA):TE:=λY H Q=>t Y H λvs H1=>r vs H1 Q
def nL (hc:CallR X (.builtin id) r)(hg:Gl X x)(hm:X.mg x=td)(hv:bootBuiltins x=gV (.builtin id))(ha:PA X (e::es) t)(hn:x≠"__name__":=by decide)(hdb:(x==("__debug__" : Hc))=false:=by decide)
  (he:starEach (e::es) X.env=(false,eval e X.env)::starEach es X.env:=by rfl) (hpl:(backTo pos (starEach es X.env)).any (·.1)=false:=by rfl):PE X (.Call (.Name x p) (e::es) [] pos) (F5 r t):=by
 intro J s Y H Q I h;show Kt (iA I hg hm hv ?_ hn hdb);exact Nz (bm (ha pos J s Y H _ I h) λus s1 #[vs,H1,I1,r1,q1]=>hc J s1 Y H1 vs us Q I1 r1 q1) he hpl
def sI (hc:CallR X (.type T) r)(hg:Gl X x)(hm:X.mg x=td)(hv:bootBuiltins x=gV (.type T))(ha:PA X (e::es) t)(hn:x≠"__name__":=by decide)(hdb:(x==("__debug__" : Hc))=false:=by decide)
  (he:starEach (e::es) X.env=(false,eval e X.env)::starEach es X.env:=by rfl) (hpl:(backTo pos (starEach es X.env)).any (·.1)=false:=by rfl):PE X (.Call (.Name x p) (e::es) [] pos) (F5 r t):=by
 intro J s Y H Q I h;show Kt (iA I hg hm hv ?_ hn hdb);exact Jj (bm (ha pos J s Y H _ I h) λus s1 #[vs,H1,I1,r1,q1]=>hc J s1 Y H1 vs us Q I1 r1 q1) he hpl
end
end L2
namespace HT
open PySem PyProof.Rows
section
open PySem.SeqAt
open PySem.AutoSeq1 (wpAny_loadPart')
open PySem.MeetsSeq PySem.MeetsSeq2 PySem.MeetsSeq3
end
section
variable{prog:Ht}{w:HD}{A:Hz}{E:GC->GF->Prop}{s:GF}
def ya {t b:GP}{vs ws:Gy GC}{Q:GC->GF->Prop}(ht:M4 s.heap t vs.toArray)(hb:M4 s.heap b ws.toArray)(hv:vs≠[])
  (h1:ws=[]->Q (.ref t) s) (h2:ws≠[]->Q (.ref s.heap.objs.size) { s with heap:=s.heap.push { cls:=.type "tuple",data:=.seq (vs++ws).toArray } })
  (hsz:vs.length+ws.length<=sizeLine):wpAny (model prog w) A (binaryOp .Add (.ref t) (.ref b)) Q E s:=by
 obtain⟨⟨cls,dd,data,sl⟩,ho,hc,n,hd⟩:=id ht;obtain⟨⟨cls2,dd2,data2,sl2⟩,ho2,hc2,n2,hd2⟩:=id hb;simp only at hc hd hc2 hd2;subst hc hd hc2 hd2;have e:vs.toArray++ws.toArray=(vs++ws).toArray:=by simp
 by_cases hw:ws=[]
 ·exact Na #[_,ho,rfl] #[_,ho2,rfl] LC MF KF KC (Kn _ _)
   (tuple_addW1 t b vs.toArray ws.toArray n n2 dd dd2 sl sl2 (by simpa using hv) (by simp[hw])) #[ho,ho2,h1 hw]
 ·show Na #[_,ho,rfl] #[_,ho2,rfl] LC MF KF KC (Kn _ _)
   (tuple_addW2 t b vs.toArray ws.toArray n n2 dd dd2 sl sl2 (by simpa using hv) (by simpa using hw) (by rw[G6,G6]; exact hsz)) #[ho,ho2,?_]
  rw[e];exact h2 hw
abbrev ci (n d:GJ):GH G1->GJ
 | none=>d
 | some v=>if v < 0 then(v+(n:G1)).toNat else min v.toNat n
def jQ (n d:GJ):ci n d td=d:=rfl
def qU (n d k:GJ):ci n d (gV (k:G1))=min k n:=by
 show(if (k:G1) < 0 then((k:G1)+(n:G1)).toNat else min (k:G1).toNat n)=min k n
 rw[Hl ∅,G0]
def Bp (n d:GJ)(hd:d<=n)(o:GH G1):ci n d o<=n:=by
 cases o with
 | none=>exact hd
 | some v=>
  show(if v < 0 then(v+(n:G1)).toNat else min v.toNat n)<=n
  by_cases hv:v < 0
  ·rw[Hf hv]; omega
  ·rw[Hl hv]; exact Nat.min_le_right _ _
def qV (v:G1)(n d:GJ):(if v < 0 then max (v+(n:G1)) 0 else min v (n:G1))=((ci n d (gV v):GJ):G1):=by
 show(if v < 0 then max (v+(n:G1)) 0 else min v (n:G1))=(((if v < 0 then(v+(n:G1)).toNat else min v.toNat n):GJ):G1)
 by_cases hv:v < 0
 ·simp only[Hf hv]; omega
 ·simp only[Hl hv]; omega
def pV (lo hi:GH G1)(n:GJ):Kg lo hi 1 (n:G1)=(((ci n 0 lo:GJ):G1),((ci n n hi:GJ):G1)):=by
 have h1:¬ ((1:G1) < 0):=∅
 unfold Kg;simp only[h1,JD];show OS ?_ ?_
 ·cases lo with
  | none=>rfl
  | some v=>exact qV v n 0
 ·cases hi with
  | none=>rfl
  | some v=>exact qV v n n
def pW (i j:GJ):Jv (i:G1) (j:G1) 1=j - i:=by
 unfold Jv;have h1:(1:G1) > 0:=∅
 simp only[h1,JE,Int.ediv_one];split <;> omega
def jR {v:GC}{o:GH G1}{Q:GH G1->GF->Prop}(p:Lb v o)(h:Q o s):wpAny (model prog w) A (NT v) Q E s:=by
 cases p with
 | none=>exact N4 h
 | int i t=>exact slicePart_int h
def eH {sl:GP}{vl vu:GC}{lo hi:GH G1}{n:GJ}{Q:G1×G1×GJ->GF->Prop}(hs:s.heap.IsSliceOf sl vl vu .none)(pl:Lb vl lo)(pu:Lb vu hi)
  (h:Q (((ci n 0 lo:GJ):G1),1,ci n n hi - ci n 0 lo) s):wpAny (model prog w) A (Lc (.ref sl) (pure (n:G1))) Q E s:=by
 obtain⟨os,hos,hcs,hds⟩:=id hs;unfold Lc Oj;show GB (GB (Jb hos hds (x:=vl) rfl (GB (Jb hos hds (x:=vu) rfl (GB (Jb hos hds (x:=.none) rfl (GU ?_)))))));show GB (N4 ?_);change wpAny _ _ (if ((1:G1)==0)=true then _ else _) _ _ s
 rw[Hl #v[]]
 show GB (jR pl (GB (jR pu (GB (GU ?_)))));change wpAny _ _ (match Kg lo hi 1 (n:G1)with|(lo,hi)=>pure (lo,(1:G1),Jv lo hi 1)) _ _ s
 rw[pV lo hi n];change wpAny _ _ (pure (((ci n 0 lo:GJ):G1),(1:G1),Jv ((ci n 0 lo:GJ):G1) ((ci n n hi:GJ):G1) 1)) _ _ s;rw[pW];exact GU h
def uO (xs:HE GC)(i k:GJ):((GL k).filterMap λ(m:GJ)=>xs[((i:G1)+(m:G1)*1).toNat]?).toArray=((xs.toList.drop i).take k).toArray:=by
 have e:(λ(m:GJ)=>xs[((i:G1)+(m:G1)*1).toNat]?)=λm=>xs[i+m]?:=by
  funext m
  have:((i:G1)+(m:G1)*1).toNat=i+m:=∅
  rw[this]
 rw[e];have:=pick_run xs i k;rw[List.filterMap_map]at this;have e2:((λx=>xs[x]?)∘λx=>i+x)=λm=>xs[i+m]?:=rfl
 rw[e2]at this;rw[this]
def gY {t sl:GP}{items:HE GC}{vl vu:GC}{lo hi:GH G1}{Q:GC->GF->Prop}(ht:M4 s.heap t items)(hs:s.heap.IsSliceOf sl vl vu .none)(pl:Lb vl lo)(pu:Lb vu hi)
  (hw:¬ (ci items.size 0 lo=0/\ci items.size items.size hi=items.size))
  (h:Q (.ref s.heap.objs.size) { s with heap:=s.heap.push { cls:=.type "tuple",data:=.seq ((items.toList.drop (ci items.size 0 lo)).take (ci items.size items.size hi - ci items.size 0 lo)).toArray } })
  (hsz:items.size<=sizeLine):wpAny (model prog w) A (getItem (.ref t) (.ref sl)) Q E s:=by
 have htake:sizeOk (.seq ((items.toList.drop (ci items.size 0 lo)).take (ci items.size items.size hi - ci items.size 0 lo)).toArray):=by
  show((items.toList.drop (ci items.size 0 lo)).take (ci items.size items.size hi - ci items.size 0 lo)).toArray.size<=sizeLine;rw[G6,Hu,JR,Hn];omega
 have hj:ci items.size items.size hi<=items.size:=Bp _ _ (GY _) hi;obtain⟨os,hos,hcs,hds⟩:=id hs;have hTs:s.TypeIs (.ref sl) "slice":=#[os,hos,hcs];unfold getItem
 try with_reducible show IC ?_
 first|refine GB (GU ?_)|skip
 show GB (Nb ht.typeIs #v[] ?_)
 show GB (Ik (name:=Jk "__getitem__") ht.typeIs IV
  (Ix IV ht.typeIs Mx ?_ (MT _ _)))
 change wpAny _ _ (J8 (.ref t) >>= _) _ _ s;show GB (Op ht ?_);show GB (K4 hTs ?_);rw[Hf #v[]]
 show GB (eH hs pl pu ?_);have hno:¬ ((((ci items.size 0 lo:GJ):G1)==0&&(1:G1)==1&&(ci items.size items.size hi - ci items.size 0 lo)==items.size)=true):=by
  intro q;rw[GK,GK]at q;have q1:((ci items.size 0 lo:GJ):G1)=0:=eq_of_beq q.1.1;have q2:ci items.size items.size hi - ci items.size 0 lo=items.size:=eq_of_beq q.2;exact hw #[∅,∅]
 change wpAny _ _ (if (((ci items.size 0 lo:GJ):G1)==0&&(1:G1)==1&&(ci items.size items.size hi - ci items.size 0 lo)==items.size)=true then _ else _) _ _ s
 rw[Hl hno,uO]
 first
  | exact GB (m:=IK _) (HQ (GU #[_,rfl,GU h]) htake)
  | exact GB (m:=IK _) (HQ (GB (GU (GU #[_,rfl,GU h]))) htake)
  | exact GB (GB (m:=IK _) (HQ (GU (GU #[_,rfl,GU h])) htake))
  | exact GB (GB (m:=IK _) (HQ (GU #[_,rfl,GU h]) htake))
end
end HT
namespace L2
open PySem PySem.Spec PyProof.Rows
noncomputable abbrev TO:=St->Hp->(GH G1->Hp->Prop)->Prop
abbrev PO (X:Cx)(e:GH Hh)(t:TO):Prop:=
 ∀(J:Gy (GP×IJ)) (s:GF) (Y:St) (H:Hp) (Q:GH G1->Hp->Prop),Inv X J Y H s->t Y H Q->
  wpAny (model X.prog X.w) X.A (evalPart e X.env) (λu s'=>∃o H',Inv X J Y H' s'/\Lb u o/\Q o H') X.xe s
abbrev yb:TO:=λ_ H Q=>Q td H
abbrev Dj (t:TE):TO:=λY H Q=>t Y H λx H1=>∃i,x=.int i/\Q (gV i) H1
section
variable{X:Cx}{e:Hh}{te:TE}{lo hi:GH Hh}{tl th:TO}{pos p2:Ju}
def yc:PO X td yb:=by
 intro J s Y H Q I h;rw[Oq];exact GU #[td,H,I,.none,h]
def yd (h:PE X e te):PO X (gV e) (Dj te):=by
 intro J s Y H Q I hw;rw[evalPart_some];show bm (h J s Y H _ I hw) λu s1 #[x,H1,I1,r1,q1]=>?_
 obtain⟨i,rfl,q⟩:=q1;obtain⟨t,rfl⟩:=r1;exact#[gV i,H1,I1,.int i t,q]
abbrev Dk (X:Cx)(r:V->GH G1->GH G1->Hp->VK->Prop):Prop:=
 ∀(J:Gy (GP×IJ)) (s:GF) (Y:St) (H:Hp) (x:V) (v vl vu:GC) (lo hi:GH G1) (sl:GP) (Q:VK),Inv X J Y H s->RelV x v->s.heap.IsSliceOf sl vl vu .none->Lb vl lo->Lb vu hi->r x lo hi H Q->
  ∃T id,typeLookup (.type T) "__getitem__" = pure (gV (.builtin id))/\s.TypeIs v T/\wpAny (model X.prog X.w) X.A (getItem v (.ref sl)) (EP X J Y Q) X.xe s
abbrev Gn (r:V->GH G1->GH G1->Hp->VK->Prop)(te:TE)(tl th:TO):TE:=λY H Q=>te Y H λx H1=>tl Y H1 λl H2=>th Y H2 λu H3=>r x l u H3 Q
def uP {r:V->GH G1->GH G1->Hp->VK->Prop}(hr:Dk X r)(he:PE X e te)(hl:PO X lo tl)(hu:PO X hi th):PE X (.Subscript e (.Slice lo hi td p2) pos) (Gn r te tl th):=by
 intro J s Y H Q I h;show Subscript_ (bm (he J s Y H _ I h) λv s1 #[x,H1,I1,r1,q1]=>?_)
 show wpAny_Slice (bm (hl J s1 Y H1 _ I1 q1) λvl s2 #[l,H2,I2,pl,q2]=>bm (hu J s2 Y H2 _ I2 q2) λvu s3 #[u,H3,I3,pu,q3]=>?_)
 rw[Oq];show GU ?_;have I4:Inv X J Y H3 { s3 with heap:=s3.heap.push { cls:=.type "slice",data:=.fields [vl,vu,.none].toArray } }:=I3.kept (t':=s3.toks) λb ob q=>GN _ q
 obtain⟨T,id,hT,ht,hg⟩:=hr J { s3 with heap:=s3.heap.push { cls:=.type "slice",data:=.fields [vl,vu,.none].toArray } } Y H3 x v vl vu l u s3.heap.objs.size Q I4 r1 (O9 ..) pl pu q3
 change wpAny (model X.prog X.w) X.A (subscriptTail e (.Slice lo hi td p2) v (.ref s3.heap.objs.size)) (EP X J Y Q) X.xe { s3 with heap:=s3.heap.push { cls:=.type "slice",data:=.fields [vl,vu,.none].toArray } }
 exact tail_any (ops:=[.ref s3.heap.objs.size,v]) ht hT hg (by with_unfolding_all rfl)
abbrev jS (xs:Gy V)(lo hi:GH G1):Gy V:=(xs.drop (HT.ci xs.length 0 lo)).take (HT.ci xs.length xs.length hi - HT.ci xs.length 0 lo)
def jd (xs:Gy V)(lo hi:GH G1):(jS xs lo hi).length<=xs.length:=by
 unfold jS;rw[Hu,JR];omega
abbrev Ff (K:GZ):V->GH G1->GH G1->Hp->VK->Prop:=λx lo hi H Q=>∃a xs,x=.ref a/\SqT K H a xs/\
 ¬ (HT.ci xs.length 0 lo=0/\HT.ci xs.length xs.length hi=xs.length)/\∀p,H p=td->Q (.ref p) (bH H p (.tup (jS xs lo hi)))
def Bq:Dk X (Ff X.K):=by
 intro J s Y H x v vl vu lo hi sl Q I rx hs pl pu h;obtain⟨a,xs,rfl,hx,hw,q⟩:=h;cases rx;obtain⟨its,r,ht,hz⟩:=I.tuple hx;have hlen:its.toArray.size=xs.length:=by rw[G6]; exact r.length.symm
 show#["tuple",_,PyProof.Rows.slot_tuple_getitem.lookup,ht.typeIs,?_];show HT.gY ht hs pl pu (by rw[hlen]; exact hw) ?_ (by rw[hlen]; exact hz)
 rw[hlen];show#[.ref s.heap.objs.size,_,I.laid (t':=s.toks) (o:=.tup (jS xs lo hi)) (λb ob q=>GN _ q) (GY _) ?_,rfl,q _ (I.hok.fresh (GY _))]
 exact#[HB (jd xs lo hi) hz,_,(r.drop (HT.ci xs.length 0 lo)).take (HT.ci xs.length xs.length hi - HT.ci xs.length 0 lo),Nx _ _]
def Vals.nil_iff {xs:Gy V}{us:Gy GC}(r:Vals xs us):us=[]↔xs=[]:=by
 cases r with
 | nil=>simp
 | cons _ _=>simp
end
abbrev qW (n:GJ)(i:G1):GH GJ:=if 0<=i then(if i < n then gV i.toNat else td)else if -(n:G1)<=i then gV (i+n).toNat else td
abbrev nM {α:Type}(xs:Gy α)(i:G1):GH α:=(qW xs.length i).bind λj=>xs[j]?
def qX {n:GJ}{i:G1}{j:GJ}(h:qW n i=gV j):seqIndex? i n=gV j/\j < n/\-(n:G1)<=i/\i < n:=by
 unfold qW at h
 by_cases h0:0<=i
 ·rw[Hf h0]at h
  by_cases h1:i < n
  ·rw[Hf h1]at h;have e:i.toNat=j:=HV h;exact#[by rw[NP h0 h1,e],∅,∅,h1]
  ·rw[Hl h1]at h; cases h
 ·rw[Hl h0]at h
  by_cases h1 : -(n:G1)<=i
  ·rw[Hf h1]at h;have e:(i+n).toNat=j:=HV h;exact#[by rw[Nc ∅ h1,e],∅,h1,∅]
  ·rw[Hl h1]at h; cases h
def mv {α:Type}{xs:Gy α}{i:G1}{v:α}(h:nM xs i=gV v):∃j,seqIndex? i xs.length=gV j/\xs[j]?=gV v/\j < xs.length/\-(xs.length:G1)<=i/\i < xs.length:=by
 unfold nM at h;cases e:qW xs.length i with
 | none=>rw[e]at h; cases h
 | some j=>
  rw[e]at h;obtain⟨h1,h2,h3,h4⟩:=qX e;exact#[j,h1,h,h2,h3,h4]
def atI_nat {α:Type}{xs:Gy α}{j:GJ}{v:α}(h:xs[j]?=gV v):nM xs (j:G1)=gV v:=by
 have hj:j < xs.length:=(G9.mp h).1;have e:qW xs.length (j:G1)=gV j:=by
  unfold qW;rw[Hf ∅,Hf ∅]; simp
 unfold nM; rw[e]; exact h
abbrev mw (b:Hh):Prop:=∀o i,subscripted b false o i=operate [o,i] (getItem o i)
abbrev IxR (X:Cx)(r:R2):Prop:=
 ∀(value slice:Hh) (J:Gy (GP×IJ)) (s:GF) (Y:St) (H:Hp) (x y:V) (v u:GC) (Q:VK),Inv X J Y H s->RelV x v->RelV y u->r x y H Q->
  subscripted slice false v u=operate [v,u] (getItem v u)->wpAny (model X.prog X.w) X.A (subscriptTail value slice v u) (EP X J Y Q) X.xe s
abbrev MtR (X:Cx)(id:Ir)(r:V->Gy V->Hp->VK->Prop):Prop:=
 ∀(J:Gy (GP×IJ)) (s:GF) (Y:St) (H:Hp) (x:V) (xs:Gy V) (v:GC) (us:Gy GC) (Q:VK),Inv X J Y H s->RelV x v->Vals xs us->r x xs H Q->
  wpAny (model X.prog X.w) X.A (call (.builtin id) (v::us)) (EP X J Y Q) X.xe s
section
variable{X:Cx}{a b:Hh}{ta tb:TE}{pos:Ju}
def Dl {r:R2}(hr:IxR X r)(ha:PE X a ta)(hb:PE X b tb)(hs:mw b):PE X (.Subscript a b pos) (EF r ta tb):=by
 intro J s Y H Q I h;exact Subscript_ (Bd ha hb I h λv u s2 x y H2 I2 rx ry q=>hr a b J s2 Y H2 x y v u Q I2 rx ry q (hs _ _))
abbrev Fg (K:GZ):R2:=λx y H Q=>∃p xs i v,x=.ref p/\y=.int i/\SqL K H p xs/\nM xs i=gV v/\Q v H
abbrev Fh (K:GZ):R2:=λx y H Q=>∃p xs i v,x=.ref p/\y=.int i/\SqT K H p xs/\nM xs i=gV v/\Q v H
abbrev Fi:R2:=λx y H Q=>∃z i c,x=.str z/\y=.int i/\z.length<=sizeLine/\nM z.cps.toList i=gV c/\Q (.str #[[c].toArray]) H
def ye:IxR X (Fg X.K):=by
 intro value slice J s Y H x y v u Q I rx ry h hs;obtain⟨p,xs,i,z,rfl,rfl,hq,he,q⟩:=h;cases rx;obtain⟨t,rfl⟩:=ry;obtain⟨its,r,pl,hz⟩:=I.list hq;obtain⟨j,h1,h2,h3,h4,h5⟩:=mv he;obtain⟨w,ew,rw'⟩:=r.get h2;have hl:=r.length;have hn:=iD;have fin:EP X J Y Q w s:=#[z,H,I,rw',q]
 by_cases h0:0<=i
 ·have hj:i.toNat=j:=by
   rw[NP h0 h5]at h1;exact HV h1
  exact item_listR pl.isList h0 ∅ (by rw[hj]; simpa using ew) fin hs
 ·have hj:(i+(its.toArray.size:G1)).toNat=j:=by
   rw[Nc ∅ h4]at h1
   rw[G6,<- hl];exact HV h1
  exact KG (x:=w) pl.isList.typeIs slot_list_getitem.lookup
   (wpAny_getItem_list_neg (Q:=λr s'=>r=w/\EP X J Y Q r s') pl.isList ∅ (by rw[G6] <;> omega) ∅ (by rw[hj]; simpa using ew) #[rfl,fin]) hs
def Br:IxR X (Fh X.K):=by
 intro value slice J s Y H x y v u Q I rx ry h hs;obtain⟨p,xs,i,z,rfl,rfl,hq,he,q⟩:=h;cases rx;obtain⟨t,rfl⟩:=ry;obtain⟨its,r,pl,hz⟩:=I.tuple hq;obtain⟨j,h1,h2,h3,h4,h5⟩:=mv he;obtain⟨w,ew,rw'⟩:=r.get h2;have hl:=r.length;have hn:=iD;have fin:EP X J Y Q w s:=#[z,H,I,rw',q];exact KG (x:=w) pl.typeIs slot_tuple_getitem.lookup
  (getItem_tuple (j:=j) (Q:=λr s'=>r=w/\EP X J Y Q r s') pl ∅ ∅ (by rw[G6,<- hl]; exact h1) (by simpa using ew) #[rfl,fin]) hs
def Bs:IxR X Fi:=by
 intro value slice J s Y H x y v u Q I rx ry h hs;obtain⟨z,i,c,rfl,rfl,hz,he,q⟩:=h;obtain⟨t,rfl⟩:=rx;obtain⟨t',rfl⟩:=ry;obtain⟨j,h1,h2,h3,h4,h5⟩:=mv he;have hl:z.cps.toList.length=z.length:=by simp[Str.length]
 rw[hl]at h1 h4 h5;have hn:=iD;exact tail_any (typeIs_str s z t) slot_str_getitem.lookup (getItem_str (c:=c) (by
  have e1:decide (i < -(2 ^ 63:G1))=false:=Hs ∅
  have e2:decide (i>=2 ^ 63)=false:=Hs ∅
  rw[e1,e2,Os]) (by rw[h1]; simpa using h2) #[.str #[[c].toArray],H,I.tok _,#[_,rfl],q]) hs
def pX (its:Gy GC)(n j:GJ)(u:GC):IA (·.setIfInBounds j u) { cls:=.type "list",data:=.seq its.toArray n }={ cls:=.type "list",data:=.seq (its.set j u).toArray n }:=by
 simp[IA]
def Inv.lst {J:Gy (GP×IJ)}{Y:St}{H:Hp}{s:GF}{p:GP}{xs:Gy V}(I:Inv X J Y H s)(h:H p=gV (.lst xs)) :
  ∃(its:Gy GC) (n:GJ),Vals xs its/\s.heap.get? p=gV { cls:=.type "list",data:=.seq its.toArray n }/\xs.length<=sizeLine:=by
 obtain⟨z,its,n,r,e⟩:=I.hok p _ h;exact#[its,n,r,e,z]
def Inv.lstUpd {J:Gy (GP×IJ)}{Y:St}{H:Hp}{s:GF}{p:GP}{xs ys:Gy V}{its its':Gy GC}{n n':GJ}{f:IJ->IJ}(I:Inv X J Y H s)(h:H p=gV (.lst xs))
  (ho:s.heap.get? p=gV { cls:=.type "list",data:=.seq its.toArray n }) (hf:f { cls:=.type "list",data:=.seq its.toArray n }={ cls:=.type "list",data:=.seq its'.toArray n' }) (r:Vals ys its') (hz:ys.length<=sizeLine) (t:GJ) :
  Inv X J Y (bH H p (.lst ys)) { s with heap:=s.heap.update p f,toks:=t }:=by
 have e:(s.heap.update p f).get? p=gV { cls:=.type "list",data:=.seq its'.toArray n' }:=by
  rw[Jt f ho (by rw[hf] <;> rfl),hf]
 show I.write (x:=p) (e:=p) (by rw[h]; trivial) (.inl rfl) (λb u hb q=>(Ic _ _ (Ne.symm hb)).trans q) #[_,e] ?_
 exact#[hz,its',n',r,e]
abbrev Dm:V->V->V->Hp->(Hp->Prop)->Prop:=λo i v H Q=>∃p xs k j,o=.ref p/\i=.int k/\H p=gV (.lst xs)/\qW xs.length k=gV j/\Q (bH H p (.lst (xs.set j v)))
def uQ:AY X Dm:=by
 intro J s Y H o i v ov iv u Q I ro ri rv h;obtain⟨p,xs,k,j,rfl,rfl,hp,hj,q⟩:=h;cases ro;obtain⟨t,rfl⟩:=ri;obtain⟨its,n,r,ho,hz⟩:=I.lst hp;obtain⟨h1,h2,h3,h4⟩:=qX hj;have hl:=r.length;have hn:=iD;have I':Inv X J Y (bH H p (.lst (xs.set j v))) { s with heap:=s.heap.update p (IA (·.setIfInBounds j u)) }:=
  I.lstUpd hp ho (pX its n j u) (r.set rv j) (by rw[NU]; exact hz) s.toks
 by_cases h0:0<=k
 ·have hk:k.toNat=j:=by
   rw[NP h0 h4]at h1;exact HV h1
  exact PySem.W.ki_setAt ho h0 ∅ (by rw[G6,<- hl]; exact h4) (by rw[hk]; exact#[_,I',q])
 ·have hk:(k+(its.toArray.size:G1)).toNat=j:=by
   rw[Nc ∅ h3]at h1
   rw[G6,<- hl];exact HV h1
  exact PySem.W.ki_setBack ho ∅ (by rw[G6,<- hl]; exact h3) ∅ (by rw[hk]; exact#[_,I',q])
def mx (lo hi:GH G1)(n:GJ):(sliceBounds lo hi td n).1=((HT.ci n 0 lo:GJ):G1)/\(sliceBounds lo hi td n).2.1=((HT.ci n n hi:GJ):G1)/\(sliceBounds lo hi td n).2.2=1:=by
 show#[?_,?_,rfl]
 ·cases lo with
  | none=>simp[sliceBounds,HT.ci]
  | some i=>
   simp only[sliceBounds,HT.ci,NA,show(1:G1) > 0 by decide,JE]
   by_cases h:i < 0
   ·simp only[h,JE] <;> omega
   ·simp only[h,JD] <;> omega
 ·cases hi with
  | none=>simp[sliceBounds,HT.ci]
  | some i=>
   simp only[sliceBounds,HT.ci,NA,show(1:G1) > 0 by decide,JE]
   by_cases h:i < 0
   ·simp only[h,JE] <;> omega
   ·simp only[h,JD] <;> omega
def kZ (its:Gy GC)(lo hi:GH G1):slicePick its.toArray lo hi td=((its.drop (HT.ci its.length 0 lo)).take (HT.ci its.length its.length hi - HT.ci its.length 0 lo)).toArray:=by
 obtain⟨h1,h2,h3⟩:=mx lo hi its.toArray.size;unfold slicePick;rw[h1,h2,h3];simp only[sliceRange_one,pick_run,G6] <;> rfl
abbrev Fj (K:GZ):V->GH G1->GH G1->Hp->VK->Prop:=λx lo hi H Q=>∃a xs,x=.ref a/\SqL K H a xs/\∀p,H p=td->Q (.ref p) (bH H p (.lst (jS xs lo hi)))
def yf:Dk X (Fj X.K):=by
 intro J s Y H x v vl vu lo hi sl Q I rx hs pl pu h;obtain⟨a,xs,rfl,hx,q⟩:=h;cases rx;obtain⟨its,r,ht,hz⟩:=I.list hx;have hlen:=r.length;show#["list",_,slot_list_getitem.lookup,ht.isList.typeIs,?_];show wpAny_getItem_list_slice ht.isList hs pl pu .none (by simp) ?_ (by rw[G6] <;> omega)
 rw[kZ,<- hlen];show#[.ref s.heap.objs.size,_,I.laid (t':=s.toks) (o:=.lst (jS xs lo hi)) (λb ob q=>GN _ q) (GY _) ?_,rfl,q _ (I.hok.fresh (GY _))]
 exact#[HB (jd xs lo hi) hz,_,0,(r.drop (HT.ci xs.length 0 lo)).take (HT.ci xs.length xs.length hi - HT.ci xs.length 0 lo),Hb _ rfl]
abbrev gC:V->Hi
 | .non=>true
 | .bl _=>true
 | .int _=>true
 | .str _=>true
 | _=>false
abbrev yg:V->V->Hi
 | .non,.non=>true
 | .bl a,.bl b=>a==b
 | .bl a,.int b=>(if a then 1 else 0)==b
 | .int a,.bl b=>a==(if b then 1 else 0)
 | .int a,.int b=>a==b
 | .str a,.str b=>a==b
 | _,_=>false
def Bt {A:Hz}{s:GF}{y x:V}{u v:GC}(ry:RelV y u)(rx:RelV x v)(fy:gC y=true)(fx:gC x=true):KR A s u v (yg y x):=by
 cases y with
 | non=>
  cases ry;cases x with
  | non=>cases rx; exact Pq _
  | bl b=>cases rx; exact OT b
  | int b=>obtain⟨t,rfl⟩:=rx; exact O1 b t
  | str b=>obtain⟨t,rfl⟩:=rx; exact O2 b t
  | _=>exact absurd (show false=true from fx) He
 | bl a=>
  cases ry;cases x with
  | non=>cases rx; exact OU a
  | bl b=>cases rx; exact OV a b
  | int b=>obtain⟨t,rfl⟩:=rx; exact O3 a b t
  | str b=>obtain⟨t,rfl⟩:=rx; exact O4 a b t
  | _=>exact absurd (show false=true from fx) He
 | int a=>
  obtain⟨t',rfl⟩:=ry;cases x with
  | non=>cases rx; exact O5 a t'
  | bl b=>cases rx; exact O6 a t' b
  | int b=>obtain⟨t,rfl⟩:=rx; exact Pa a t' b t
  | str b=>obtain⟨t,rfl⟩:=rx; exact ML a t' b t
  | _=>exact absurd (show false=true from fx) He
 | str a=>
  obtain⟨t',rfl⟩:=ry;cases x with
  | non=>cases rx; exact O7 a t'
  | bl b=>cases rx; exact O8 a t' b
  | int b=>obtain⟨t,rfl⟩:=rx; exact MM a t' b t
  | str b=>obtain⟨t,rfl⟩:=rx; exact Pb a t' b t
  | _=>exact absurd (show false=true from fx) He
 | _=>exact absurd (show false=true from fy) He
abbrev nG (x:V)(u:GC):Hi:=match u with
 | .none=>yg .non x
 | .bool b=>yg (.bl b) x
 | .int i _=>yg (.int i) x
 | .str z _=>yg (.str z) x
 | _=>false
def pY {x y:V}{u:GC}(r:RelV y u)(f:gC y=true):nG x u=yg y x:=by
 cases y with
 | non=>cases r; rfl
 | bl b=>cases r; rfl
 | int i=>obtain⟨t,rfl⟩:=r; rfl
 | str z=>obtain⟨t,rfl⟩:=r; rfl
 | _=>exact absurd (show false=true from f) He
def gZ {x:V}:∀ {xs:Gy V} {us:Gy GC},Vals xs us->xs.all gC=true->us.any (nG x)=xs.any λy=>yg y x
 | _,_,.nil,_=>rfl
 | y::xs,u::us,.cons r t,f=>by
  rw[HN,GK]at f;rw[Jm,Jm,pY r f.1,gZ t f.2]
def dN {A:Hz}{s:GF}{x:V}{v:GC}(rx:RelV x v)(fx:gC x=true):∀ {xs:Gy V} {us:Gy GC},Vals xs us->xs.all gC=true->∀u∈us,KR A s u v (nG x u)
 | _,_,.nil,_=>λu hu=>by cases hu
 | y::xs,u::us,.cons r t,f=>λu' hu=>by
  rw[HN,GK]at f;rcases Hj.mp hu with rfl|hu
  ·rw[pY r f.1]; exact Bt r rx f.1 fx
  ·exact dN rx fx t f.2 u' hu
abbrev EH (x:V)(xs:Gy V):Hi:=xs.any λy=>yg y x
abbrev Fk (K:GZ)(neg:Hi):R2:=λx y H Q=>∃p xs,y=.ref p/\(SqL K H p xs\/SqT K H p xs)/\gC x=true/\xs.all gC=true/\Q (.bl (if neg then !EH x xs else EH x xs)) H
def sJ:OpR X (compareOp .In) (Fk X.K false):=by
 intro J s Y H x y v u Q I rx ry h;obtain⟨p,xs,rfl,hq,fx,fs,q⟩:=h;cases ry;rcases hq with hq|hq
 ·obtain⟨its,r,pl,hz⟩:=I.list hq;show NV (nG x) pl.isList (λw hw=>dN rx fx r fs w (by simpa using hw)) #[.bl _,H,I,rfl,?_]
  rw[show its.toArray.any (nG x)=its.any (nG x) by simp,gZ r fs]
  exact q
 ·obtain⟨its,r,pl,hz⟩:=I.tuple hq;show NB (nG x) pl (λw hw=>dN rx fx r fs w (by simpa using hw)) #[.bl _,H,I,rfl,?_]
  rw[show its.toArray.any (nG x)=its.any (nG x) by simp,gZ r fs]
  exact q
def my:OpR X (compareOp .NotIn) (Fk X.K true):=by
 intro J s Y H x y v u Q I rx ry h;obtain⟨p,xs,rfl,hq,fx,fs,q⟩:=h;cases ry;rcases hq with hq|hq
 ·obtain⟨its,r,pl,hz⟩:=I.list hq;show MU (nG x) pl.isList (λw hw=>dN rx fx r fs w (by simpa using hw)) #[.bl _,H,I,rfl,?_]
  rw[show its.toArray.any (nG x)=its.any (nG x) by simp,gZ r fs]
  exact q
 ·obtain⟨its,r,pl,hz⟩:=I.tuple hq;show SeqAt.notIn_tupleAt (nG x) pl (λw hw=>dN rx fx r fs w (by simpa using hw)) #[.bl _,H,I,rfl,?_]
  rw[show its.toArray.any (nG x)=its.any (nG x) by simp,gZ r fs]
  exact q
def mz:CallR X (.type "list") (λxs H Q=>∃p ys,xs=[.ref p]/\(SqL X.K H p ys\/SqT X.K H p ys)/\∀l,H l=td->Q (.ref l) (bH H l (.lst ys))):=by
 intro J s Y H xs us Q I r h;obtain⟨p,ys,rfl,hq,q⟩:=h;obtain⟨u,rfl,rx⟩:=lu r;cases rx;have fin:∀(its:Gy GC),Vals ys its->ys.length<=sizeLine->∀(h':HP) (c':GJ),(∀b o',s.heap.get? b=gV o'->h'.get? b=gV o')->
   h'.get? s.heap.objs.size=gV { cls:=.type "list",dict:=td,data:=.seq its.toArray c',slots:=#[] }->EP X J Y Q (.ref s.heap.objs.size) { s with heap:=h' }:=λits r' hz h' c' kp e=>
  #[.ref s.heap.objs.size,_,I.laid (t':=s.toks) kp (GY _) (show ObjOk X.prog X.w _ h' _ (.lst ys)from#[hz,its,c',r',e]),rfl,q _ (I.hok.fresh (GY _))]
 rcases hq with hq|hq
 ·obtain⟨its,r',pl,hz⟩:=I.list hq;have hlen:=r'.length;obtain⟨o,ho,hc,n,hd⟩:=pl.isList;exact Ot p (.inl rfl) ho hc hd (λh' c' kp e=>fin its r' hz h' c' kp e) (by simp only[G6] <;> omega)
 ·obtain⟨its,r',pl,hz⟩:=I.tuple hq;have hlen:=r'.length;obtain⟨o,ho,hc,n,hd⟩:=pl;exact Ot p (.inr rfl) ho hc hd (λh' c' kp e=>fin its r' hz h' c' kp e) (by simp only[G6] <;> omega)
def gD:CallR X (.type "tuple") (λxs H Q=>∃p ys,xs=[.ref p]/\((SqL X.K H p ys/\∀l,H l=td->Q (.ref l) (bH H l (.tup ys)))\/(SqT X.K H p ys/\Q (.ref p) H))):=by
 intro J s Y H xs us Q I r h;obtain⟨p,ys,rfl,h⟩:=h;obtain⟨u,rfl,rx⟩:=lu r;cases rx;rcases h with⟨hq,q⟩|⟨hq,q⟩
 ·obtain⟨its,r',pl,hz⟩:=I.list hq;have hlen:=r'.length;show call_tuple_list pl.isList (λh' kp=>?_) (by simp only[G6] <;> omega)
  have I1:Inv X J Y H { s with heap:=h' }:=I.kept (t':=s.toks) kp
  have I2:Inv X J Y (bH H h'.objs.size (.tup ys)) { s with heap:=h'.push { cls:=.type "tuple",data:=.seq its.toArray } }:=
   I1.laid (t':=s.toks) (λb o e=>GN _ e) (GY _) (show ObjOk X.prog X.w _ _ _ (.tup ys)from#[hz,its,r',Nx _ _])
  exact#[.ref h'.objs.size,_,I2,rfl,q _ (I1.hok.fresh (GY _))]
 ·obtain⟨its,r',pl,hz⟩:=I.tuple hq;exact call_tuple_same pl #[.ref p,H,I,rfl,q]
abbrev Fn (K:GZ)(T:Ir)(x:V)(H:Hp):Prop:=match x with
 | .str _=>T = "str"
 | .int _=>T = "int"
 | .ref p=>(T = "list"/\∃xs,SqL K H p xs)\/(T = "tuple"/\∃o,K.lookup p=gV o/\o.cls=.type "tuple"/\o.dict=td)\/
   (T = "dict"/\((∃U,H p=gV (.dK U))\/∃U,H p=gV (.dT U)))\/(T = "set"/\∃S n,H p=gV (.set S n))
 | _=>Ip
def uR {J:Gy (GP×IJ)}{Y:St}{H:Hp}{s:GF}{T:Ir}{x:V}{v:GC}(I:Inv X J Y H s)(r:RelV x v)(ty:Fn X.K T x H) :
  s.TypeIs v T/\∀a,v=.ref a->∃ob,s.heap.get? a=gV ob/\ob.dict=td:=by
 cases x with
 | str z=>
  obtain⟨t,rfl⟩:=r;cases(show T = "str" from ty)
  exact#[typeIs_str s z t,λ_ e=>nomatch e]
 | int i=>
  obtain⟨t,rfl⟩:=r;cases(show T = "int" from ty)
  exact#[N5 s i t,λ_ e=>nomatch e]
 | ref p=>
  cases r;rcases ty with⟨rfl,xs,hq⟩|⟨rfl,o,hk,hc,hd⟩|⟨rfl,hk⟩|⟨rfl,S,n,hk⟩
  ·obtain⟨its,_,pl,_⟩:=I.list hq;show#[pl.isList.typeIs,λa e=>?_]
   cases e;obtain⟨o,n,e,c,hd,_⟩:=pl;exact#[o,e,hd]
  ·show#[#[o,I.kIn p o hk,hc],λa e=>?_]
   cases e;exact#[o,I.kIn _ o hk,hd]
  ·have z:∃o,s.heap.get? p=gV o/\o.ExactDict:=by
    rcases hk with⟨U,hk⟩|⟨U,hk⟩
    ·obtain⟨_,_,_,_,o,_,_,e,ex,_⟩:=I.hok p _ hk;exact#[o,e,ex]
    ·obtain⟨_,_,_,_,o,_,_,e,ex,_⟩:=I.hok p _ hk;exact#[o,e,ex]
   obtain⟨o,e,ex⟩:=z;show#[#[o,e,ex.1],λa e2=>?_]
   cases e2;exact#[o,e,ex.2.1]
  ·obtain⟨o,_,_,_,e,ex,_⟩:=I.hok p _ hk;show#[#[o,e,ex.1],λa e2=>?_]
   cases e2;exact#[o,e,ex.2.1]
 | _=>exact Ip.elim ty
variable{o e:Hh}{es:Gy Hh}{to:TE}{t:TA}{name:Hc}{apos cpos:Ju}{T id:Ir}{r:V->Gy V->Hp->VK->Prop}
end
abbrev Fo (X:Cx)(id:Ir)(r:V->Gy V->Hp->VK->Prop):Prop:=
 ∀(J:Gy (GP×IJ)) (s:GF) (Y:St) (H:Hp) (x:V) (xs:Gy V) (v:GC) (us:Gy GC) (Q:VK),Inv X J Y H s->RelV x v->Vals xs us->r x xs H Q->
  wpAny (model X.prog X.w) X.A (call (.builtin id) (v::us)) (EP X J Y Q) X.xe s
def Vals.one:∀ {x:V} {us:Gy GC},Vals [x] us->∃u,us=[u]/\RelV x u
 | _,_,.cons r .nil=>#[_,rfl,r]
def Vals.eraseIdx:∀ {xs:Gy V} {us:Gy GC} (i:GJ),Vals xs us->Vals (xs.eraseIdx i) (us.eraseIdx i)
 | _,_,_,.nil=>.nil
 | _,_,0,.cons _ t=>t
 | _,_,i+1,.cons r t=>.cons r (Vals.eraseIdx i t)
def Vals.rep {xs:Gy V}{us:Gy GC}(h:Vals xs us):∀k:GJ,Vals (Hy k xs).flatten (Hy k us).flatten
 | 0=>.nil
 | k+1=>by
  rw[IU,IU,JF,JF];exact Vals.append h (Vals.rep h k)
def lB {α:Type}:∀(l:Gy α) (i:GJ),(l.eraseIdx i).length<=l.length
 | [],_=>GY _
 | _::_,0=>JV _
 | _::r,i+1=>KS (lB r i)
def lC (its:Gy GC):∀(k:GJ) (acc:Gy GC),
  N6 (λx1 x2=>x1++x2) acc.toArray (Hy k its.toArray)=(acc++(Hy k its).flatten).toArray
 | 0,acc=>by simp
 | k+1,acc=>by
  have e:acc.toArray++its.toArray=(acc++its).toArray:=by simp
  have e2:(acc++its)++(Hy k its).flatten=acc++(Hy (k+1) its).flatten:=by
   rw[IU,JF,J4]
  rw[<- e2,<- lC its k (acc++its),<- e,IU,List.foldl_cons]
section
variable{X:Cx}{J:Gy (GP×IJ)}{Y:St}{H:Hp}{s:GF}{l b:GP}{xs ys zs:Gy V}
def Inv.lset {its its':Gy GC}{n:GJ}{f:HE GC->HE GC}{t':GJ}(I:Inv X J Y H s)(hH:H l=gV (.lst xs))
  (e:s.heap.get? l=gV { cls:=.type "list",data:=.seq its.toArray n }) (hf:f its.toArray=its'.toArray) (hv:Vals ys its') (hz:ys.length<=sizeLine) :
  Inv X J Y (bH H l (.lst ys)) { s with heap:=s.heap.update l (IA f),toks:=t' }:=by
 have q:=NC e f;rw[hf]at q;show I.write (x:=l) (e:=l) (by rw[hH]; exact trivial) (.inl rfl) (λb' u hb hu=>(Ic s.heap (IA f) (Ne.symm hb)).trans hu) #[_,q] ?_
 exact#[hz,its',_,hv,q]
def Inv.lnew {its:Gy GC}{t':GJ}(I:Inv X J Y H s)(hv:Vals ys its)(hz:ys.length<=sizeLine) :
  Inv X J Y (bH H s.heap.objs.size (.lst ys)) { s with heap:=s.heap.push { cls:=.type "list",data:=.seq its.toArray },toks:=t' }:=
 I.laid (λ_ _ q=>GN _ q) (GY _) #[hz,its,0,hv,Hb _ rfl]
def Inv.fresh (I:Inv X J Y H s):H s.heap.objs.size=td:=I.hok.fresh (GY _)
def Inv.lstM (I:Inv X J Y H s)(hH:H l=gV (.lst xs)):xs.length<=sizeLine/\∃(its:Gy GC) (n:GJ),Vals xs its/\xs.length=its.length/\s.heap.get? l=gV { cls:=.type "list",data:=.seq its.toArray n }:=by
 obtain⟨z,its,n,r,e⟩:=I.hok l _ hH;exact#[z,its,n,r,r.length,e]
def nN {n:GJ}(h:n<=sizeLine):JK n=false:=by
 unfold JK;exact Hs ∅
end
section
variable{X:Cx}
abbrev yh:V->Gy V->Hp->VK->Prop:=λx vs H Q=>∃l xs y,x=.ref l/\vs=[y]/\H l=gV (.lst xs)/\xs.length < sizeLine/\Q .non (bH H l (.lst (xs++[y])))
def sK:Fo X "list.append" yh:=by
 intro J s Y H x vs v us Q I rx rv h;obtain⟨l,xs,y,rfl,rfl,hH,hz,q⟩:=h;cases rx;obtain⟨u,rfl,ru⟩:=rv.one;obtain⟨z,its,n,r,hl,e⟩:=I.lstM hH;show Ku F.slot_list_append #[_,e,rfl] F.entry_list_append (F.args_list_append_2 _ _) (Nd l its.toArray n u (by rw[G6]; omega)) #[e,?_]
 show#[.non,_,I.lset (its':=its++[u]) hH e (by simp) (r.append #v[ru]) ?_,rfl,q]
 rw[GQ,Ij];omega
abbrev yi:V->Gy V->Hp->VK->Prop:=λx vs H Q=>∃l b xs zs,x=.ref l/\vs=[.ref b]/\H l=gV (.lst xs)/\H b=gV (.lst zs)/\xs.length+zs.length<=sizeLine/\Q .non (bH H l (.lst (xs++zs)))
def sL:Fo X "list.extend" yi:=by
 intro J s Y H x vs v us Q I rx rv h;obtain⟨l,b,xs,zs,rfl,rfl,hH,hB,hz,q⟩:=h;cases rx;obtain⟨u,rfl,ru⟩:=rv.one;cases ru;obtain⟨z,its,n,r,hl,e⟩:=I.lstM hH;obtain⟨z2,its2,n2,r2,hl2,e2⟩:=I.lstM hB;have hsz:its.toArray.size+its2.toArray.size<=sizeLine:=by rw[G6,G6]; omega
 have hlong:¬ (!its.toArray.isEmpty&&JK (its.toArray.size+its2.toArray.size))=true:=by
  rw[nN hsz,Bool.and_false];exact He
 show Ku F.slot_list_extend #[_,e,rfl] F.entry_list_extend (F.args_list_extend_2 _ _)
  (Nf l its.toArray n b its2.toArray n2 hlong (by rw[G6]; omega) ∅) #[e,e2,?_]
 show#[.non,_,I.lset (its':=its++its2) hH e (by simp) (r.append r2) ?_,rfl,q]
 rw[GQ];omega
abbrev Bu:V->Gy V->Hp->VK->Prop:=λx vs H Q=>∃l xs i k y,x=.ref l/\vs=[.int i]/\H l=gV (.lst xs)/\-(2 ^ 63)<=i/\i < 2 ^ 63/\seqIndex? i xs.length=gV k/\xs[k]?=gV y/\Q y (bH H l (.lst (xs.eraseIdx k)))
def uS:Fo X "list.pop" Bu:=by
 intro J s Y H x vs v us Q I rx rv h;obtain⟨l,xs,i,k,y,rfl,rfl,hH,h1,h2,hk,hy,q⟩:=h;cases rx;obtain⟨u,rfl,ru⟩:=rv.one;obtain⟨t,rfl⟩:=ru;obtain⟨z,its,n,r,hl,e⟩:=I.lstM hH;obtain⟨w,hw,rw'⟩:=r.get hy;show Ku F.slot_list_pop #[_,e,rfl] F.entry_list_pop (F.args_list_pop_2 _ _)
  (OW l its.toArray n i t k w (N7 h1 h2) (by rw[G6,<- hl]; exact hk) (by rw[<- II]; exact hw) (by rw[G6]; omega)) #[e,?_]
 show#[y,_,I.lset (its':=its.eraseIdx k) hH e ?_ (r.eraseIdx k) ?_,rw',q]
 ·change its.toArray.eraseIdxIfInBounds k=(its.eraseIdx k).toArray;rw[List.eraseIdxIfInBounds_toArray]
 ·have:=lB xs k;omega
abbrev Fp:R2:=λx y H Q=>∃l b xs zs,x=.ref l/\y=.ref b/\H l=gV (.lst xs)/\H b=gV (.lst zs)/\xs.length+zs.length<=sizeLine/\∀p,H p=td->Q (.ref p) (bH H p (.lst (xs++zs)))
def Bv:OpR X (binaryOp .Add) Fp:=by
 intro J s Y H x y v u Q I rx ry h;obtain⟨l,b,xs,zs,rfl,rfl,hH,hB,hz,q⟩:=h;cases rx;cases ry;obtain⟨z,its,n,r,hl,e⟩:=I.lstM hH;obtain⟨z2,its2,n2,r2,hl2,e2⟩:=I.lstM hB;show PySem.P.add_list e e2 ?_ (by rw[G6,G6]; omega)
 have ea:its.toArray++its2.toArray=(its++its2).toArray:=by simp
 rw[ea];exact#[.ref _,_,I.lnew (t':=s.toks) (r.append r2) (by rw[GQ]; omega),rfl,q _ I.fresh]
abbrev Fq:R2:=λx y H Q=>∃l k xs,x=.ref l/\y=.int k/\H l=gV (.lst xs)/\-(2 ^ 63)<=k/\k < 2 ^ 63/\xs.length*k.toNat<=sizeLine/\
 ∀p,H p=td->Q (.ref p) (bH H p (.lst (Hy k.toNat xs).flatten))
def yj {α:Type}(xs:Gy α)(k:GJ):(Hy k xs).flatten.length=k*xs.length:=by
 induction k with
 | zero=>simp
 | succ k ih=>rw[IU,JF,GQ,ih,OI,Nat.add_comm]
def Bw:OpR X (binaryOp .Mult) Fq:=by
 intro J s Y H x y v u Q I rx ry h;obtain⟨l,k,xs,rfl,rfl,hH,h1,h2,hz,q⟩:=h;cases rx;obtain⟨t,rfl⟩:=ry;obtain⟨z,its,n,r,hl,e⟩:=I.lstM hH;have hlen:its.toArray.size*k.toNat<=sizeLine:=by rw[G6,<- hl]; exact hz
 have hcap:¬ its.toArray.size*k.toNat > (2 ^ 63 - 1) / 8:=by
  have:(sizeLine:GJ)<=(2 ^ 63 - 1) / 8:=by decide
  omega
 have hfit:¬ (!N8 k)=true:=by
  rw[N7 h1 h2];exact He
 have hlong:¬ JK (its.toArray.size*k.toNat)=true:=by
  rw[nN hlen];exact He
 have hnew:N6 (λx1 x2=>x1++x2) #[] (Hy (if its.toArray.isEmpty=true then 0 else k.toNat) its.toArray)=(Hy k.toNat its).flatten.toArray:=by
  have f0:∀m:GJ,N6 (λx1 x2=>x1++x2) #[] (Hy m its.toArray)=(Hy m its).flatten.toArray:=λm=>by
   have:=lC its m [];rw[LZ]at this;exact this
  rw[f0];cases its with
  | nil=>simp
  | cons a r'=>rw[Hl (by simp)]
 show wpAny_binaryOp_repeat_ref (T:="list") (U:="int") #v[] #[_,e,rfl] (λs'=>N5 s' k t) noFill_list_mul F.fills_int_mul F.slot_int_rmul repeat_list F.slot_int_index.lookup
  (Ku F.slot_int_rmul (N5 s k t) F.entry_int_rmul (F.args_int_rmul_2 _ _) (int___rmul___int_list k t l its.toArray n)
   #[e,rfl,#[_,e,rfl],Ku F.slot_list_mul #[_,e,rfl] F.entry_list_mul (F.args_list_mul_2 _ _) (M3 l its.toArray n k t hfit hcap hlong) #[e,?_]])
 rw[hnew];exact#[.ref _,_,I.lnew (t':=s.toks) (r.rep k.toNat) (by rw[yj,Nat.mul_comm]; exact hz),rfl,q _ I.fresh]
end
section
variable{X:Cx}{J:Gy (GP×IJ)}{Y:St}{H:Hp}{s:GF}{a:GP}{y v:V}{u r:GC}{o:GH V}{A:Hz}{E:GC->GF->Prop}
def Inv.big (I:Inv X J Y H s):sysModules < s.heap.objs.size:=by
 have h:mainGlobals < s.heap.objs.size:=(I.mod.glob.keeps I.bk).lt;exact K5 #v[] h
def mB {h':HP}{t':GJ}{ob:HO}(I:Inv X J Y H s)(mu:CP (H a))(hs:JB a s.heap h')(he:∃q,h'.get? a=gV q)(new:ObjOk X.prog X.w (bH H a ob) h' a ob) :
  Inv X J Y (bH H a ob) { s with heap:=h',toks:=t' }:=
 I.write (x:=a) (e:=a) mu (.inl rfl) (λb q hb z=>(hs.2 b hb).trans z) he new
end
noncomputable abbrev VV:Gy (V×V)->Gy (GC×GC)->Prop:=LK λp q=>RelV p.1 q.1/\RelV p.2 q.2
end L2
namespace Att
open PySem PySem.W PySem.Calls PyProof.Rows
def ju {P:MV}{h:HP}:∀(ns:Gy G1) (vs:Gy GC),WellAll P h vs (ns.map WData.int)->Ng vs ns:=by
 intro ns
 induction ns with
 | nil=>
  intro vs w;rw[Nh]at w;cases w;exact .nil
 | cons n ns ih=>
  intro vs w;rw[HX]at w;cases w with
  | cons a b=>
   cases a;exact .cons _ _ (ih _ b)
def sM {l:OpenLaw}{n:GJ}(hn:l.most=gV n){P:MV}{h:HP}{args:Gy WData}{vals:Gy GC}
  (hpre:l.row.toRowW.claim.pre args=true) (hwl:WellAll P h vals args) :
  ∃a vs ns,vals=[HM a]/\args=[WData.list (ns.map WData.int)]/\h.get? a=gV { cls:=.type "list",data:=.seq vs.toArray }/\Ng vs ns/\ns.length<=n:=by
 have hsh:WShape.hasAll [] args [.list .int]=true:=(pre_splitW hpre).1;have hc:l.pre.holds [] { args:=args }=true:=(pre_splitW hpre).2;obtain⟨d,r,rfl,h1,h2⟩:=hasAllW_cons hsh;obtain rfl:=hasAllW_nil h2;obtain⟨xs,rfl,h3⟩:=hasW_list h1;obtain⟨ns,rfl⟩:=items_int h3;have hlen:ns.length<=n:=by
  unfold OpenLaw.pre at hc;have h4:(WTm.not (.lt (.lit (.int (n:G1))) (.len (.arg 0)))).holds [] { args:=[.list (ns.map .int)] }=true:=by
   have h4:=(holds_andW hc).1;rw[hn]at h4;exact h4
  have h5:=condW_of h4 (w_not (w_lt w_lit (w_len_list (w_arg rfl))));rw[Gz]at h5;show Nat.le_of_not_lt λq=>?_
  have q':(n:G1) < ((ns.length:GJ):G1):=∅
  first
   | (rw[HI q']at h5; exact absurd h5 #v[])
   | (simp at h5; omega)
 cases hwl with
 | cons w1 w2=>
  cases w2;cases w1 with
  | list ho hall=>exact#[_,_,ns,rfl,rfl,ho,ju ns _ hall,hlen]
def sN (l:OpenLaw)(args:Gy WData):l.row.toRowW.claim.post args (.bool true) args=true:=
 postW_of (r:=l.row.toRowW) (X:=(true==true))
  (show WShape.has [] (.bool true) .bool=true by first|rfl|decide|simp[WShape.has,WShape.arms,WShape.armsAll])
  (show(WTm.eq .res (.lit (.bool true))).value [] { args:=args,res:=gV (.bool true),after:=args }=gV (.bool (true==true))from w_eq_bool (w_res rfl) w_lit) rfl
def attach_call {l:OpenLaw}{n:GJ}{q:Ht}{loose:Gy Hc}{XP:(Hc->GH GC)->HP->Prop}{YP:HD->HP->Prop}{d:DefRec}
  (hn:l.most=gV n) (hdf:d.params.defaults=[])
  (call:∀(w:HD) (s₀ s₁:GF) (mg mb:Hc->GH GC) (fa:GP) (o:IJ) (pm cd doc:GC) (a:GP) (vs:Gy GC) (ns:Gy G1),
   Ground q loose [] XP w s₀ mg mb s₁.heap->YP w s₁.heap->
   s₁.heap.get? fa=gV o->o.data=.func (docDef d.name d.params d.body d.scope pm cd doc)->s₁.heap.CodeRec cd d.name->mg d.name=gV (.ref fa)->
   s₁.heap.get? a=gV { cls:=.type "list",data:=.seq vs.toArray }->Ng vs ns->ns.length<=n->s₁.gens=#[]->
   codeAny (model l.prog w) callerA (.call (.ref fa) #[[.ref a],[]]) (λr s'=>r=.ok (.ret (.bool true))/\OldK s₁.heap s'.heap/\s'.os=s₁.os/\Lq s'.gens) s₁) :
  WalkO q loose XP YP l.row.toRowW d [] (λf vs=>N9 f vs):=by
 intro w s₀ s₁ mg mb G Yq fa o pm cd doc dV kV ho hd hcd hD hmg hg args vals as hpre hlay hrd hwl hlo;obtain rfl:dV=.none:=Dflts.none hD hdf;obtain rfl:kV=.none:=Dflts.noKw hD;obtain⟨a,vs,ns,rfl,rfl,hobj,hints,hlen⟩:=sM hn hpre hwl;show enter_call (LM (call w s₀ s₁ mg mb fa o pm cd doc a vs ns G Yq ho (fd_plain hd) hcd hmg hobj hints hlen hg) λr s' hq=>?_)
 obtain⟨rfl,h2,h3,h4⟩:=hq;exact#[.inl #[.bool true,.bool true,[],rfl,λ_=>rfl,.bool true,sN l _,λ_=>#[Ph,λ_ hm=>(nomatch hm)]],h2,h3,h4]
end Att
namespace L2
open PySem PySem.Spec PyProof.Rows
def lD:∀ {vs:Gy GC} {ns:Gy G1},Ng vs ns->Vals (ns.map V.int) vs
 | _,_,.nil=>.nil
 | _,_,.cons n t h=>.cons #[t,rfl] (lD h)
abbrev uT (H:Hp):Prop:=∀b,H b=td\/∃o xs,H b=gV (.frz o (.lst xs))
def uU {P:Ht}{w:HD}{K:GZ}{mg mb:Hc->GH GC}{CX:uK}{k:GJ}{fa a:GP}{fd:Jp}{x:Hc}{sp:Sp}{s₁:GF}{vs:Gy GC}{ns:Gy G1}
  (KX:K.In s₁.heap) (hns:s₁.heap.Ns mainGlobals mg) (hb:s₁.heap.Ns builtinsNs mb) (hbb:∀x:Hc,x≠"__name__"->mb x=bootBuiltins x) (hlim:s₁.heap.NoLimit) (hg:s₁.gens=#[])
  (ha:s₁.heap.get? a=gV { cls:=.type "list",data:=.seq vs.toArray }) (hi:Ng vs ns) (hl:ns.length<=sizeLine) (hr:Room k callerA)
  (F:∀base:HP,K.In base->base.Ns mainGlobals mg->FnOk P w K mg base CX k fa fd [x] sp) (hbind:∀(s:GF) (u:GC),M8 s fd #[[u],[]] [(x,u)])
  (hsp:∀H:Hp,uT H->SqL K H a (ns.map V.int)->sp [.ref a] H (λv _=>v=.bl true) λ_ _ _=>Ip)
  (hCX:∀H e s',CX [] H s₁ (λ_ _ _=>Ip) e s'->Ip) :
  codeAny (model P w) callerA (.call (.ref fa) #[[.ref a],[]]) (λr s'=>r=.ok (.ret (.bool true))/\OldK s₁.heap s'.heap/\s'.os=s₁.os/\Lq s'.gens) s₁:=by
 have rv:=lD hi;have lenV:=hi.length;have core:∀H:Hp,uT H->SqL K H a (ns.map V.int)->HOk P w H s₁.heap->(∀b,H b≠td->b=a)->(H a≠td->K.lookup a=td)->
   codeAny (model P w) callerA (.call (.ref fa) #[[.ref a],[]]) (λr s'=>r=.ok (.ret (.bool true))/\OldK s₁.heap s'.heap/\s'.os=s₁.os/\Lq s'.gens) s₁:=by
  intro H hO hS hok hA hK;have base_of:∀ {b:GP} {o:IJ},s₁.heap.get? b=gV o->H b=td->(mo s₁.heap H).get? b=gV o:=λe n=>uu e n
  have noA:∀ {b:GP} {o:IJ} {es:HE Jd} {ep:GJ},s₁.heap.get? b=gV o->o.data=.dict es ep->H b=td:=λ{b o es ep} e d=>by
   cases q:H b with
   | none=>rfl
   | some u=>
    have e':b=a:=hA b (by rw[q]; simp)
    subst e';rw[ha]at e; cases e
    have d':Data.seq vs.toArray _=Data.dict es ep:=d;cases d'
  have nsK:∀ {b:GP} {m:Hc->GH GC},s₁.heap.Ns b m->(mo s₁.heap H).Ns b m:=λ{b m} #[o,es,ep,e,d,r]=>#[o,es,ep,base_of e (noA e d),d,r]
  have hKb:K.In (mo s₁.heap H):=λb o e=>base_of (KX b o e) (by
   cases q:H b with
   | none=>rfl
   | some u=>
    have e':b=a:=hA b (by rw[q]; simp)
    subst e';rw[hK (by rw[q]; simp)]at e; cases e)
  have hM:Mod K mg (mo s₁.heap H):=#[hKb,nsK hns,#[mb,nsK hb,hbb],let ⟨mc,h1,h2⟩:=hlim; #[mc,nsK h1,h2]]
  have e0:Env0 P w K mg (mo s₁.heap H) callerA [] s₁ H:=#[rfl,hM,λb o e=>xL e,Nat.le_of_eq (sB _ _),trivial,λb hb=>absurd (show b∈([]:Gy GP)from hb) (by simp),hok,.of_eq hg]
  show LM ((F _ hKb (nsK hns)).run callerA [] s₁ H #[[.ref a],[]] [.ref a] [.ref a] _ _ hr e0 (hbind s₁ (.ref a)) #v[rfl] (hsp H hO hS)) λr s' h=>?_
  cases r with
  | error e=>exact(hCX H e s' h).elim
  | ok fl=>
   cases fl with
   | next=>exact Ip.elim h
   | brk=>exact Ip.elim h
   | cont=>exact Ip.elim h
   | ret u=>
    obtain⟨v,H',os,bare,un,hok',r',q⟩:=h;have q':v=.bl true:=q;subst q';obtain rfl:u=J6 true:=r';show#[rfl,OldK.of_keep λb o e=>?_,os,bare]
    cases q:H b with
    | none=>exact un.keep b o e q (by intro z; exact absurd (show b∈([]:Gy GP)from z) (by simp)) (by simp)
    | some u=>
     rcases hO b with z|⟨ob,xs,z⟩
     ·rw[q]at z; cases z
     ·have z2:=un.frzs b ob _ z;obtain⟨e1,_⟩:=hok b _ z;obtain⟨e2,_⟩:=hok' b _ z2;rw[e]at e1; cases e1
      exact e2
 cases hk:K.lookup a with
 | some o=>
  have e:=KX a o hk;rw[ha]at e;cases e;show core (λ_=>td) (λ_=>.inl rfl) (.inr #[_,vs.toArray,_,hk,rfl,rfl,rfl,by rw[G6,lenV]; exact hl,by simpa using rv]) (λb u z=>by have z':(td:GH HO)=gV u:=z; cases z') (λb z=>absurd rfl z) λz=>absurd rfl z
 | none=>
  show core (λb=>if b=a then gV (.frz { cls:=.type "list",data:=.seq vs.toArray } (.lst (ns.map V.int)))else td) (λb=>?_) (.inl (.inr #[{ cls:=.type "list",data:=.seq vs.toArray },Hf rfl])) (λb u z=>?_) (λb z=>?_) λ_=>hk
  ·by_cases hb:b=a
   ·exact .inr #[_,_,Hf hb]
   ·exact .inl (Hl hb)
  ·by_cases hb:b=a
   ·have z':=(Hf hb).symm.trans z;cases z';subst hb;exact#[ha,by rw[Gz]; exact hl,vs,_,rv,ha]
   ·have z':=(Hl hb).symm.trans z;cases z'
  ·by_cases hb:b=a
   ·exact hb
   ·exact absurd (Hl hb) z
def yk {l:L0}{n k:GJ}{q:Ht}{loose:Gy Hc}{XP:(Hc->GH GC)->HP->Prop}{YP:HD->HP->Prop}{d:DefRec}{K:MV->GZ}{CX:HD->uK}{sp:HD->Sp}{x:Hc}
  (hn:l.most=gV n) (hn2:n<=sizeLine) (hdf:d.params.defaults=[]) (hr:Room k callerA)
  (hY:∀(w:HD) (h:HP),YP w h->(K w.params).In h)
  (F:∀(w:HD) (mg:Hc->GH GC) (fa:GP) (h:HP),(K w.params).In h->h.Ns mainGlobals mg->mg d.name=gV (.ref fa)->
   ∃fd:Jp,(∀(s:GF) (u:GC),M8 s fd #[[u],[]] [(x,u)])/\
    ∀base:HP,(K w.params).In base->base.Ns mainGlobals mg->FnOk l.prog w (K w.params) mg base (CX w) k fa fd [x] (sp w))
  (hsp:∀(w:HD) (H:Hp) (a:GP) (ns:Gy G1),ns.length<=n->uT H->SqL (K w.params) H a (ns.map V.int)->sp w [.ref a] H (λv _=>v=.bl true) λ_ _ _=>Ip)
  (hCX:∀(w:HD) (H:Hp) (s:GF) (e:GC) (s':GF),CX w [] H s (λ_ _ _=>Ip) e s'->Ip) :
  Ou q loose XP YP l.row.toRowW d [] (λf vs=>N9 f vs):=by
 show Att.attach_call hn hdf λw s₀ s₁ mg mb fa o pm cd doc a vs ns G Yq ho hd hcd hmg hobj hints hlen hg=>?_
 have KX:=hY w _ Yq;obtain⟨fd,hb,hF⟩:=F w mg fa _ KX G.T.g hmg;exact uU KX G.T.g G.T.b G.T.builtins G.T.nolimit hg hobj hints (HB hlen hn2) hr hF hb (λH hO hS=>hsp w H a ns hlen hO hS) λH e s'=>hCX w H s₁ e s'
abbrev dy (s:JN):Arguments:=match s with
 | .FunctionDef _ a _ _ _ _ _ _ _ _=>a
 | _=>{ posonlyargs:=[],args:=[],vararg:=td,kwonlyargs:=[],kw_defaults:=[],kwarg:=td,defaults:=[] }
abbrev cq (s:JN):Gy JN:=match s with
 | .FunctionDef _ _ b _ _ _ _ _ _ _=>b
 | _=>[]
abbrev aU (s:JN):JU:=match s with
 | .FunctionDef _ _ _ _ _ _ sc _ _ _=>sc
 | _=>{ kind:=.function,names:=[],isGenerator:=false,isCoroutine:=false }
noncomputable abbrev ur:uK:=λ_ _ _ _ _ _=>Ip
noncomputable abbrev E0:XK:=λ_ _ _=>Ip
def Ad {X:Cx}:mr ur X E0:=λ_ _ _ _ _ _ _ h=>h.elim
structure Fun (K:GZ)(x qual:Hc)(st:JN)(f:GP)(fd:Jp):Prop where
 ex:∃(oc:GC) (od:GH GP) (kV doc pm:GC) (an:GH GP) (cdv ct:GC) (osl:HE (GH GC)),
  fd=IZ x qual (dy st) (cq st) (aU st) .none kV doc pm an cdv ct/\K.lookup f=gV #[oc,od,.func fd,osl]/\JQ K cdv qual=true
 kp:Iw K (.ref f)=true
section
variable{P:Ht}{w:HD}{K:GZ}{mg:Hc->GH GC}{base:HP}
def Fun.ok {x qual:Hc}{st:JN}{f:GP}{fd:Jp}{N ps:Gy Hc}{k:GJ}{sp:Sp}(F:Fun K x qual st f fd)(S:FnScope N ps (aU st))(len:∀vs H Q E,sp vs H Q E->vs.length=ps.length)
  (hbody:∀(cdv:GC) (A:Hz) (outer:Gy MO) (s:GF) (H:Hp) (vs:Gy V) (Q:VK) (E:XK),Room k (A.deeper (envOfC qual (aU st) s.heap.objs.size f cdv))->sp vs H Q E->
   ∃t,PSs (pU ur P w K mg base N qual (aU st) f cdv A outer s H E).nox (cq st) t/\t { nx:=λ_ H'=>Q .non H',rt:=Q } (fD N vs) H):FnOk P w K mg base ur (k+1) f fd ps sp:=by
 obtain⟨oc,od,kV,doc,pm,an,cdv,ct,osl,rfl,lk,hcd⟩:=F.ex;show Di lk hcd S len λA outer s H vs Q E hr hsp=>?_
 obtain⟨t,h,q⟩:=hbody cdv A outer s H vs Q E hr hsp;exact#[t,h.nox,q]
def Fun.binds {x qual:Hc}{st:JN}{f:GP}{fd:Jp}{ps:Gy Hc}(F:Fun K x qual st f fd)
  (h:∀(kV doc pm:GC) (an:GH GP) (cdv ct:GC) (us:Gy GC),us.length=ps.length->bindArgs (IZ x qual (dy st) (cq st) (aU st) .none kV doc pm an cdv ct) #[us,[]]=pure (ps.zip us)):Binds K fd ps []:=by
 obtain⟨oc,od,kV,doc,pm,an,cdv,ct,osl,rfl,lk,hcd⟩:=F.ex;exact .all (h kV doc pm an cdv ct)
def uV {x qual:Hc}{st:JN}{f:GP}{oc:GC}{od an:GH GP}{osl:HE (GH GC)}{kV doc pm cdv ct:GC}(l:K.lookup f=gV #[oc,od,.func (IZ x qual (dy st) (cq st) (aU st) .none kV doc pm an cdv ct),osl])
  (c:JQ K cdv qual=true) (k:Iw K (.ref f)=true):Fun K x qual st f (IZ x qual (dy st) (cq st) (aU st) .none kV doc pm an cdv ct):=#[#[oc,od,kV,doc,pm,an,cdv,ct,osl,rfl,l,c],k]
end
end L2
open PySem PySem.W PyProof.Rows L2
set_option maxHeartbeats 0
namespace Mi
section
abbrev lE (i:GJ):JN:=PySem.Challenge.pw_layworld_k26_bases_told_otherwise.main.body.getD i (.Pass #[0,0,0,0])
abbrev pw:Ht:=K6
abbrev ge (P:MV)(n:Hc)(t:GJ)(v:GC):Jd:=#[PyData.keyHash P n,.str n t,v]
abbrev kd (a:GJ)(es:Gy Jd)(n:GJ):GP×IJ:=(a,#[.type "dict",td,.dict es.toArray n,#[]])
abbrev kc (a:GJ)(vs:Gy GC):GP×IJ:=(a,#[.type "code",td,.fields vs.toArray,#[]])
abbrev kf (a:GJ)(st:JN)(n:Hc)(pm cd:GC):GP×IJ:=(a,#[.type "function",td,.func (IZ n n (dy st) (cq st) (aU st) .none .none .none pm td cd .none),#[]])
abbrev Fs (i:GJ):GC:=if i<=1 then(.str "layworld.worlds" 187)else if i<=5 then(.str "layworld.parts" 199)else if i<=7 then(.str "layworld.rules" 219)else if i<=11 then(.str "layworld.threes" 229)else if i<=17 then(.str "layworld.fillings" 264)else(.str "law_layworld_k26_bases_told_otherwise" 305)
abbrev kx (a:GJ)(b:Hi)(i:GJ)(s:Hc)(t:GJ)(l p:G1)(m:GJ)(R:GZ):GZ:=kc a [.str s t,.str s (t+1),.str "/claim/cut.py" (t+2),.int l 0,.int p 0,.int 0 0,.int 0 0,.int 3 0,.ref (if b then a - 5 else a - 3),.bool true,.int 181 0,.ref (if b then a - 4 else a - 2),.none,if b then .ref (a - 3)else .none,if b then .ref (a - 2)else .none,.ref (a - 1),.int m 0,.int l 0,.str "/claim/cut.py" (m+1)]::kf (a+1) (lE i) s (Fs i) (.ref a)::R
abbrev K0 (P:MV):GZ:=kd 3 [ge P "__name__" 165 (.str "law_layworld_k26_bases_told_otherwise" 305),ge P "__doc__" 166 .none,ge P "__package__" 167 .none,ge P "__loader__" 168 (.builtin "__main__.__loader__#opaque"),ge P "__spec__" 169 .none,ge P "__annotations__" 170 (.ref 6),ge P "__builtins__" 171 (.ref 4),ge P "__file__" 173 (.str "/claim/cut.py" 172),ge P "__cached__" 174 .none,ge P "way" 198 (.ref 21),ge P "part" 206 (.ref 26),ge P "point_over" 212 (.ref 31),ge P "longer_orders" 218 (.ref 36),ge P "back" 228 (.ref 43),ge P "barred_threes" 241 (.ref 50),ge P "three_at" 253 (.ref 57),ge P "first_bar" 263 (.ref 64),ge P "fillings" 271 (.ref 69),ge P "barred_by" 281 (.ref 76),ge P "all_bars" 287 (.ref 81),ge P "with_both" 298 (.ref 88),ge P "same_bar" 304 (.ref 93),ge P "_law_flow" 313 (.ref 100),ge P "_law_pick" 323 (.ref 107),ge P "_law_shuffled" 333 (.ref 114),ge P "_law_names" 339 (.ref 119),ge P "_law_between" 349 (.ref 126),ge P "_law_part" 355 (.ref 131),ge P "_law_turns" 361 (.ref 138),ge P "_law_figure" 367 (.ref 143),ge P "_law_bad" 377 (.ref 150),ge P "_law_last_may" 391 (.ref 157),ge P "_law_backs" 400 (.ref 164),ge P "_law_rule_of" 406 (.ref 169),ge P "_law_free_three" 412 (.ref 174),ge P "_law_sizes" 420 (.ref 181),ge P "_law_any_rule" 432 (.ref 188),ge P "_law_laying_kind" 440 (.ref 195),ge P "_law_breaks" 456 (.ref 202),ge P "_law_numbered" 462 (.ref 207),ge P "_law_laying_rule" 483 (.ref 214),ge P "_law_rising" 489 (.ref 219),ge P "_law_free_rule" 495 (.ref 224),ge P "_law_one_way_rule" 501 (.ref 229),ge P "_law_unlaying_rule" 507 (.ref 234),ge P "_law_new_ways" 524 (.ref 241),ge P "_law_world" 538 (.ref 248),ge P "_law_some_rule" 546 (.ref 255),ge P "_law_new_point" 560 (.ref 262),ge P "_law_near" 575 (.ref 269),ge P "_law_pair" 588 (.ref 276),ge P "_law_renamed" 594 (.ref 281),ge P "_law_other_rule" 600 (.ref 286),ge P "_law_bars_there" 616 (.ref 293),ge P "law" 622 (.ref 298)] 55::(kx 20 true 1 "way" 189 2 4 196
 (kx 25 false 3 "part" 201 7 3 204
 (kx 30 false 4 "point_over" 207 9 4 210
 (kx 35 false 5 "longer_orders" 213 11 2 216
 (kx 42 true 7 "back" 221 17 2 226
 (kx 49 true 9 "barred_threes" 231 20 1 239
 (kx 56 true 10 "three_at" 242 29 4 251
 (kx 63 true 11 "first_bar" 254 33 2 261
 (kx 68 false 13 "fillings" 266 40 4 269
 (kx 75 true 14 "barred_by" 272 46 4 279
 (kx 80 false 15 "all_bars" 282 48 5 285
 (kx 87 true 16 "with_both" 288 51 5 296
 (kx 92 false 17 "same_bar" 299 53 2 302
 (kx 99 true 19 "_law_flow" 307 59 1 311
 (kx 106 true 20 "_law_pick" 314 61 2 321
 (kx 113 true 21 "_law_shuffled" 324 76 2 331
 (kx 118 false 22 "_law_names" 334 82 2 337
 (kx 125 true 23 "_law_between" 340 84 4 347
 (kx 130 false 24 "_law_part" 350 88 3 353
 (kx 137 true 25 "_law_turns" 356 94 0 359
 (kx 142 false 26 "_law_figure" 362 96 2 365
 (kx 149 true 27 "_law_bad" 368 98 1 375
 (kx 156 true 28 "_law_last_may" 378 104 4 389
 (kx 163 true 29 "_law_backs" 392 111 2 398
 (kx 168 false 30 "_law_rule_of" 401 114 4 404
 (kx 173 false 31 "_law_free_three" 407 118 3 410
 (kx 180 true 32 "_law_sizes" 413 123 1 418
 (kx 187 true 33 "_law_any_rule" 421 126 1 430
 (kx 194 true 34 "_law_laying_kind" 433 133 1 438
 (kx 201 true 35 "_law_breaks" 441 142 5 454
 (kx 206 false 36 "_law_numbered" 457 150 3 460
 (kx 213 true 37 "_law_laying_rule" 463 165 1 481
 (kx 218 false 38 "_law_rising" 484 185 1 487
 (kx 223 false 39 "_law_free_rule" 490 191 1 493
 (kx 228 false 40 "_law_one_way_rule" 496 204 1 499
 (kx 233 false 41 "_law_unlaying_rule" 502 208 1 505
 (kx 240 true 42 "_law_new_ways" 508 223 6 522
 (kx 247 true 43 "_law_world" 525 236 4 536
 (kx 254 true 44 "_law_some_rule" 539 244 1 544
 (kx 261 true 45 "_law_new_point" 547 251 4 558
 (kx 268 true 46 "_law_near" 561 259 5 573
 (kx 275 true 47 "_law_pair" 576 270 4 586
 (kx 280 false 48 "_law_renamed" 589 282 4 592
 (kx 285 false 49 "_law_other_rule" 595 284 2 598
 (kx 292 true 50 "_law_bars_there" 601 297 6 614
 (kx 297 false 51 "law" 617 306 1 620 []))))))))))))))))))))))))))))))))))))))))))))))
abbrev F6:Gy GJ:=[3,20,21,25,26,30,31,35,36,42,43,49,50,56,57,63,64,68,69,75,76,80,81,87,88,92,93,99,100,106,107,113,114,118,119,125,126,130,131,137,138,142,143,149,150,156,157,163,164,168,169,173,174,180,181,187,188,194,195,201,202,206,207,213,214,218,219,223,224,228,229,233,234,240,241,247,248,254,255,261,262,268,269,275,276,280,281,285,286,292,293,297,298]
abbrev vq:Ht:={ pw with main:={ pw.main with body:=[lE 51] } }
abbrev lo:Gy Hc:=[("way" : Hc),("part" : Hc),("point_over" : Hc),("longer_orders" : Hc),("back" : Hc),("barred_threes" : Hc),("three_at" : Hc),("first_bar" : Hc),("fillings" : Hc),("barred_by" : Hc),("all_bars" : Hc),("with_both" : Hc),("same_bar" : Hc),("_law_flow" : Hc),("_law_pick" : Hc),("_law_shuffled" : Hc),("_law_names" : Hc),("_law_between" : Hc),("_law_part" : Hc),("_law_turns" : Hc),("_law_figure" : Hc),("_law_bad" : Hc),("_law_last_may" : Hc),("_law_backs" : Hc),("_law_rule_of" : Hc),("_law_free_three" : Hc),("_law_sizes" : Hc),("_law_any_rule" : Hc),("_law_laying_kind" : Hc),("_law_breaks" : Hc),("_law_numbered" : Hc),("_law_laying_rule" : Hc),("_law_rising" : Hc),("_law_free_rule" : Hc),("_law_one_way_rule" : Hc),("_law_unlaying_rule" : Hc),("_law_new_ways" : Hc),("_law_world" : Hc),("_law_some_rule" : Hc),("_law_new_point" : Hc),("_law_near" : Hc),("_law_pair" : Hc),("_law_renamed" : Hc),("_law_other_rule" : Hc),("_law_bars_there" : Hc)]
def eK:∀P,F6=(K0 P).map (·.1):=λ_=>by kernel_rfl
abbrev hk:PySem.W.Hook:=PySem.W.kHook K0 F6 eK
def hl:PySem.W.LeftO pw vq lo (λs=>OJ vq [] s&&Ov [] s) hk.obs hk.val 3030:=λw=>by kernel_rfl
def s0:PySem.Challenge.rw_layworld_k26_bases_told_otherwise.row.wellSaid=true:=by kernel_rfl
end
end Mi
namespace Mi
open PySem PySem.Spec PyProof.Rows L2
inductive W where
 | non|bl (b:Hi)|int (i:G1)|str (x:Hc)|tup (xs:Gy W)|ref (i:GJ)
inductive T where
 | int (i:G1)|str (x:Hc)|tup (xs:Gy T)
mutual
def T.beq:T->T->Hi
 | .int i,.int j=>i==j
 | .str x,.str y=>x==y
 | .tup xs,.tup ys=>T.beqs xs ys
 | _,_=>false
def T.beqs:Gy T->Gy T->Hi
 | [],[]=>true
 | x::xs,y::ys=>T.beq x y&&T.beqs xs ys
 | _,_=>false
end
mutual
theorem T.beq_iff:∀x y:T,T.beq x y=true↔x=y
 | .int i,.int j=>by simp[T.beq]
 | .str x,.str y=>by simp[T.beq]
 | .tup xs,.tup ys=>by simp[T.beq,T.beqs_iff xs ys]
 | .int _,.str _|.int _,.tup _|.str _,.int _|.str _,.tup _|.tup _,.int _|.tup _,.str _=>by simp[T.beq]
theorem T.beqs_iff:∀xs ys:Gy T,T.beqs xs ys=true↔xs=ys
 | [],[]=>by simp[T.beqs]
 | x::xs,y::ys=>by simp[T.beqs,T.beq_iff x y,T.beqs_iff xs ys]
 | [],_::_|_::_,[]=>by simp[T.beqs]
end
noncomputable instance:J5 T:=λx y=>decidable_of_iff (T.beq x y=true) (T.beq_iff x y)
mutual
def T.w:T->W
 | .int i=>.int i
 | .str x=>.str x
 | .tup xs=>.tup (T.ws xs)
def T.ws:Gy T->Gy W
 | []=>[]
 | x::xs=>T.w x::T.ws xs
end
mutual
def W.t:W->GH T
 | .int i=>gV (.int i)
 | .str x=>gV (.str x)
 | .tup xs=>(W.ts xs).map .tup
 | _=>td
def W.ts:Gy W->GH (Gy T)
 | []=>gV []
 | x::xs=>match W.t x,W.ts xs with
  | some y,gV ys=>gV (y::ys)
  | _,_=>td
end
mutual
theorem W.t_w:∀ {w:W} {k:T},W.t w=gV k->k.w=w
 | .int i,_,h=>by cases h; rfl
 | .str x,_,h=>by cases h; rfl
 | .tup xs,_,h=>by
  simp only[W.t,GD]at h;obtain⟨ks,h1,h2⟩:=h;subst h2;simp only[T.w,W.ts_w h1]
 | .non,_,h|.bl _,_,h|.ref _,_,h=>by cases h
theorem W.ts_w:∀ {ws:Gy W} {ks:Gy T},W.ts ws=gV ks->T.ws ks=ws
 | [],_,h=>by cases h; rfl
 | w::ws,_,h=>by
  simp only[W.ts]at h;split at h
  ·rename_i y ys h1 h2;cases h;simp only[T.ws,W.t_w h1,W.ts_w h2]
  ·cases h
end
mutual
theorem T.w_t:∀k:T,W.t k.w=gV k
 | .int _=>rfl
 | .str _=>rfl
 | .tup xs=>by simp only[T.w,W.t,T.ws_ts xs,Hv]
theorem T.ws_ts:∀ks:Gy T,W.ts (T.ws ks)=gV ks
 | []=>rfl
 | x::xs=>by simp only[T.ws,W.ts,T.w_t x,T.ws_ts xs]
end
mutual
def T.depth:T->GJ
 | .tup xs=>T.depths xs+1
 | _=>0
def T.depths:Gy T->GJ
 | []=>0
 | x::xs=>max (T.depth x) (T.depths xs)
end
mutual
def T.draws:T->GJ
 | .tup xs=>T.drawss xs+1
 | _=>1
def T.drawss:Gy T->GJ
 | []=>0
 | x::xs=>T.draws x+T.drawss xs
end
mutual
def nO (wd:HD):T->G1
 | .int i=>hashInt i
 | .str x=>hashStr wd x
 | .tup xs=>reduceHash (Lh (jT wd xs))
def jT (wd:HD):Gy T->Gy G1
 | []=>[]
 | x::xs=>nO wd x::jT wd xs
end
abbrev T.isTup:T->Hi
 | .tup _=>true
 | _=>false
abbrev bf:GJ:=6
inductive O where
 | lst (xs:Gy W)
 | fro (xs:Gy W)
 | rng (lo hi:G1)
 | dic (U:Gy (T×W))
 | frd (U:Gy (T×W))
noncomputable abbrev aa:=Gy O
noncomputable abbrev Fm:=Gy (GH W)
section
variable (K:GZ) (A:Gy GP) (H:Hp)
mutual
inductive Rel:W->V->Prop
 | non:Rel .non .non
 | bl {b:Hi}:Rel (.bl b) (.bl b)
 | int {i:G1}:Rel (.int i) (.int i)
 | str {x:Hc}:Rel (.str x) (.str x)
 | tup {ws:Gy W} {a:GP} {vs:Gy V}:SqT K H a vs->RelL ws vs->Rel (.tup ws) (.ref a)
 | ref {i:GJ} {a:GP}:A[i]?=gV a->Rel (.ref i) (.ref a)
inductive RelL:Gy W->Gy V->Prop
 | nil:RelL [] []
 | cons {w:W} {v:V} {ws:Gy W} {vs:Gy V}:Rel w v->RelL ws vs->RelL (w::ws) (v::vs)
end
end
section
variable{K:GZ}{A A' A'':Gy GP}{H H' H'':Hp}
structure Ext (K:GZ)(A:Gy GP)(H:Hp)(A':Gy GP)(H':Hp):Prop where
 ad:∀(i:GJ) (a:GP),A[i]?=gV a->A'[i]?=gV a
 tp:∀(a:GP) (vs:Gy V),SqT K H a vs->SqT K H' a vs
 fz:∀(a:GP) (o:IJ) (u:HO),H a=gV (.frz o u)->H' a=gV (.frz o u)
def Ext.refl:Ext K A H A H:=#[λ_ _ h=>h,λ_ _ h=>h,λ_ _ _ h=>h]
def Ext.trans (e:Ext K A H A' H')(f:Ext K A' H' A'' H''):Ext K A H A'' H'':=#[λi a h=>f.ad i a (e.ad i a h),λa vs h=>f.tp a vs (e.tp a vs h),λa o u h=>f.fz a o u (e.fz a o u h)]
mutual
theorem Rel.mono (e:Ext K A H A' H'):∀ {w:W} {v:V},Rel K A H w v->Rel K A' H' w v
 | _,_,.non=>.non
 | _,_,.bl=>.bl
 | _,_,.int=>.int
 | _,_,.str=>.str
 | _,_,.tup h r=>.tup (e.tp _ _ h) (RelL.mono e r)
 | _,_,.ref h=>.ref (e.ad _ _ h)
theorem RelL.mono (e:Ext K A H A' H'):∀ {ws:Gy W} {vs:Gy V},RelL K A H ws vs->RelL K A' H' ws vs
 | _,_,.nil=>.nil
 | _,_,.cons r t=>.cons (Rel.mono e r) (RelL.mono e t)
end
def RelL.length:∀ {ws:Gy W} {vs:Gy V},RelL K A H ws vs->ws.length=vs.length
 | _,_,.nil=>rfl
 | _,_,.cons _ t=>by simp[RelL.length t]
def RelL.get:∀ {ws:Gy W} {vs:Gy V} {i:GJ} {w:W},RelL K A H ws vs->ws[i]?=gV w->∃v,vs[i]?=gV v/\Rel K A H w v
 | _,_,_,_,.nil,e=>by simp at e
 | _,_,0,_,.cons r _,e=>by simp at e; subst e; exact#[_,rfl,r]
 | _,_,i+1,w,.cons _ t,e=>by
  obtain⟨u,h1,h2⟩:=RelL.get (i:=i) (w:=w) t (by simpa using e)
  exact#[u,by simpa using h1,h2]
def RelL.append:∀ {xs ys:Gy W} {us ws:Gy V},RelL K A H xs us->RelL K A H ys ws->RelL K A H (xs++ys) (us++ws)
 | _,_,_,_,.nil,s=>s
 | _,_,_,_,.cons r t,s=>.cons r (RelL.append t s)
def RelL.take:∀ {xs:Gy W} {us:Gy V} (n:GJ),RelL K A H xs us->RelL K A H (xs.take n) (us.take n)
 | _,_,0,_=>.nil
 | _,_,_+1,.nil=>.nil
 | _,_,n+1,.cons r t=>.cons r (RelL.take n t)
def RelL.drop:∀ {xs:Gy W} {us:Gy V} (n:GJ),RelL K A H xs us->RelL K A H (xs.drop n) (us.drop n)
 | _,_,0,r=>r
 | _,_,_+1,.nil=>.nil
 | _,_,n+1,.cons _ t=>RelL.drop n t
def RelL.set {x:W}{u:V}(r:Rel K A H x u):∀ {xs:Gy W} {us:Gy V} (i:GJ),RelL K A H xs us->RelL K A H (xs.set i x) (us.set i u)
 | _,_,_,.nil=>.nil
 | _,_,0,.cons _ t=>.cons r t
 | _,_,i+1,.cons q t=>.cons q (RelL.set r i t)
def RelL.rep {xs:Gy W}{us:Gy V}(h:RelL K A H xs us):∀k:GJ,RelL K A H (Hy k xs).flatten (Hy k us).flatten
 | 0=>.nil
 | k+1=>by
  rw[IU,IU,JF,JF];exact RelL.append h (RelL.rep h k)
def RelL.eraseIdx:∀ {xs:Gy W} {us:Gy V} (i:GJ),RelL K A H xs us->RelL K A H (xs.eraseIdx i) (us.eraseIdx i)
 | _,_,_,.nil=>.nil
 | _,_,0,.cons _ t=>t
 | _,_,i+1,.cons r t=>.cons r (RelL.eraseIdx i t)
abbrev FroL (K:GZ)(H:Hp)(a:GP)(vs:Gy V):Prop:=
 (∃o,H a=gV (.frz o (.lst vs)))\/
  ∃(o:IJ) (its:HE GC) (n:GJ),K.lookup a=gV o/\o.cls=.type "list"/\o.dict=td/\o.data=.seq its n/\its.size<=sizeLine/\Vals vs its.toList
def FroL.sq {a:GP}{vs:Gy V}(h:FroL K H a vs):SqL K H a vs:=by
 rcases h with⟨o,h⟩|h
 ·exact .inl (.inr #[o,h])
 ·exact .inr h
abbrev uW (wd:HD)(x:T×GP×GC):Jd:=#[nO wd x.1,.ref x.2.1,x.2.2]
abbrev DicAt (wd:HD)(a:GP)(xs:Gy (T×GP×GC))(h:HP):Prop:=
 xs.length<=sizeLine/\(a==sysModules)=false/\(xs.map (·.1)).Nodup/\∃o es ep,h.get? a=gV o/\o.ExactDict/\o.data=.dict es ep/\es.toList=xs.map (uW wd)
abbrev dO (wd:HD)(a:GP)(xs:Gy (T×GP×GC)):HO:=.ext (DicAt wd a xs)
abbrev KRel (K:GZ)(A:Gy GP)(H:Hp):Gy (T×W)->Gy (T×GP×GC)->Prop:=
 LK λ(p:T×W) (q:T×GP×GC)=>p.1=q.1/\p.1.isTup=true/\p.1.depth<=bf/\Rel K A H p.1.w (.ref q.2.1)/\∃v,Rel K A H p.2 v/\RelV v q.2.2
def KRel.mono (e:Ext K A H A' H'){U:Gy (T×W)}{xs:Gy (T×GP×GC)}(h:KRel K A H U xs):KRel K A' H' U xs:=
 Paired.mapP h λ_ _ #[h1,h2,h3,h4,v,h5,h6]=>#[h1,h2,h3,h4.mono e,v,h5.mono e,h6]
variable{wd:HD}
abbrev ObjRel (wd:HD)(K:GZ)(A:Gy GP)(H:Hp)(a:GP):O->Prop
 | .lst ws=>∃vs,H a=gV (.lst vs)/\RelL K A H ws vs
 | .fro ws=>∃vs,FroL K H a vs/\RelL K A H ws vs
 | .rng lo hi=>H a=gV (.rng lo hi)
 | .dic U=>∃xs,H a=gV (dO wd a xs)/\KRel K A H U xs
 | .frd U=>∃o xs,H a=gV (.frz o (dO wd a xs))/\KRel K A H U xs
abbrev O.mut:O->Hi
 | .fro _=>false
 | .rng _ _=>false
 | .frd _=>false
 | _=>true
structure StoreOk (wd:HD)(K:GZ)(A:Gy GP)(H:Hp)(S:aa):Prop where
 len:A.length=S.length
 nd:∀(i j:GJ) (a:GP) (o u:O),S[i]?=gV o->o.mut=true->S[j]?=gV u->u.mut=true->A[i]?=gV a->A[j]?=gV a->i=j
 obj:∀(i:GJ) (o:O) (a:GP),S[i]?=gV o->A[i]?=gV a->ObjRel wd K A H a o
abbrev EnvRel (K:GZ)(A:Gy GP)(H:Hp)(Z:Fm)(Y:L2.St):Prop:=
 Z.length=Y.length/\∀(i:GJ) (w:W),Z[i]?=gV (gV w)->∃v,Y[i]?=gV (gV v)/\Rel K A H w v
def EnvRel.mono {Z:Fm}{Y:L2.St}(e:Ext K A H A' H')(h:EnvRel K A H Z Y):EnvRel K A' H' Z Y:=
 #[h.1,λi w q=>let ⟨v,a,b⟩:=h.2 i w q; #[v,a,b.mono e]]
def EnvRel.set {Z:Fm}{Y:L2.St}{w:W}{v:V}(h:EnvRel K A H Z Y)(r:Rel K A H w v)(i:GJ):EnvRel K A H (Z.set i (gV w)) (Y.set i (gV v)):=by
 show#[by simp[h.1],λj w' q=>?_]
 rw[IS]at q ⊢
 by_cases e:i=j
 ·subst e;rw[Hf rfl]at q ⊢
  by_cases hl:i < Z.length
  ·rw[Hf hl]at q;rw[Hf (h.1 ▸ hl)];cases q;exact#[v,rfl,r]
  ·rw[Hl hl]at q; cases q
 ·rw[Hl e]at q ⊢;exact h.2 j w' q
abbrev Wr (H:Hp)(p:GP):Prop:=H p=td\/(∃xs,H p=gV (.lst xs))\/(∃φ,H p=gV (.ext φ))\/∃ks,H p=gV (.dK ks)
def Wr.lst {p:GP}{xs:Gy V}(h:H p=gV (.lst xs)):Wr H p:=.inr (.inl #[xs,h])
def Wr.ext {p:GP}{φ:HP->Prop}(h:H p=gV (.ext φ)):Wr H p:=.inr (.inr (.inl #[φ,h]))
def Wr.ne_tup {p a:GP}{xs:Gy V}(hp:Wr H p)(h:H a=gV (.tup xs)):a≠p:=by
 intro e; subst e
 rcases hp with q|⟨xs,q⟩|⟨φ,q⟩|⟨ks,q⟩ <;> (rw[h]at q; cases q)
def Wr.ne_frz {p a:GP}{o:IJ}{u:HO}(hp:Wr H p)(h:H a=gV (.frz o u)):a≠p:=by
 intro e; subst e
 rcases hp with q|⟨xs,q⟩|⟨φ,q⟩|⟨ks,q⟩ <;> (rw[h]at q; cases q)
def Wr.ne_rng {p a:GP}{lo hi:G1}(hp:Wr H p)(h:H a=gV (.rng lo hi)):a≠p:=by
 intro e; subst e
 rcases hp with q|⟨xs,q⟩|⟨φ,q⟩|⟨ks,q⟩ <;> (rw[h]at q; cases q)
def qY {p:GP}{o:HO}(hp:Wr H p){a:GP}{vs:Gy V}(h:SqT K H a vs):SqT K (bH H p o) a vs:=by
 rcases h with(h|⟨o',h⟩)|h
 ·exact .inl (.inl (by rw[aG (hp.ne_tup h)]; exact h))
 ·exact .inl (.inr #[o',by rw[aG (hp.ne_frz h)]; exact h])
 ·exact .inr h
def uX {p:GP}{o:HO}(hp:Wr H p){a:GP}{vs:Gy V}(h:FroL K H a vs):FroL K (bH H p o) a vs:=by
 rcases h with⟨o',h⟩|h
 ·exact .inl #[o',by rw[aG (hp.ne_frz h)]; exact h]
 ·exact .inr h
def c9 {p:GP}{o:HO}(hp:Wr H p):Ext K A H A (bH H p o):=#[λ_ _ h=>h,λ_ _ h=>qY hp h,λ_ _ _ h=>by rw[aG (hp.ne_frz h)]; exact h]
def dP {p:GP}{o:HO}(hp:H p=td):Ext K A H (A++[p]) (bH H p o):=
 #[λi a h=>by rw[Hr (G9.mp h).1]; exact h,λ_ _ h=>qY (.inl hp) h,λ_ _ _ h=>by rw[aG (Wr.ne_frz (.inl hp) h)]; exact h]
def ObjRel.keep {p a:GP}{o:HO}{b:O}(hp:Wr H p)(hne:b.mut=true->a≠p)(e:Ext K A H A' (bH H p o))(h:ObjRel wd K A H a b):ObjRel wd K A' (bH H p o) a b:=by
 cases b with
 | lst ws=>
  obtain⟨vs,q,r⟩:=h;exact#[vs,by rw[aG (hne rfl)]; exact q,r.mono e]
 | fro ws=>
  obtain⟨vs,q,r⟩:=h;exact#[vs,uX hp q,r.mono e]
 | rng lo hi=>
  have h:H a=gV (.rng lo hi):=h;change bH H p o a=gV (.rng lo hi);rw[aG (hp.ne_rng h)];exact h
 | dic U=>
  obtain⟨xs,q,r⟩:=h;exact#[xs,by rw[aG (hne rfl)]; exact q,r.mono e]
 | frd U=>
  obtain⟨ob,xs,q,r⟩:=h;exact#[ob,xs,by rw[aG (hp.ne_frz q)]; exact q,r.mono e]
def ObjRel.there {a:GP}{b:O}(h:ObjRel wd K A H a b)(hm:b.mut=true):H a≠td:=by
 cases b with
 | lst ws=>obtain⟨vs,q,r⟩:=h; rw[q]; intro z; cases z
 | fro ws=>cases hm
 | rng lo hi=>cases hm
 | dic U=>obtain⟨vs,q,r⟩:=h; rw[q]; intro z; cases z
 | frd ws=>cases hm
def ObjRel.wr {a:GP}{b:O}(h:ObjRel wd K A H a b)(hm:b.mut=true):Wr H a:=by
 cases b with
 | lst ws=>obtain⟨vs,q,r⟩:=h; exact .lst q
 | fro ws=>cases hm
 | rng lo hi=>cases hm
 | dic U=>obtain⟨vs,q,r⟩:=h; exact .ext q
 | frd ws=>cases hm
def StoreOk.lay {S:aa}{p:GP}{o:HO}(h:StoreOk wd K A H S)(hp:H p=td):StoreOk wd K A (bH H p o) S:=
 #[h.len,h.nd,λi b a e ea=>(h.obj i b a e ea).keep (.inl hp) (λhm z=>(h.obj i b a e ea).there hm (z ▸ hp)) (c9 (.inl hp))]
def StoreOk.pushO {S:aa}{p:GP}{n:O}{u:HO}(h:StoreOk wd K A H S)(hp:H p=td)(r:ObjRel wd K (A++[p]) (bH H p u) p n):StoreOk wd K (A++[p]) (bH H p u) (S++[n]):=by
 have ex:Ext K A H (A++[p]) (bH H p u):=dP hp;have old:∀ {i:GJ} {o:O} {a:GP},(S++[n])[i]?=gV o->(A++[p])[i]?=gV a->i < S.length->S[i]?=gV o/\A[i]?=gV a:=λ{i o a} e ea hl=>by
  rw[Hr hl]at e;rw[Hr (h.len ▸ hl)]at ea;exact#[e,ea]
 have new:∀ {i:GJ} {o:O} {a:GP},(S++[n])[i]?=gV o->(A++[p])[i]?=gV a->¬ i < S.length->i=S.length/\o=n/\a=p:=λ{i o a} e ea hl=>by
  have hi:i=S.length:=by
   have:=(G9.mp e).1;simp at this;omega
  subst hi;simp at e;rw[<- h.len]at ea;simp at ea;exact#[rfl,e.symm,ea.symm]
 show#[by simp[h.len],λi j a o u e1 m1 e2 m2 a1 a2=>?_,λi o a e ea=>?_]
 ·by_cases hi:i < S.length <;> by_cases hj:j < S.length
  ·obtain⟨x1,y1⟩:=old e1 a1 hi;obtain⟨x2,y2⟩:=old e2 a2 hj;exact h.nd i j a o u x1 m1 x2 m2 y1 y2
  ·obtain⟨x1,y1⟩:=old e1 a1 hi;obtain⟨_,_,z⟩:=new e2 a2 hj;subst z;exact absurd hp ((h.obj i o a x1 y1).there m1)
  ·obtain⟨x2,y2⟩:=old e2 a2 hj;obtain⟨_,_,z⟩:=new e1 a1 hi;subst z;exact absurd hp ((h.obj j u a x2 y2).there m2)
  ·rw[(new e1 a1 hi).1,(new e2 a2 hj).1]
 ·by_cases hi:i < S.length
  ·obtain⟨x1,y1⟩:=old e ea hi;exact(h.obj i o a x1 y1).keep (.inl hp) (λhm z=>(h.obj i o a x1 y1).there hm (z ▸ hp)) ex
  ·obtain⟨_,rfl,rfl⟩:=new e ea hi;exact r
def StoreOk.push {S:aa}{p:GP}{ws:Gy W}{vs:Gy V}(h:StoreOk wd K A H S)(hp:H p=td)(r:RelL K A H ws vs):StoreOk wd K (A++[p]) (bH H p (.lst vs)) (S++[.lst ws]):=
 h.pushO hp #[vs,ba,r.mono (dP hp)]
def StoreOk.writeO {S:aa}{i:GJ}{p:GP}{o0 n:O}{u:HO}(h:StoreOk wd K A H S)(e:S[i]?=gV o0)(m0:o0.mut=true)(ea:A[i]?=gV p)(r:ObjRel wd K A (bH H p u) p n) :
  StoreOk wd K A (bH H p u) (S.set i n)/\Ext K A H A (bH H p u):=by
 have hw:Wr H p:=(h.obj i _ p e ea).wr m0;have ex:Ext K A H A (bH H p u):=c9 hw;have hl:i < S.length:=(G9.mp e).1;show#[#[by simp[h.len],λj k a o u e1 m1 e2 m2 a1 a2=>?_,λj o a e1 a1=>?_],ex]
 ·have get:∀ {j:GJ} {o:O},(S.set i n)[j]?=gV o->o.mut=true->∃o',S[j]?=gV o'/\o'.mut=true:=λ{j o} q m=>by
   rw[IS]at q
   by_cases z:i=j
   ·subst z; exact#[_,e,m0]
   ·rw[Hl z]at q; exact#[o,q,m]
  obtain⟨o',x1,m1'⟩:=get e1 m1;obtain⟨u',x2,m2'⟩:=get e2 m2;exact h.nd j k a o' u' x1 m1' x2 m2' a1 a2
 ·rw[IS]at e1
  by_cases z:i=j
  ·subst z;rw[Hf rfl,Hf hl]at e1;cases e1;rw[ea]at a1; cases a1
   exact r
  ·rw[Hl z]at e1;exact(h.obj j o a e1 a1).keep hw (λhm q=>z (h.nd i j p _ o e m0 e1 hm ea (q ▸ a1))) ex
def StoreOk.write {S:aa}{i:GJ}{p:GP}{ws:Gy W}{us:Gy V}{ws0:Gy W}(h:StoreOk wd K A H S)(e:S[i]?=gV (.lst ws0))(ea:A[i]?=gV p)(r:RelL K A H ws us) :
  StoreOk wd K A (bH H p (.lst us)) (S.set i (.lst ws))/\Ext K A H A (bH H p (.lst us)):=
 h.writeO e rfl ea #[us,ba,r.mono (c9 ((h.obj i _ p e ea).wr rfl))]
end
abbrev gN (S:aa)(i:GJ):GH (Gy W):=match S[i]? with
 | some (.lst xs)=>gV xs
 | some (.fro xs)=>gV xs
 | _=>td
abbrev mC (S:aa)(i:GJ):GH (Gy W):=match S[i]? with
 | some (.lst xs)=>gV xs
 | _=>td
abbrev la (S:aa)(xs:Gy W):GH (W×aa):=if xs.length<=sizeLine then gV (.ref S.length,S++[.lst xs])else td
abbrev pZ (S:aa)(xs:Gy W):GH (W×aa):=if xs.length<=sizeLine then gV (.tup xs,S)else td
abbrev ym (j:G1):Hi:=decide (0 < j)&&decide (j < 1073741824)
abbrev sO (i j:G1):Hi:=(decide (-(2 ^ 64) < i)&&decide (i < 2 ^ 64))||(decide (-(2 ^ 64) < j)&&decide (j < 2 ^ 64))
abbrev Do (i j:G1):Hi:=decide (0<=j)&&decide (j<=1000000)&&decide (i.natAbs < 2 ^ 64)
inductive BOp where|add|sub|mul|fdiv|mod|pow
 deriving J5
abbrev xI (c:G1->G1->Hi)(f:G1->G1->G1)(x y:W)(S:aa):GH (W×aa):=match x,y with
 | .int i,.int j=>if c i j then gV (.int (f i j),S)else td
 | _,_=>td
abbrev uY (x y:W)(S:aa):GH (W×aa):=match x with
 | .int i=>match y with
  | .int j=>gV (.int (i+j),S)
  | _=>td
 | .str x=>match y with
  | .str y=>if x.length+y.length<=sizeLine then gV (.str (x++y),S)else td
  | _=>td
 | .tup xs=>match y with
  | .tup ys=>pZ S (xs++ys)
  | _=>td
 | .ref i=>match y with
  | .ref j=>match mC S i,mC S j with
   | some xs,gV ys=>la S (xs++ys)
   | _,_=>td
  | _=>td
 | _=>td
abbrev yn (x y:W)(S:aa):GH (W×aa):=match x with
 | .str x=>match y with
  | .int k=>if k < 2 ^ 24/\-(2 ^ 24)<=k/\x.length*k.toNat<=sizeLine then gV (.str (Pz x k),S)else td
  | _=>td
 | .ref i=>match y with
  | .int k=>match mC S i with
   | some xs=>if k < 2 ^ 24/\-(2 ^ 24)<=k/\xs.length*k.toNat<=sizeLine then la S (Hy k.toNat xs).flatten else td
   | none=>td
  | _=>td
 | x=>xI sO (· * ·) x y S
abbrev g5:BOp->W->W->aa->GH (W×aa)
 | .add,x,y,S=>uY x y S
 | .sub,x,y,S=>xI (λ_ _=>true) (· - ·) x y S
 | .mul,x,y,S=>yn x y S
 | .fdiv,x,y,S=>xI (λ_ j=>ym j) (· / ·) x y S
 | .mod,x,y,S=>xI (λ_ j=>decide (0 < j)) (· % ·) x y S
 | .pow,x,y,S=>xI Do (λi j=>i ^ j.toNat) x y S
abbrev BOp.py:BOp->M7
 | .add=>.Add|.sub=>.Sub|.mul=>.Mult|.fdiv=>.FloorDiv|.mod=>.Mod|.pow=>.Pow
section
variable (X:Cx)
inductive PostE (J:Gy (GP×IJ))(Y:L2.St)(A:Gy GP)(H:Hp)(S':aa)(w:W)(u:GC)(s':GF):Prop
 | mk (v:V) (H':Hp) (A':Gy GP) (i:Inv X J Y H' s') (r:RelV v u) (e:Ext X.K A H A' H') (so:StoreOk X.w X.K A' H' S') (rl:Rel X.K A' H' w v):PostE J Y A H S' w u s'
noncomputable abbrev FE:=Fm->aa->GH (W×aa)
abbrev LOp (f:GC->GC->OQ GC)(g:W->W->aa->GH (W×aa)):Prop:=
 ∀(J:Gy (GP×IJ)) (s:GF) (Y:L2.St) (H:Hp) (A:Gy GP) (S:aa) (x y:W) (a b:V) (u v:GC) (w:W) (S':aa),Inv X J Y H s->StoreOk X.w X.K A H S->
  Rel X.K A H x a->RelV a u->Rel X.K A H y b->RelV b v->g x y S=gV (w,S')->wpAny (model X.prog X.w) X.A (f u v) (PostE X J Y A H S' w) X.xe s
end
section
variable{X:Cx}
def jU {S:aa}{i:GJ}{xs:Gy W}(h:mC S i=gV xs):S[i]?=gV (.lst xs):=by
 unfold mC at h;split at h
 ·cases h; assumption
 ·cases h
def dQ {A:Gy GP}{H:Hp}{S:aa}{i:GJ}{xs:Gy W}{a:GP}(so:StoreOk X.w X.K A H S)(h:mC S i=gV xs)(ea:A[i]?=gV a):∃vs,H a=gV (.lst vs)/\RelL X.K A H xs vs:=
 so.obj i _ a (jU h) ea
def ce {A:Gy GP}{H:Hp}{S:aa}{i:GJ}{xs:Gy W}{a:GP}(so:StoreOk X.w X.K A H S)(h:gN S i=gV xs)(ea:A[i]?=gV a):∃vs,SqL X.K H a vs/\RelL X.K A H xs vs:=by
 unfold gN at h;split at h
 ·cases h;obtain⟨vs,q,r⟩:=so.obj i _ a (by assumption) ea
  exact#[vs,.of q,r]
 ·cases h;obtain⟨vs,q,r⟩:=so.obj i _ a (by assumption) ea
  exact#[vs,q.sq,r]
 ·cases h
def jA {S S':aa}{xs:Gy W}{w:W}(h:la S xs=gV (w,S')):xs.length<=sizeLine/\w=.ref S.length/\S'=S++[.lst xs]:=by
 unfold la at h;split at h
 ·cases h; exact#[by assumption,rfl,rfl]
 ·cases h
def qZ {S S':aa}{xs:Gy W}{w:W}(h:pZ S xs=gV (w,S')):xs.length<=sizeLine/\w=.tup xs/\S'=S:=by
 unfold pZ at h;split at h
 ·cases h; exact#[by assumption,rfl,rfl]
 ·cases h
def yo {A:Gy GP}{H:Hp}{S:aa}{ws:Gy W}{vs:Gy V}{Q:VK}{p:GP}(so:StoreOk X.w X.K A H S)(r:RelL X.K A H ws vs)(hp:H p=td)
  (q:∀v H' A',Ext X.K A H A' H'->StoreOk X.w X.K A' H' (S++[.lst ws])->Rel X.K A' H' (.ref S.length) v->Q v H'):Q (.ref p) (bH H p (.lst vs)):=
 q _ _ (A++[p]) (dP hp) (so.push hp r) (.ref (by rw[<- so.len]; simp))
def yp {A:Gy GP}{H:Hp}{S:aa}{ws:Gy W}{vs:Gy V}{Q:VK}{p:GP}(so:StoreOk X.w X.K A H S)(r:RelL X.K A H ws vs)(hp:H p=td)
  (q:∀v H' A',Ext X.K A H A' H'->StoreOk X.w X.K A' H' S->Rel X.K A' H' (.tup ws) v->Q v H'):Q (.ref p) (bH H p (.tup vs)):=
 q _ _ A (c9 (.inl hp)) (so.lay hp) (.tup (.of ba) (r.mono (c9 (.inl hp))))
abbrev Dp (K:GZ):R2:=λx y H Q=>∃a b xs ys,x=.ref a/\y=.ref b/\SqT K H a xs/\SqT K H b ys/\xs.length+ys.length<=sizeLine/\
 (xs=[]->Q (.ref b) H)/\(ys=[]->Q (.ref a) H)/\(∀p,H p=td->Q (.ref p) (bH H p (.tup (xs++ys))))
def yq:OpR X (binaryOp .Add) (Dp X.K):=by
 intro J s Y H x y v u Q I rx ry h;obtain⟨a,b,xs,ys,rfl,rfl,ha,hb,hz,q0,q1,q2⟩:=h;cases rx;cases ry;obtain⟨its,r1,p1,_⟩:=I.tuple ha;obtain⟨its2,r2,p2,_⟩:=I.tuple hb
 by_cases hx:xs=[]
 ·obtain⟨⟨cls,dd,data,sl⟩,ho,hc,n,hd⟩:=id p1;obtain⟨⟨cls2,dd2,data2,sl2⟩,ho2,hc2,n2,hd2⟩:=id p2;simp only at hc hd hc2 hd2;subst hc hd hc2 hd2;exact Na #[_,ho,rfl] #[_,ho2,rfl] LC MF KF KC (Kn _ _)
   (tuple_addW0 a b its.toArray its2.toArray n n2 dd dd2 sl sl2 (by simp[r1.nil_iff.mpr hx])) #[ho,ho2,#[.ref b,H,I,rfl,q0 hx]]
 ·show HT.ya p1 p2 (λz=>hx (r1.nil_iff.mp z)) (λz=>#[.ref a,H,I,rfl,q1 (r2.nil_iff.mp z)]) (λz=>?_) (by rw[<- r1.length,<- r2.length]; exact hz)
  show#[.ref s.heap.objs.size,_,I.laid (t':=s.toks) (o:=.tup (xs++ys)) (λb ob q=>GN _ q) (GY _) ?_,rfl,q2 _ (I.hok.fresh (GY _))]
  exact#[by rw[GQ]; exact hz,_,r1.append r2,Nx _ _]
def RelL.nil_iff {K:GZ}{A:Gy GP}{H:Hp}{ws:Gy W}{vs:Gy V}(r:RelL K A H ws vs):vs=[]↔ws=[]:=by
 cases r <;> simp
def p4:OpR X (binaryOp .Mult) (λx y H Q=>∃z k,x=.str z/\y=.int k/\MulOk z k/\Q (.str (Pz z k)) H):=by
 intro J s Y H x y v u Q I rx ry h;obtain⟨z,k,rfl,rfl,ok,q⟩:=h;obtain⟨t,rfl⟩:=rx;obtain⟨t',rfl⟩:=ry;exact SB.mul ok λt2 k2=>#[.str _,H,I.tok _,#[_,rfl],q]
def uZ {x:Hc}{k:G1}(h1:k < 16777216)(h2 : -16777216<=k)(h3:x.length*k.toNat<=sizeLine):MulOk x k:=by
 have hs:sizeLine=16777216:=HR;rw[hs]at h3;show#[?_,λa b=>?_,λ_ _=>?_]
 ·rw[Bool.or_eq_false_iff];exact#[Hs ∅,Hs ∅]
 ·have hk:0 < k:=∅
  have e:(x.length:G1)*k=((x.length*k.toNat:GJ):G1):=by
   rw[Int.natCast_mul,My ∅]
  intro hgt;have h4:(2 ^ 63 - 1:G1) < (x.length:G1)*k:=(Int.ediv_lt_iff_lt_mul hk).mp hgt;rw[e]at h4;generalize x.length*k.toNat=z at h3 h4;omega
 ·unfold Ol;rw[hs];exact Hs ∅
inductive EndV (wd:HD)(K:GZ)(A:Gy GP)(H:Hp)(S':aa)(w:W)(v:V)(H':Hp):Prop
 | mk (A':Gy GP) (e:Ext K A H A' H') (so:StoreOk wd K A' H' S') (r:Rel K A' H' w v):EndV wd K A H S' w v H'
def EndV.here {A:Gy GP}{H:Hp}{S:aa}{w:W}{v:V}(so:StoreOk X.w X.K A H S)(r:Rel X.K A H w v):EndV X.w X.K A H S w v H:=#[A,.refl,so,r]
def EndV.lst {A:Gy GP}{H:Hp}{S:aa}{ws:Gy W}{vs:Gy V}{p:GP}(so:StoreOk X.w X.K A H S)(r:RelL X.K A H ws vs)(hp:H p=td):EndV X.w X.K A H (S++[.lst ws]) (.ref S.length) (.ref p) (bH H p (.lst vs)):=
 yo (Q:=EndV X.w X.K A H (S++[.lst ws]) (.ref S.length)) so r hp λv H' A' a b c=>#[A',a,b,c]
def EndV.tup {A:Gy GP}{H:Hp}{S:aa}{ws:Gy W}{vs:Gy V}{p:GP}(so:StoreOk X.w X.K A H S)(r:RelL X.K A H ws vs)(hp:H p=td):EndV X.w X.K A H S (.tup ws) (.ref p) (bH H p (.tup vs)):=
 yp (Q:=EndV X.w X.K A H S (.tup ws)) so r hp λv H' A' a b c=>#[A',a,b,c]
def EP.post {J:Gy (GP×IJ)}{Y:L2.St}{A:Gy GP}{H:Hp}{S':aa}{w:W}{u:GC}{s':GF}(h:EP X J Y (EndV X.w X.K A H S' w) u s'):PostE X J Y A H S' w u s':=by
 obtain⟨v,H',I',r,A',x,y,z⟩:=h;exact#[v,H',A',I',r,x,y,z]
def OpR.go {f:GC->GC->OQ GC}{r:R2}(h:OpR X f r){J:Gy (GP×IJ)}{Y:L2.St}{A:Gy GP}{H:Hp}{S':aa}{w:W}{s:GF}{a b:V}{u v:GC}(I:Inv X J Y H s)(ru:RelV a u)(rv:RelV b v)
  (q:r a b H (EndV X.w X.K A H S' w)):wpAny (model X.prog X.w) X.A (f u v) (PostE X J Y A H S' w) X.xe s:=bm (h J s Y H a b u v _ I ru rv q) λ_ _=>EP.post
def yr:LOp X (binaryOp .Add) (g5 .add):=by
 intro J s Y H A S x y a b u v w S' I so rx ru ry rv e;cases rx with
 | int=>cases ry with
  | int=>cases e; exact OpR.go Be I ru rv #[_,_,rfl,rfl,.here so .int]
  | _=>cases e
 | str=>cases ry with
  | str=>
   dsimp only[g5,uY]at e;split at e
   ·cases e; exact OpR.go pT I ru rv #[_,_,rfl,rfl,by assumption,.here so .str]
   ·cases e
  | _=>cases e
 | tup h1 r1=>cases ry with
  | tup h2 r2=>
   obtain⟨hl,rfl,rfl⟩:=qZ (show pZ S _=_ from e)
   rw[GQ,r1.length,r2.length]at hl;show OpR.go yq I ru rv #[_,_,_,_,rfl,rfl,h1,h2,hl,λz=>?_,λz=>?_,λp hp=>.tup so (r1.append r2) hp]
   ·have z':=r1.nil_iff.mp z;subst z';exact .here so (.tup h2 r2)
   ·have z':=r2.nil_iff.mp z;subst z';rw[Iv];exact .here so (.tup h1 r1)
  | _=>cases e
 | ref h1=>cases ry with
  | ref h2=>
   dsimp only[g5,uY]at e;split at e
   ·obtain⟨hl,rfl,rfl⟩:=jA e;obtain⟨vs,q1,r1⟩:=dQ so (by assumption) h1
    obtain⟨us,q2,r2⟩:=dQ so (by assumption) h2
    rw[GQ,r1.length,r2.length]at hl;exact OpR.go Bv I ru rv #[_,_,_,_,rfl,rfl,q1,q2,hl,λp hp=>.lst so (r1.append r2) hp]
   ·cases e
  | _=>cases e
 | _=>cases e
def nP {f:GC->GC->OQ GC}{c:G1->G1->Hi}{g:G1->G1->G1}{r:R2}(h:OpR X f r)(hr:∀i j H Q,c i j=true->Q (.int (g i j)) H->r (.int i) (.int j) H Q):LOp X f (xI c g):=by
 intro J s Y H A S x y a b u v w S' I so rx ru ry rv e;cases rx with
 | int=>cases ry with
  | int=>
   unfold xI at e;dsimp only at e;split at e
   ·cases e; exact OpR.go h I ru rv (hr _ _ _ _ (by assumption) (.here so .int))
   ·cases e
  | _=>cases e
 | _=>cases e
def yt:LOp X (binaryOp .Sub) (g5 .sub):=nP Bf λ_ _ _ _ _ q=>#[_,_,rfl,rfl,q]
def yu {i j:G1}(h:sO i j=true):CMul i j:=by
 unfold sO at h;rw[ID,GK,GK,Hm,Hm,Hm,Hm]at h;exact h
def yv:LOp X (binaryOp .Mult) (g5 .mul):=by
 have hI:LOp X (binaryOp .Mult) (xI sO (· * ·)):=nP Bg λ_ _ _ _ h q=>#[_,_,rfl,rfl,yu h,q]
 intro J s Y H A S x y a b u v w S' I so rx ru ry rv e;cases x with
 | str z=>
  cases rx with
  | str=>cases ry with
   | int=>
    dsimp only[g5,yn]at e;split at e
    ·rename_i hc;cases e; exact OpR.go p4 I ru rv #[_,_,rfl,rfl,uZ ∅ ∅ hc.2.2,.here so .str]
    ·cases e
   | _=>cases e
 | ref z=>
  cases rx with
  | ref h1=>cases ry with
   | int=>
    dsimp only[g5,yn]at e;split at e
    ·split at e
     ·rename_i hc;obtain⟨hl,rfl,rfl⟩:=jA e;obtain⟨vs,q1,r1⟩:=dQ so (by assumption) h1
      rw[r1.length]at hc;exact OpR.go Bw I ru rv #[_,_,_,rfl,rfl,q1,∅,∅,hc.2.2,λp hp=>.lst so (r1.rep _) hp]
     ·cases e
    ·cases e
   | _=>cases e
 | _=>exact hI _ _ _ _ _ _ _ _ _ _ _ _ _ _ I so rx ru ry rv e
def u4:LOp X (binaryOp .FloorDiv) (g5 .fdiv):=nP xV λ_ _ _ _ h q=>#[_,_,rfl,rfl,by
 unfold ym at h;rw[GK,Hm,Hm]at h;exact h,q]
def yw:LOp X (binaryOp .Mod) (g5 .mod):=nP Bh λ_ _ _ _ h q=>#[_,_,rfl,rfl,HS h,q]
def yy:LOp X (binaryOp .Pow) (g5 .pow):=nP Bj λ_ _ _ _ h q=>#[_,_,rfl,rfl,by
 unfold Do at h;rw[GK,GK,Hm,Hm,Hm]at h;exact#[h.1.1,h.1.2,h.2],q]
def q8 (o:BOp):LOp X (binaryOp o.py) (g5 o):=by
 cases o
 ·exact yr
 ·exact yt
 ·exact yv
 ·exact u4
 ·exact yw
 ·exact yy
end
abbrev jv (f:W->W->GH Hi):Gy W->Gy W->GH Hi
 | [],[]=>gV true
 | [],_::_=>gV false
 | _::_,[]=>gV false
 | x::xs,y::ys=>match f x y,jv f xs ys with
  | some a,gV b=>gV (a&&b)
  | _,_=>td
abbrev b2 (b:Hi):G1:=if b then 1 else 0
abbrev iE (S:aa):GJ->W->W->GH Hi
 | _,.non,y=>match y with
  | .non=>gV true
  | _=>td
 | _,.bl a,y=>match y with
  | .bl b=>gV (a==b)
  | _=>td
 | _,.int a,y=>match y with
  | .int b=>gV (a==b)
  | _=>td
 | _,.str a,y=>match y with
  | .str b=>gV (a==b)
  | _=>td
 | 0,_,_=>td
 | d+1,.tup xs,y=>match y with
  | .tup ys=>jv (iE S d) xs ys
  | _=>td
 | d+1,.ref i,y=>match y with
  | .ref j=>match mC S i,mC S j with
   | some xs,gV ys=>if xs.length=ys.length then jv (iE S d) xs ys else gV false
   | _,_=>td
  | _=>td
section
variable{X:Cx}{J:Gy (GP×IJ)}{Y:L2.St}{H:Hp}{s:GF}{A:Gy GP}{S:aa}
abbrev RU (K:GZ)(A:Gy GP)(H:Hp)(w:W)(u:GC):Prop:=∃v,Rel K A H w v/\RelV v u
def q9 {ws:Gy W}{vs:Gy V}{us:Gy GC}(r:RelL X.K A H ws vs)(q:Vals vs us):∀(j:GJ) (h1:j < ws.length) (h2:j < us.length),RU X.K A H ws[j] us[j]:=by
 induction ws generalizing vs us with
 | nil=>intro j h1; simp at h1
 | cons w ws ih=>
  cases r with
  | cons r1 rr=>
   cases q with
   | cons q1 qq=>
    intro j h1 h2;cases j with
    | zero=>exact#[_,r1,q1]
    | succ j=>exact ih rr qq j (by simpa using h1) (by simpa using h2)
def u5 {ws:Gy W}{u:GC}(I:Inv X J Y H s)(h:RU X.K A H (.tup ws) u):∃a its,u=.ref a/\M4 s.heap a its/\its.size=ws.length/\ws.length<=sizeLine/\∀(j:GJ) (h1:j < ws.length) (h2:j < its.size),RU X.K A H ws[j] its[j]:=by
 obtain⟨v,r,q⟩:=h;cases r with
 | tup sq rl=>
  obtain⟨its,rv,ht,hz⟩:=I.tuple sq;show#[_,its.toArray,q,ht,by rw[G6,<- rv.length,rl.length],by rw[rl.length]; exact hz,λj h1 h2=>?_]
  have:=q9 rl rv j h1 (by simpa using h2)
  simpa using this
def u6 {i:GJ}{ws:Gy W}{u:GC}(I:Inv X J Y H s)(so:StoreOk X.w X.K A H S)(e:mC S i=gV ws)(h:RU X.K A H (.ref i) u):∃a its,u=.ref a/\A[i]?=gV a/\s.heap.IsList a its/\its.size=ws.length/\ws.length<=sizeLine/\∀(j:GJ) (h1:j < ws.length) (h2:j < its.size),RU X.K A H ws[j] its[j]:=by
 obtain⟨v,r,q⟩:=h;cases r with
 | ref ea=>
  obtain⟨vs,hq,rl⟩:=dQ so e ea;obtain⟨its,rv,ht,hz⟩:=I.list (.of hq);show#[_,its.toArray,q,ea,ht.isList,by rw[G6,<- rv.length,rl.length],by rw[rl.length]; exact hz,λj h1 h2=>?_]
  have:=q9 rl rv j h1 (by simpa using h2)
  simpa using this
def jV {f:W->W->GH Hi}:∀ {xs ys:Gy W} {k:Hi},jv f xs ys=gV k->∃e:GJ->Hi,(∀(j:GJ) (h1:j < xs.length) (h2:j < ys.length),f xs[j] ys[j]=gV (e j))/\
  k=((GL (min xs.length ys.length)).all e&&xs.length==ys.length)
 | [],[],k,h=>#[λ_=>true,λj h1=>by simp at h1,by cases h; rfl]
 | [],_::_,k,h=>#[λ_=>true,λj h1=>by simp at h1,by cases h; simp]
 | _::_,[],k,h=>#[λ_=>true,λj h1 h2=>by simp at h2,by cases h; simp]
 | x::xs,y::ys,k,h=>by
  dsimp only[jv]at h;split at h
  ·rename_i a b ha hb;cases h;obtain⟨e,h1,h2⟩:=jV hb;show#[λj=>match j with|0=>a|j+1=>e j,λj hj1 hj2=>?_,?_]
   ·cases j with
    | zero=>exact ha
    | succ j=>exact h1 j (by simpa using hj1) (by simpa using hj2)
   ·subst h2;simp only[HJ,Nat.add_min_add_right,LO,HN,Ni,Bool.and_assoc];congr 2;simp
  ·cases h
def yz (I:Inv X J Y H s)(so:StoreOk X.w X.K A H S):∀(d:GJ) {x y:W} {v:V} {k:Hi},Rel X.K A H x v->Rel X.K A H y v->iE S d x y=gV k->k=true:=by
 intro d
 induction d with
 | zero=>
  intro x y v k rx ry e;cases rx with
  | non=>cases ry; cases e; rfl
  | bl=>cases ry; cases e; exact Im _
  | int=>cases ry; cases e; exact Im _
  | str=>cases ry; cases e; exact Im _
  | tup _ _=>cases e
  | ref _=>cases e
 | succ d ih=>
  have lists:∀ {xs ys:Gy W} {vs:Gy V} {k:Hi},RelL X.K A H xs vs->RelL X.K A H ys vs->jv (iE S d) xs ys=gV k->k=true:=by
   intro xs
   induction xs with
   | nil=>
    intro ys vs k r1 r2 e;cases r1; cases r2; cases e; rfl
   | cons x xs ihx=>
    intro ys vs k r1 r2 e;cases r1 with
    | cons p1 q1=>
     cases r2 with
     | cons p2 q2=>
      dsimp only[jv]at e;split at e
      ·rename_i a b ha hb;cases e;rw[ih p1 p2 ha,ihx q1 q2 hb];rfl
      ·cases e
  intro x y v k rx ry e;cases rx with
  | non=>cases ry; cases e; rfl
  | bl=>cases ry; cases e; exact Im _
  | int=>cases ry; cases e; exact Im _
  | str=>cases ry; cases e; exact Im _
  | tup h1 r1=>
   cases ry with
   | tup h2 r2=>
    rw[I.tuple_inj h1 h2]at r1;exact lists r1 r2 e
   | ref ea=>cases e
  | ref ea=>
   cases ry with
   | tup h2 r2=>cases e
   | ref eb=>
    dsimp only[iE]at e;split at e
    ·rename_i xs ys hx hy;have:=so.nd _ _ _ _ _ (jU hx) rfl (jU hy) rfl ea eb;subst this;rw[hx]at hy; cases hy
     rw[Hf rfl]at e;obtain⟨vs,q,r⟩:=dQ so hx ea;exact lists r r e
    ·cases e
def be (A:Hz):A.in1.units=A.units+1:=rfl
noncomputable abbrev CI (B:Hz)(s:GF)(u v:GC)(k:Hi):Prop:=SeqAt.RcAt B s u v k/\SeqAt.RcNeAt B s u v (!k)/\KR B s u v k
open SeqAt in
def Ae (I:Inv X J Y H s)(so:StoreOk X.w X.K A H S):∀(d:GJ) (B:Hz) {x y:W} {u v:GC} {k:Hi},B.units+d < cLine->RU X.K A H x u->RU X.K A H y v->iE S d x y=gV k->CI B s u v k:=by
 have non:∀ {B:Hz} {y:W} {u v:GC} {k:Hi} {d:GJ},RU X.K A H .non u->RU X.K A H y v->iE S d .non y=gV k->CI B s u v k:=by
  intro B y u v k d ⟨_,rx,ra⟩ ⟨_,ry,rb⟩ e;cases rx;cases(show u=HZ from ra)
  cases y with
  | non=>
   have e:gV (true)=gV k:=by cases d <;> exact e
   cases e;cases ry;cases(show v=HZ from rb)
   exact#[.none_none,.none_none,.same _]
  | _=>cases d <;> cases e
 have bl:∀ {B:Hz} {b:Hi} {y:W} {u v:GC} {k:Hi} {d:GJ},RU X.K A H (.bl b) u->RU X.K A H y v->iE S d (.bl b) y=gV k->CI B s u v k:=by
  intro B b y u v k d ⟨_,rx,ra⟩ ⟨_,ry,rb⟩ e;cases rx;cases(show u=J6 _ from ra)
  cases y with
  | bl c=>
   have e:gV (b==c)=gV k:=by cases d <;> exact e
   cases e;cases ry;cases(show v=J6 _ from rb)
   exact#[.bool_bool _ _,.bool_bool _ _,.bool_bool _ _]
  | _=>cases d <;> cases e
 have int:∀ {B:Hz} {b:G1} {y:W} {u v:GC} {k:Hi} {d:GJ},RU X.K A H (.int b) u->RU X.K A H y v->iE S d (.int b) y=gV k->CI B s u v k:=by
  intro B b y u v k d ⟨_,rx,ra⟩ ⟨_,ry,rb⟩ e;cases rx;obtain⟨t0,rfl⟩ : ∃t,u=KQ _ t:=ra;cases y with
  | int c=>
   have e:gV (b==c)=gV k:=by cases d <;> exact e
   cases e;cases ry;obtain⟨t,rfl⟩ : ∃t,v=KQ _ t:=rb;exact#[.int_int _ _ _ _,.int_int _ _ _ _,.int_int _ _ _ _]
  | _=>cases d <;> cases e
 have str:∀ {B:Hz} {b:Hc} {y:W} {u v:GC} {k:Hi} {d:GJ},RU X.K A H (.str b) u->RU X.K A H y v->iE S d (.str b) y=gV k->CI B s u v k:=by
  intro B b y u v k d ⟨_,rx,ra⟩ ⟨_,ry,rb⟩ e;cases rx;obtain⟨t0,rfl⟩ : ∃t,u=LB _ t:=ra;cases y with
  | str c=>
   have e:gV (b==c)=gV k:=by cases d <;> exact e
   cases e;cases ry;obtain⟨t,rfl⟩ : ∃t,v=LB _ t:=rb;exact#[.str_str _ _ _ _,.str_str _ _ _ _,.str_str _ _ _ _]
  | _=>cases d <;> cases e
 intro d
 induction d with
 | zero=>
  intro B x y u v k hu rx ry e;cases x with
  | non=>exact non rx ry e
  | bl b=>exact bl rx ry e
  | int b=>exact int rx ry e
  | str b=>exact str rx ry e
  | _=>cases e
 | succ d ih=>
  intro B x y u v k hu rx ry e;have hu0:B.units < cLine:=∅
  have hu1:B.in1.units+d < cLine:=by rw[be]; omega
  have rx0:=rx;have ry0:=ry;have fin:∀ {a b:GP},u=.ref a->v=.ref b->RcAt B s u v k->RcNeAt B s u v (!k)->CI B s u v k:=by
   intro a b ea eb h1 h2;subst ea eb;show#[h1,h2,?_]
   by_cases hab:a=b
   ·subst hab;obtain⟨v1,q1,z1⟩:=rx0;obtain⟨v2,q2,z2⟩:=ry0;have e12:v1=v2:=z1.inj z2;subst e12;have:=yz I so (d+1) q1 q2 e;subst this;exact EqAt.same _
   ·exact EqAt.of_refs hab h1
  cases x with
  | non=>exact non rx ry e
  | bl b=>exact bl rx ry e
  | int b=>exact int rx ry e
  | str b=>exact str rx ry e
  | tup xs=>
   cases y with
   | tup ys=>
    obtain⟨a,its,rfl,ht,hs,_,hi⟩:=u5 I rx;obtain⟨b,its2,rfl,ht2,hs2,_,hi2⟩:=u5 I ry;obtain⟨f,h1,h2⟩:=jV (show jv (iE S d) xs ys=gV k from e)
    have he:∀j (h1:j < its.size) (h2:j < its2.size),EqAt B.in1 s its[j] its2[j] (f j):=λj j1 j2=>
     (ih B.in1 hu1 (hi j (hs ▸ j1) j1) (hi2 j (hs2 ▸ j2) j2) (h1 j (hs ▸ j1) (hs2 ▸ j2))).2.2
    rw[<- hs,<- hs2]at h2;subst h2;exact fin rfl rfl (RcAt.tuples ht ht2 hu0 he) (RcNeAt.tuples ht ht2 hu0 he)
   | _=>cases e
  | ref i=>
   cases y with
   | ref j=>
    dsimp only[iE]at e;split at e
    ·rename_i ws ws2 hw hw2;obtain⟨a,its,rfl,_,hl,hs,_,hi⟩:=u6 I so hw rx;obtain⟨b,its2,rfl,_,hl2,hs2,_,hi2⟩:=u6 I so hw2 ry;split at e
     ·rename_i hlen;obtain⟨f,h1,h2⟩:=jV e;have he:∀j (h1:j < its.size) (h2:j < its2.size),EqAt B.in1 s its[j] its2[j] (f j):=λj j1 j2=>
       (ih B.in1 hu1 (hi j (hs ▸ j1) j1) (hi2 j (hs2 ▸ j2) j2) (h1 j (hs ▸ j1) (hs2 ▸ j2))).2.2
      have hk:k=(GL its.size).all f:=by rw[h2,hs,hlen]; simp
      subst hk;exact fin rfl rfl (RcAt.lists hl hl2 (by rw[hs,hs2,hlen]) hu0 he) (RcNeAt.lists hl hl2 (by rw[hs,hs2,hlen]) hu0 he)
     ·rename_i hlen;cases e;have hb:(its.size != its2.size)=true:=by rw[hs,hs2]; simpa using hlen
      exact fin rfl rfl (RcAt.lists_lengths hl hl2 hb hu0) (RcNeAt.lists_lengths hl hl2 hb hu0)
    ·cases e
   | _=>cases e
end
abbrev LtAt (B:Hz)(s:GF)(u v:GC)(k:Hi):Prop:=
 ∀(prog:Ht) (w:HD) (E:GC->GF->Prop) (Q:GC->GF->Prop),Q (.bool k) s->wpAny (model prog w) B (richCompare .Lt u v) Q E s
inductive LexR (B:Hz)(s:GF):Gy GC->Gy GC->Hi->Prop
 | nn:LexR B s [] [] false
 | nc {v:GC} {vs:Gy GC}:LexR B s [] (v::vs) true
 | cn {v:GC} {vs:Gy GC}:LexR B s (v::vs) [] false
 | eq {u v:GC} {us vs:Gy GC} {k:Hi}:KR B s u v true->LexR B s us vs k->LexR B s (u::us) (v::vs) k
 | ne {u v:GC} {us vs:Gy GC} {k:Hi}:KR B s u v false->LtAt B s u v k->LexR B s (u::us) (v::vs) k
section
open PySem.SeqAt
open PySem.AutoSeq1 (wpAny_loadPart')
open PySem.MeetsSeq PySem.MeetsSeq2 PySem.MeetsSeq3
def mD (l b:GP)(items items2:HE GC)(n n2:GJ)(dd dd2:GH GP)(sl sl2:HE (GH GC))(k:Hi) :
  Meets (LP.«tuple.__lt__» #[[.ref l,.ref b],[]])
   (λB R s=>s.heap.get? l=gV { cls:=.type "tuple",dict:=dd,data:=.seq items n,slots:=sl }/\s.heap.get? b=gV { cls:=.type "tuple",dict:=dd2,data:=.seq items2 n2,slots:=sl2 }/\
    LexR B.in1 s items.toList items2.toList k/\R (.ok (.ret (.bool k))) s):=
 .of_wp λprog w A R s h=>by
  obtain⟨hp,g,d,tk,os⟩:=s; obtain⟨hl,hb,hx,h⟩:=h
  have f2:=Ow;have z1:items.toList.length=items.size:=by simp
  have z2:items2.toList.length=items2.size:=by simp
  wp_walk using Ks hl,Ks hb,LD _ (λcj b s'=>b.1=td/\s'=#[hp,g,d,tk,os]/\∃(vs ws:Gy GC),cj=vs.zip ws/\
   LexR A.in1 #[hp,g,d,tk,os] vs ws k/\vs.length+items2.size=ws.length+items.size) _
  case turn=>
   rintro⟨y,x⟩ cj b s' ⟨hb',rfl,vs,ws,hz,hlx,hlen⟩;cases hlx with
   | nn=>rw[Nj]at hz; cases hz
   | nc=>rw[Nj]at hz; cases hz
   | cn=>rw[List.zip_nil_right]at hz; cases hz
   | eq he hr=>
    rw[JX]at hz;injection hz with hyx hrest
    injection hyx with hy hx
    subst hy hx;simp only[HJ]at hlen;show GB (he prog w _ _ ?_)
    wp_walk
    exact#[rfl,rfl,_,_,hrest,hr,∅]
   | ne he hr=>
    rw[JX]at hz;injection hz with hyx hrest
    injection hyx with hy hx
    subst hy hx;show GB (he prog w _ _ ?_);have hri:=hr prog w
    wp_walk using hri
    exact#[_,rfl,by simpa using h]
  case fin=>
   rintro⟨b1,b2⟩ s' ⟨hb',rfl,vs,ws,hz,hlx,hlen⟩;simp only at hb';subst hb';have hv:k=decide (items.size < items2.size):=by
    cases hlx with
    | nn=>simp only[IL]at hlen; exact(Hs ∅).symm
    | nc=>simp only[IL,HJ]at hlen; exact(HI ∅).symm
    | cn=>simp only[IL,HJ]at hlen; exact(Hs ∅).symm
    | eq _ _=>rw[JX]at hz; cases hz
    | ne _ _=>rw[JX]at hz; cases hz
   subst hv
   wp_walk
   exact#[_,rfl,by simpa [Nu]using h]
  case h=>
   exact#[rfl,rfl,items.toList,items2.toList,rfl,hx,∅]
end
def LtAt.tuples {B:Hz}{s:GF}{l b:GP}{items items2:HE GC}{k:Hi}(hl:M4 s.heap l items)(hb:M4 s.heap b items2)(hu:B.units < cLine)(hx:LexR B.in1 s items.toList items2.toList k) :
  LtAt B s (.ref l) (.ref b) k:=λprog w E Q h=>by
 obtain⟨⟨cls,dd,data,sl⟩,ho,hc,n,hd⟩:=id hl;obtain⟨⟨cls2,dd2,data2,sl2⟩,ho2,hc2,n2,hd2⟩:=id hb;simp only at hc hd hc2 hd2;subst hc hd hc2 hd2;exact richCompare_meets_room (op:=.Lt) #[_,ho,rfl] #[_,ho2,rfl] PySem.F.slot_tuple_lt PySem.F.entry_tuple_lt (PySem.F.args_tuple_lt_2 _ _) (mD l b items items2 n n2 dd dd2 sl sl2 k)
  #[ho,ho2,hx,show J6 k≠Value.notImplemented/\Q (.bool k) s from#[(λx=>nomatch x),h]] hu
inductive COp where|eq|ne|lt|le|gt|ge|isin|notin|is|isnot
 deriving J5
abbrev COp.py:COp->NN
 | .eq=>.Eq|.ne=>.NotEq|.lt=>.Lt|.le=>.LtE|.gt=>.Gt|.ge=>.GtE|.isin=>.In|.notin=>.NotIn|.is=>.Is|.isnot=>.IsNot
abbrev aV:W->Hi
 | .non=>true
 | .bl _=>true
 | .int _=>true
 | .str _=>true
 | _=>false
abbrev nH:W->W->Hi
 | .non,.non=>true
 | .bl a,.bl b=>a==b
 | .bl a,.int b=>b2 a==b
 | .int a,.bl b=>a==b2 b
 | .int a,.int b=>a==b
 | .str a,.str b=>a==b
 | _,_=>false
abbrev dc (S:aa):W->GH (Gy W)
 | .tup xs=>gV xs
 | .ref i=>gN S i
 | _=>td
noncomputable abbrev fE:GJ:=20
abbrev yA (x y:W)(S:aa):GH Hi:=match dc S y with
 | some ys=>if aV x&&ys.all aV then gV (ys.any λz=>nH z x)else td
 | none=>td
abbrev u7:W->Hi
 | .non=>true
 | _=>false
abbrev u8 (f:G1->G1->Hi):W->W->GH Hi
 | .int i,.int j=>gV (f i j)
 | _,_=>td
abbrev ut:COp->W->W->aa->GH Hi
 | .eq,x,y,S=>iE S fE x y
 | .ne,x,y,S=>(iE S fE x y).map (!·)
 | .lt,x,y,_=>u8 (λi j=>decide (i < j)) x y
 | .le,x,y,_=>u8 (λi j=>decide (i<=j)) x y
 | .gt,x,y,_=>u8 (λi j=>decide (j < i)) x y
 | .ge,x,y,_=>u8 (λi j=>decide (j<=i)) x y
 | .isin,x,y,S=>yA x y S
 | .notin,x,y,S=>(yA x y S).map (!·)
 | .is,x,y,_=>if u7 y then gV (u7 x)else td
 | .isnot,x,y,_=>if u7 y then gV (!u7 x)else td
abbrev dz (o:COp)(x y:W)(S:aa):GH (W×aa):=(ut o x y S).map λk=>(.bl k,S)
section
variable{X:Cx}
def rc {J:Gy (GP×IJ)}{Y:L2.St}{H:Hp}{s:GF}{A:Gy GP}{S:aa}{k:Hi}(I:Inv X J Y H s)(so:StoreOk X.w X.K A H S):PostE X J Y A H S (.bl k) (.bool k) s:=
 #[.bl k,H,A,I,rfl,.refl,so,.bl]
def yB {o:COp}{x y w:W}{S S':aa}(h:dz o x y S=gV (w,S')):∃k,ut o x y S=gV k/\w=.bl k/\S'=S:=by
 unfold dz at h;rw[GD]at h;obtain⟨k,h1,h2⟩:=h;cases h2;exact#[k,h1,rfl,rfl]
def fF {A:Gy GP}{H:Hp}{w:W}{v:V}(r:Rel X.K A H w v)(f:aV w=true):gC v=true:=by
 cases r <;> first|rfl|cases f
def fU {A:Gy GP}{H:Hp}:∀ {ws:Gy W} {vs:Gy V},RelL X.K A H ws vs->ws.all aV=true->vs.all gC=true
 | _,_,.nil,_=>rfl
 | _,_,.cons r t,f=>by
  rw[HN,GK]at f ⊢;exact#[fF r f.1,fU t f.2]
def re {A:Gy GP}{H:Hp}{x y:W}{u v:V}(r:Rel X.K A H x u)(q:Rel X.K A H y v)(fx:aV x=true)(fy:aV y=true):yg u v=nH x y:=by
 cases r <;> cases q <;> first|rfl|cases fx|cases fy
def rf {A:Gy GP}{H:Hp}{y:W}{v:V}(q:Rel X.K A H y v)(fy:aV y=true):∀ {ws:Gy W} {vs:Gy V},RelL X.K A H ws vs->ws.all aV=true->EH v vs=ws.any λz=>nH z y
 | _,_,.nil,_=>rfl
 | _,_,.cons r t,f=>by
  rw[HN,GK]at f;have:=rf q fy t f.2;unfold EH at this ⊢;rw[Jm,Jm,re r q f.1 fy,this]
def rg {J:Gy (GP×IJ)}{Y:L2.St}{H:Hp}{s:GF}{A:Gy GP}{S:aa}{y:W}{b:V}{ys:Gy W}(so:StoreOk X.w X.K A H S)(r:Rel X.K A H y b)(e:dc S y=gV ys):∃p vs,b=.ref p/\(SqL X.K H p vs\/SqT X.K H p vs)/\RelL X.K A H ys vs:=by
 cases r with
 | tup h1 r1=>cases e; exact#[_,_,rfl,.inr h1,r1]
 | ref ea=>
  obtain⟨vs,h1,r1⟩:=ce so e ea;exact#[_,vs,rfl,.inl h1,r1]
 | _=>cases e
def u9 {neg:Hi}{o:NN}(ho:OpR X (compareOp o) (Fk X.K neg)){J:Gy (GP×IJ)}{Y:L2.St}{H:Hp}{s:GF}{A:Gy GP}{S:aa}{x y:W}{a b:V}{u v:GC}{ys:Gy W}(I:Inv X J Y H s)(so:StoreOk X.w X.K A H S)
  (rx:Rel X.K A H x a) (ru:RelV a u) (ry:Rel X.K A H y b) (rv:RelV b v) (e:dc S y=gV ys) (f:(aV x&&ys.all aV)=true) :
  wpAny (model X.prog X.w) X.A (compareOp o u v) (PostE X J Y A H S (.bl (if neg then !ys.any λz=>nH z x else ys.any λz=>nH z x))) X.xe s:=by
 obtain⟨p,vs,rfl,hq,rl⟩:=rg (J:=J) (Y:=Y) (s:=s) so ry e;rw[GK]at f;show OpR.go ho I ru rv #[p,vs,rfl,hq,fF rx f.1,fU rl f.2,?_];rw[rf rx f.1 rl f.2];exact .here so .bl
def g6 (hu:X.A.units+fE < cLine)(o:COp):LOp X (compareOp o.py) (dz o):=by
 intro J s Y H A S x y a b u v w S' I so rx ru ry rv e;obtain⟨k,ek,e1,e2⟩:=yB e;subst e1;subst e2;clear e
 rename aa=>S
 have twoI:∀ {f:G1->G1->Hi},u8 f x y=gV k->∃i j,x=.int i/\y=.int j/\k=f i j:=by
  intro f h;cases x with
  | int i=>cases y with
   | int j=>cases h; exact#[i,j,rfl,rfl,rfl]
   | _=>cases h
  | _=>cases h
 have hu1:X.A.units+1 < cLine:=by have:fE=20:=rfl; omega
 have ofSq:∀ {c:Hi},yA x y S=gV c->(∃ys,dc S y=gV ys/\(aV x&&ys.all aV)=true/\c=ys.any λz=>nH z x):=by
  intro c h;unfold yA at h;split at h
  ·split at h
   ·cases h; exact#[_,by assumption,by assumption,rfl]
   ·cases h
  ·cases h
 have ofN:∀ {c:Hi},(if u7 y then gV c else td)=gV k->y=.non/\k=c:=by
  intro c h;cases y with
  | non=>cases h; exact#[rfl,rfl]
  | _=>cases h
 cases o with
 | eq=>exact(Ae I so fE X.A hu #[a,rx,ru] #[b,ry,rv] ek).1 _ _ _ _ (rc I so)
 | ne=>
  obtain⟨k',h1,rfl⟩:=GD.mp ek;exact(Ae I so fE X.A hu #[a,rx,ru] #[b,ry,rv] h1).2.1 _ _ _ _ (rc I so)
 | lt=>
  obtain⟨i,j,rfl,rfl,rfl⟩:=twoI ek;cases rx; cases ry
  exact OpR.go Da I ru rv #[_,_,rfl,rfl,.here so .bl]
 | le=>
  obtain⟨i,j,rfl,rfl,rfl⟩:=twoI ek;cases rx; cases ry
  exact OpR.go Db I ru rv #[_,_,rfl,rfl,.here so .bl]
 | gt=>
  obtain⟨i,j,rfl,rfl,rfl⟩:=twoI ek;cases rx; cases ry
  exact OpR.go Dc I ru rv #[_,_,rfl,rfl,.here so .bl]
 | ge=>
  obtain⟨i,j,rfl,rfl,rfl⟩:=twoI ek;cases rx; cases ry
  exact OpR.go De I ru rv #[_,_,rfl,rfl,.here so .bl]
 | isin=>
  obtain⟨ys,h1,h2,rfl⟩:=ofSq ek;exact u9 (neg:=false) sJ I so rx ru ry rv h1 h2
 | notin=>
  obtain⟨c,h,rfl⟩:=GD.mp ek;obtain⟨ys,h1,h2,rfl⟩:=ofSq h;exact u9 (neg:=true) my I so rx ru ry rv h1 h2
 | is=>
  obtain⟨rfl,rfl⟩:=ofN ek;cases ry;show OpR.go Bl I ru rv #[rfl,?_];cases rx <;> exact .here so .bl
 | isnot=>
  obtain⟨rfl,rfl⟩:=ofN ek;cases ry;show OpR.go xW I ru rv #[rfl,?_];cases rx <;> exact .here so .bl
end
end Mi
namespace HT
open PySem PyProof.Rows
section
variable{prog:Ht}{w:HD}{A:Hz}{E:GC->GF->Prop}{s:GF}
def gw {t sl:GP}{items:HE GC}{vl vu:GC}{lo hi:GH G1}{Q:GC->GF->Prop}(ht:M4 s.heap t items)(hs:s.heap.IsSliceOf sl vl vu .none)(pl:Lb vl lo)(pu:Lb vu hi)
  (hw:ci items.size 0 lo=0/\ci items.size items.size hi=items.size) (h:Q (.ref t) s):wpAny (model prog w) A (getItem (.ref t) (.ref sl)) Q E s:=by
 obtain⟨os,hos,hcs,hds⟩:=id hs;have hTs:s.TypeIs (.ref sl) "slice":=#[os,hos,hcs];unfold getItem
 try with_reducible show IC ?_
 first|refine GB (GU ?_)|skip
 show GB (Nb ht.typeIs #v[] ?_)
 show GB (Ik (name:=Jk "__getitem__") ht.typeIs IV
  (Ix IV ht.typeIs Mx ?_ (MT _ _)))
 change wpAny _ _ (J8 (.ref t) >>= _) _ _ s;show GB (Op ht ?_);show GB (K4 hTs ?_);rw[Hf #v[]]
 show GB (eH hs pl pu ?_);have hyes:((((ci items.size 0 lo:GJ):G1)==0&&(1:G1)==1&&(ci items.size items.size hi - ci items.size 0 lo)==items.size)=true):=by
  rw[hw.1,hw.2];simp
 change wpAny _ _ (if (((ci items.size 0 lo:GJ):G1)==0&&(1:G1)==1&&(ci items.size items.size hi - ci items.size 0 lo)==items.size)=true then _ else _) _ _ s
 rw[Hf hyes];unfold Ob;show GB (GB (K4 ht.typeIs (GU ?_)));rw[Hf #v[]]
 exact GB (MQ (GB (GU (GU #[_,rfl,GU h]))))
end
end HT
namespace Mi
open PySem PySem.Spec PyProof.Rows L2
abbrev sP (x y:W)(S:aa):GH (W×aa):=match x,y with
 | .tup xs,.int i=>(nM xs i).map λw=>(w,S)
 | .ref r,.int i=>match gN S r with
  | some xs=>(nM xs i).map λw=>(w,S)
  | none=>td
 | .str x,.int i=>if x.length<=sizeLine then(nM x.cps.toList i).map λc=>(.str #[[c].toArray],S)else td
 | _,_=>td
abbrev jw (xs:Gy W)(lo hi:GH G1):Gy W:=(xs.drop (HT.ci xs.length 0 lo)).take (HT.ci xs.length xs.length hi - HT.ci xs.length 0 lo)
abbrev mE (x:W)(lo hi:GH G1)(S:aa):GH (W×aa):=match x with
 | .tup xs=>gV (.tup (jw xs lo hi),S)
 | .ref r=>match gN S r with
  | some xs=>gV (.ref S.length,S++[.lst (jw xs lo hi)])
  | none=>td
 | _=>td
abbrev sQ (o i v:W)(S:aa):GH aa:=match o,i with
 | .ref r,.int k=>match mC S r with
  | some xs=>match qW xs.length k with
   | some j=>gV (S.set r (.lst (xs.set j v)))
   | none=>td
  | none=>td
 | _,_=>td
section
variable (X:Cx)
abbrev LIx (g:W->W->aa->GH (W×aa)):Prop:=
 ∀(value slice:Hh) (J:Gy (GP×IJ)) (s:GF) (Y:L2.St) (H:Hp) (A:Gy GP) (S:aa) (x y:W) (a b:V) (u v:GC) (w:W) (S':aa),Inv X J Y H s->StoreOk X.w X.K A H S->
  Rel X.K A H x a->RelV a u->Rel X.K A H y b->RelV b v->g x y S=gV (w,S')->subscripted slice false u v=operate [u,v] (getItem u v)->wpAny (model X.prog X.w) X.A (subscriptTail value slice u v) (PostE X J Y A H S' w) X.xe s
abbrev LSl (g:W->GH G1->GH G1->aa->GH (W×aa)):Prop:=
 ∀(J:Gy (GP×IJ)) (s:GF) (Y:L2.St) (H:Hp) (A:Gy GP) (S:aa) (x:W) (a:V) (v vl vu:GC) (lo hi:GH G1) (sl:GP) (w:W) (S':aa),Inv X J Y H s->StoreOk X.w X.K A H S->
  Rel X.K A H x a->RelV a v->s.heap.IsSliceOf sl vl vu .none->Lb vl lo->Lb vu hi->g x lo hi S=gV (w,S')->
  ∃T id,typeLookup (.type T) "__getitem__" = pure (gV (.builtin id))/\s.TypeIs v T/\wpAny (model X.prog X.w) X.A (getItem v (.ref sl)) (PostE X J Y A H S' w) X.xe s
abbrev LSet (g:W->W->W->aa->GH aa):Prop:=
 ∀(J:Gy (GP×IJ)) (s:GF) (Y:L2.St) (H:Hp) (A:Gy GP) (S:aa) (o i x:W) (ao ai ax:V) (uo ui ux:GC) (S':aa),Inv X J Y H s->StoreOk X.w X.K A H S->
  Rel X.K A H o ao->RelV ao uo->Rel X.K A H i ai->RelV ai ui->Rel X.K A H x ax->RelV ax ux->g o i x S=gV S'->
  wpAny (model X.prog X.w) X.A (setItem uo ui ux) (λ_ s'=>∃H' A',Inv X J Y H' s'/\Ext X.K A H A' H'/\StoreOk X.w X.K A' H' S') X.xe s
abbrev LCall (f:GC)(g:Gy W->aa->GH (W×aa)):Prop:=
 ∀(J:Gy (GP×IJ)) (s:GF) (Y:L2.St) (H:Hp) (A:Gy GP) (S:aa) (xs:Gy W) (vs:Gy V) (us:Gy GC) (w:W) (S':aa),Inv X J Y H s->StoreOk X.w X.K A H S->
  RelL X.K A H xs vs->Vals vs us->g xs S=gV (w,S')->wpAny (model X.prog X.w) X.A (call f us) (PostE X J Y A H S' w) X.xe s
abbrev je (id:Ir)(g:W->Gy W->aa->GH (W×aa)):Prop:=
 ∀(J:Gy (GP×IJ)) (s:GF) (Y:L2.St) (H:Hp) (A:Gy GP) (S:aa) (x:W) (a:V) (u:GC) (xs:Gy W) (vs:Gy V) (us:Gy GC) (w:W) (S':aa),Inv X J Y H s->StoreOk X.w X.K A H S->
  Rel X.K A H x a->RelV a u->RelL X.K A H xs vs->Vals vs us->g x xs S=gV (w,S')->wpAny (model X.prog X.w) X.A (call (.builtin id) (u::us)) (PostE X J Y A H S' w) X.xe s
end
section
variable{X:Cx}{J:Gy (GP×IJ)}{Y:L2.St}{H:Hp}{s:GF}{A:Gy GP}{S:aa}
def IxR.go {r:R2}(h:IxR X r){S':aa}{w:W}{a b:V}{u v:GC}{value slice:Hh}(I:Inv X J Y H s)(ru:RelV a u)(rv:RelV b v)(q:r a b H (EndV X.w X.K A H S' w))(hs:subscripted slice false u v=operate [u,v] (getItem u v)) :
  wpAny (model X.prog X.w) X.A (subscriptTail value slice u v) (PostE X J Y A H S' w) X.xe s:=bm (h value slice J s Y H a b u v _ I ru rv q hs) λ_ _=>EP.post
def CallR.go {f:GC}{r:Gy V->Hp->VK->Prop}(h:CallR X f r){S':aa}{w:W}{vs:Gy V}{us:Gy GC}(I:Inv X J Y H s)(rv:Vals vs us)(q:r vs H (EndV X.w X.K A H S' w)) :
  wpAny (model X.prog X.w) X.A (call f us) (PostE X J Y A H S' w) X.xe s:=bm (h J s Y H vs us _ I rv q) λ_ _=>EP.post
def MtR.go {id:Ir}{r:V->Gy V->Hp->VK->Prop}(h:MtR X id r){S':aa}{w:W}{a:V}{u:GC}{vs:Gy V}{us:Gy GC}(I:Inv X J Y H s)(ru:RelV a u)(rv:Vals vs us)(q:r a vs H (EndV X.w X.K A H S' w)) :
  wpAny (model X.prog X.w) X.A (call (.builtin id) (u::us)) (PostE X J Y A H S' w) X.xe s:=bm (h J s Y H a vs u us _ I ru rv q) λ_ _=>EP.post
def rh {xs:Gy W}{vs:Gy V}{i:G1}{w:W}(r:RelL X.K A H xs vs)(e:nM xs i=gV w):∃v,nM vs i=gV v/\Rel X.K A H w v:=by
 unfold nM at e ⊢;rw[r.length]at e;cases q:qW vs.length i with
 | none=>rw[q]at e; cases e
 | some j=>
  rw[q]at e;obtain⟨v,h1,h2⟩:=r.get (show xs[j]?=gV w from e)
  exact#[v,h1,h2]
def Go (hu:X.A.units+10 < cLine):LIx X sP:=by
 intro value slice J s Y H A S x y a b u v w S' I so rx ru ry rv e hs;cases rx with
 | tup h1 r1=>cases ry with
  | int=>
   (dsimp only[sP]at e; simp only[GD]at e)
   obtain⟨w',e1,e2⟩:=e;cases e2;obtain⟨z,h2,r2⟩:=rh r1 e1;exact IxR.go Br I ru rv #[_,_,_,_,rfl,rfl,h1,h2,.here so r2] hs
  | _=>cases e
 | ref ea=>cases ry with
  | int=>
   dsimp only[sP]at e;split at e
   ·rename_i ws hw;rw[GD]at e;obtain⟨w',e1,e2⟩:=e;cases e2;obtain⟨vs,h1,r1⟩:=ce so hw ea;obtain⟨z,h2,r2⟩:=rh r1 e1;exact IxR.go ye I ru rv #[_,_,_,_,rfl,rfl,h1,h2,.here so r2] hs
   ·cases e
  | _=>cases e
 | str=>cases ry with
  | int=>
   dsimp only[sP]at e;split at e
   ·rw[GD]at e;obtain⟨c,e1,e2⟩:=e;cases e2;exact IxR.go Bs I ru rv #[_,_,_,rfl,rfl,by assumption,e1,.here so .str] hs
   ·cases e
  | _=>cases e
 | _=>cases ry <;> cases e
def mF {xs:Gy W}{vs:Gy V}{lo hi:GH G1}(r:RelL X.K A H xs vs):RelL X.K A H (jw xs lo hi) (jS vs lo hi):=by
 unfold jw jS;rw[r.length];exact(r.drop _).take _
def yC:Dk X (λx lo hi H Q=>∃a xs,x=.ref a/\SqT X.K H a xs/\(jS xs lo hi=xs->Q (.ref a) H)/\∀p,H p=td->Q (.ref p) (bH H p (.tup (jS xs lo hi)))):=by
 intro J s Y H x v vl vu lo hi sl Q I rx hs pl pu h;obtain⟨a,xs,rfl,hx,q0,q⟩:=h
 by_cases hw:(HT.ci xs.length 0 lo=0/\HT.ci xs.length xs.length hi=xs.length)
 ·cases rx;obtain⟨its,r,ht,hz⟩:=I.tuple hx;have hlen:its.toArray.size=xs.length:=by rw[G6]; exact r.length.symm
  show#["tuple",_,PyProof.Rows.slot_tuple_getitem.lookup,ht.typeIs,?_];show HT.gw ht hs pl pu (by rw[hlen]; exact hw) #[.ref a,H,I,rfl,q0 ?_]
  unfold jS;rw[hw.1,hw.2];simp
 ·exact Bq J s Y H (.ref a) v vl vu lo hi sl Q I rx hs pl pu #[a,xs,rfl,hx,hw,q]
def Gp:LSl X mE:=by
 intro J s Y H A S x a v vl vu lo hi sl w S' I so rx rv hs pl pu e;cases rx with
 | tup h1 r1=>
  cases e;obtain⟨T,id,z1,z2,z3⟩:=yC J s Y H _ v vl vu lo hi sl (EndV X.w X.K A H S (.tup (jw _ lo hi))) I rv hs pl pu #[_,_,rfl,h1,λq=>.here so (.tup h1 (by have:=mF (lo:=lo) (hi:=hi) r1; rw[q]at this; exact this)),λp hp=>.tup so (mF r1) hp]
  exact#[T,id,z1,z2,bm z3 λ_ _=>EP.post]
 | ref ea=>
  dsimp only[mE]at e;split at e
  ·rename_i ws hw;cases e;obtain⟨vs,h1,r1⟩:=ce so hw ea;obtain⟨T,id,z1,z2,z3⟩:=yf J s Y H _ v vl vu lo hi sl (EndV X.w X.K A H (S++[.lst (jw ws lo hi)]) (.ref S.length)) I rv hs pl pu #[_,_,rfl,h1,λp hp=>.lst so (mF r1) hp]
   exact#[T,id,z1,z2,bm z3 λ_ _=>EP.post]
  ·cases e
 | _=>cases e
def lset (hu:X.A.units+10 < cLine):LSet X sQ:=by
 intro J s Y H A S o i x ao ai ax uo ui ux S' I so ro ruo ri rui rx rux e;cases ro with
 | ref ea=>cases ri with
  | int=>
   dsimp only[sQ]at e;split at e
   ·rename_i ws hw;split at e
    ·rename_i j hj;cases e;obtain⟨vs,h1,r1⟩:=dQ so hw ea;rw[r1.length]at hj;obtain⟨so',ex⟩:=so.write (jU hw) ea (r1.set rx j);exact bm (uQ J s Y H _ _ _ uo ui ux (λH'=>H'=bH H _ (.lst (vs.set j ax))) I ruo rui rux #[_,_,_,_,rfl,rfl,h1,hj,rfl]) λ_ s' #[H',I',e']=>#[_,A,e' ▸ I',ex,so']
    ·cases e
   ·cases e
  | _=>cases e
 | _=>cases ri <;> cases e
abbrev p7 (xs:Gy W)(S:aa):GH (W×aa):=match xs with
 | [.tup ys]=>gV (.int ys.length,S)
 | [.str y]=>if y.length<=sizeLine then gV (.int y.length,S)else td
 | [.ref i]=>(gN S i).map λys=>(.int ys.length,S)
 | _=>td
def sR:LCall X (.builtin "len") p7:=by
 intro J s Y H A S xs vs us w S' I so rl rv e;cases rl with
 | nil=>cases e
 | cons r t=>
  cases t with
  | cons _ _=>cases r <;> cases e
  | nil=>
   cases r with
   | tup h1 r1=>cases e; rw[r1.length]; exact CallR.go jP I rv #[_,_,rfl,.inr #[_,h1,rfl],.here so .int]
   | str=>
    dsimp only[p7]at e;split at e
    ·cases e; exact CallR.go jP I rv #[_,_,rfl,#[by assumption,rfl],.here so .int]
    ·cases e
   | ref ea=>
    (dsimp only[p7]at e; simp only[GD]at e)
    obtain⟨ws,hw,e2⟩:=e;cases e2;obtain⟨vs',h1,r1⟩:=ce so hw ea;rw[r1.length];exact CallR.go jP I rv #[_,_,rfl,.inl #[_,h1,rfl],.here so .int]
   | _=>cases e
abbrev gE (xs:Gy W)(S:aa):GH (W×aa):=match xs with
 | [x]=>match dc S x with
  | some ys=>gV (.ref S.length,S++[.lst ys])
  | none=>td
 | _=>td
def gO:LCall X (.type "list") gE:=by
 intro J s Y H A S xs vs us w S' I so rl rv e;cases rl with
 | nil=>cases e
 | cons r t=>
  cases t with
  | cons _ _=>cases e
  | nil=>
   dsimp only[gE]at e;split at e
   ·rename_i ys hy;cases e;obtain⟨p,vs',rfl,hq,r1⟩:=rg (J:=J) (Y:=Y) (s:=s) so r hy;exact CallR.go mz I rv #[p,vs',rfl,hq,λl hl=>.lst so r1 hl]
   ·cases e
abbrev jW (xs:Gy W)(S:aa):GH (W×aa):=match xs with
 | [.tup ys]=>gV (.tup ys,S)
 | [.ref i]=>match gN S i with
  | some ys=>gV (.tup ys,S)
  | none=>td
 | _=>td
def jf:LCall X (.type "tuple") jW:=by
 intro J s Y H A S xs vs us w S' I so rl rv e;cases rl with
 | nil=>cases e
 | cons r t=>
  cases t with
  | cons _ _=>cases r <;> cases e
  | nil=>
   cases r with
   | tup h1 r1=>cases e; exact CallR.go gD I rv #[_,_,rfl,.inr #[h1,.here so (.tup h1 r1)]]
   | ref ea=>
    dsimp only[jW]at e;split at e
    ·rename_i ys hy;cases e;obtain⟨vs',h1,r1⟩:=ce so hy ea;exact CallR.go gD I rv #[_,_,rfl,.inl #[h1,λl hl=>.tup so r1 hl]]
    ·cases e
   | _=>cases e
abbrev Dq (xs:Gy W)(S:aa):GH (W×aa):=match xs with
 | [.int i]=>gV (.int (if i < 0 then -i else i),S)
 | _=>td
def sS:LCall X (.builtin "abs") Dq:=by
 intro J s Y H A S xs vs us w S' I so rl rv e;cases rl with
 | nil=>cases e
 | cons r t=>
  cases t with
  | cons _ _=>cases r <;> cases e
  | nil=>
   cases r with
   | int=>cases e; exact CallR.go uI I rv #[_,rfl,.here so .int]
   | _=>cases e
abbrev Dr (xs:Gy W)(S:aa):GH (W×aa):=match xs with
 | [.int i]=>gV (.int i,S)
 | [.bl b]=>gV (.int (if b then 1 else 0),S)
 | _=>td
def sT:LCall X (.type "int") Dr:=by
 intro J s Y H A S xs vs us w S' I so rl rv e;cases rl with
 | nil=>cases e
 | cons r t=>
  cases t with
  | cons _ _=>cases r <;> cases e
  | nil=>
   cases r with
   | int=>cases e; exact CallR.go lv I rv (.inl #[_,rfl,.here so .int])
   | bl=>cases e; exact CallR.go lv I rv (.inr #[_,rfl,.here so .int])
   | _=>cases e
abbrev g7 (x:W)(xs:Gy W)(S:aa):GH (W×aa):=match x,xs with
 | .ref i,[y]=>match mC S i with
  | some ys=>if ys.length < sizeLine then gV (.non,S.set i (.lst (ys++[y])))else td
  | none=>td
 | _,_=>td
def iF {i:GJ}{p:GP}{ws ws0:Gy W}{us:Gy V}(so:StoreOk X.w X.K A H S)(e:mC S i=gV ws0)(ea:A[i]?=gV p)(r:RelL X.K A H ws us){w:W}{v:V}(rw':Rel X.K A H w v) :
  EndV X.w X.K A H (S.set i (.lst ws)) w v (bH H p (.lst us)):=by
 obtain⟨so',ex⟩:=so.write (jU e) ea r;exact#[A,ex,so',rw'.mono ex]
def mG:je X "list.append" g7:=by
 intro J s Y H A S x a u xs vs us w S' I so rx ru rl rv e;cases rx with
 | ref ea=>
  cases rl with
  | nil=>cases e
  | cons r t=>
   cases t with
   | cons _ _=>cases e
   | nil=>
    dsimp only[g7]at e;split at e
    ·rename_i ys hy;split at e
     ·rename_i hl;cases e;obtain⟨vs',h1,r1⟩:=dQ so hy ea;rw[r1.length]at hl;exact MtR.go sK I ru rv #[_,_,_,rfl,rfl,h1,hl,iF so hy ea (r1.append #v[r]) .non]
     ·cases e
    ·cases e
 | _=>cases e
abbrev jB (x:W)(xs:Gy W)(S:aa):GH (W×aa):=match x,xs with
 | .ref i,[.ref j]=>match mC S i,mC S j with
  | some ys,gV zs=>if ys.length+zs.length<=sizeLine then gV (.non,S.set i (.lst (ys++zs)))else td
  | _,_=>td
 | _,_=>td
def mH:je X "list.extend" jB:=by
 intro J s Y H A S x a u xs vs us w S' I so rx ru rl rv e;cases rx with
 | ref ea=>
  cases rl with
  | nil=>cases e
  | cons r t=>
   cases t with
   | cons _ _=>cases r <;> cases e
   | nil=>
    cases r with
    | ref eb=>
     dsimp only[jB]at e;split at e
     ·rename_i ys zs hy hz;split at e
      ·rename_i hl;cases e;obtain⟨vs',h1,r1⟩:=dQ so hy ea;obtain⟨vs2,h2,r2⟩:=dQ so hz eb;rw[r1.length,r2.length]at hl;exact MtR.go sL I ru rv #[_,_,_,_,rfl,rfl,h1,h2,hl,iF so hy ea (r1.append r2) .non]
      ·cases e
     ·cases e
    | _=>cases e
 | _=>cases e
abbrev yD (x:W)(xs:Gy W)(S:aa):GH (W×aa):=match x,xs with
 | .ref i,[.int k]=>match mC S i with
  | some ys=>if -(2 ^ 63)<=k/\k < 2 ^ 63 then match seqIndex? k ys.length with
   | some j=>match ys[j]? with
    | some y=>gV (y,S.set i (.lst (ys.eraseIdx j)))
    | none=>td
   | none=>td
   else td
  | none=>td
 | _,_=>td
def sU:je X "list.pop" yD:=by
 intro J s Y H A S x a u xs vs us w S' I so rx ru rl rv e;cases rx with
 | ref ea=>
  cases rl with
  | nil=>cases e
  | cons r t=>
   cases t with
   | cons _ _=>cases r <;> cases e
   | nil=>
    cases r with
    | int=>
     dsimp only[yD]at e;split at e
     ·rename_i ys hy;split at e
      ·rename_i hk;split at e
       ·rename_i j hj;split at e
        ·rename_i y hyj;cases e;obtain⟨vs',h1,r1⟩:=dQ so hy ea;obtain⟨v',h2,r2⟩:=r1.get hyj;rw[r1.length]at hj;exact MtR.go uS I ru rv #[_,_,_,_,_,rfl,rfl,h1,hk.1,hk.2,hj,h2,iF so hy ea (r1.eraseIdx j) r2]
        ·cases e
       ·cases e
      ·cases e
     ·cases e
    | _=>cases e
 | _=>cases e
abbrev sV:Gy W->GH (Gy G1)
 | []=>gV []
 | .int x::xs=>(sV xs).map (x :: ·)
 | _::_=>td
abbrev jX (x:W)(xs:Gy W)(S:aa):GH (W×aa):=match x,xs with
 | .ref i,[.int k]=>match mC S i with
  | some ys=>match sV ys with
   | some ns=>gV (.int (ns.count k:GJ),S)
   | none=>td
  | none=>td
 | _,_=>td
def nQ:∀ {ws:Gy W} {vs:Gy V} {us:Gy GC} {ns:Gy G1},RelL X.K A H ws vs->Vals vs us->sV ws=gV ns->Ng us ns
 | _,_,_,ns,.nil,.nil,e=>by cases e; exact .nil
 | _,_,_,ns,.cons r t,.cons q p,e=>by
  cases r with
  | int=>
   simp only[sV,GD]at e;obtain⟨z,e1,e2⟩:=e;subst e2;obtain⟨tk,rfl⟩ : ∃t,_=KQ _ t:=q;exact .cons _ tk (nQ t p e1)
  | _=>cases e
def nR:je X "list.count" jX:=by
 intro J s Y H A S x a u xs vs us w S' I so rx ru rl rv e;cases rx with
 | ref ea=>
  cases rl with
  | nil=>cases e
  | cons r t=>
   cases t with
   | cons _ _=>cases r <;> cases e
   | nil=>
    cases r with
    | int=>
     dsimp only[jX]at e;split at e
     ·rename_i ys hy;split at e
      ·rename_i ns hn;cases e;obtain⟨vs',h1,r1⟩:=dQ so hy ea;cases ru;obtain⟨u',rfl,q'⟩:=rv.one;obtain⟨tk,rfl⟩ : ∃t,u'=KQ _ t:=q';obtain⟨z,its,n,r2,hl,e2⟩:=I.lstM h1;show count_list_ints (ns:=ns) #[_,e2,rfl,n,rfl] (nQ r1 r2 hn) #[.int _,H,A,I.tok _,#[_,rfl],.refl,so,.int]
      ·cases e
     ·cases e
    | _=>cases e
 | _=>cases e
abbrev eE (S:aa):W->GH Hi
 | .non=>gV false
 | .bl b=>gV b
 | .int i=>gV (i != 0)
 | .str y=>if y.length<=sizeLine then gV ((y.length:G1) != 0)else td
 | .tup xs=>gV (!xs.isEmpty)
 | .ref i=>(gN S i).map λxs=>!xs.isEmpty
def jg {ws:Gy W}{vs:Gy V}(r:RelL X.K A H ws vs):(!ws.isEmpty) = !vs.isEmpty:=by cases r <;> rfl
def Ft {x:W}{a:V}{u:GC}{k:Hi}{Q:Hi->GF->Prop}(I:Inv X J Y H s)(so:StoreOk X.w X.K A H S)(rx:Rel X.K A H x a)(ru:RelV a u)(e:eE S x=gV k)(hq:∀s',Inv X J Y H s'->Q k s') :
  wpAny (model X.prog X.w) X.A (truthy u) Q X.xe s:=by
 show bm (Bm J s Y H a u (λb H'=>b=k/\H'=H) I ru #[k,?_,rfl,rfl]) λb s' #[H',I',e1,e2]=>?_
 ·cases rx with
  | non=>cases e; rfl
  | bl=>cases e; rfl
  | int=>cases e; rfl
  | str=>
   simp only[eE]at e;split at e
   ·cases e; exact#[by assumption,rfl]
   ·cases e
  | tup h1 r1=>cases e; exact .inr (.inl #[_,h1,jg r1])
  | ref ea=>
   simp only[eE,GD]at e;obtain⟨ws,hw,e2⟩:=e;subst e2;obtain⟨vs,h1,r1⟩:=ce so hw ea;exact .inl #[_,h1,jg r1]
 ·subst e1 e2;exact hq s' I'
end
section
variable{α:Type}{prog:Ht}{w:HD}{A:Hz}{E:GC->GF->Prop}{s:GF}
def nS:∀ {l:Gy α} {i:GJ} (h:i < l.length),(l[i]::l.eraseIdx i).Perm l
 | x::l,0,_=>.refl _
 | x::l,i+1,h=>(Pu _ _ _).trans ((nS (l:=l) (i:=i) (by simpa using h)).cons x)
end
abbrev sW (S:aa)(i:GJ):GH (G1×G1):=match S[i]? with
 | some (.rng lo hi)=>gV (lo,hi)
 | _=>td
abbrev mI (xs:Gy W)(S:aa):GH (W×aa):=match xs with
 | [.int j]=>if -(2 ^ 62)<=j/\j < 2 ^ 62 then gV (.ref S.length,S++[.rng 0 j])else td
 | _=>td
abbrev yE (lo:G1)(n:GJ):Gy W:=(GL n).map λ(k:GJ)=>.int (lo+(k:G1))
abbrev g8 (xs:Gy W)(S:aa):GH (W×aa):=match xs with
 | [.ref i]=>match sW S i with
  | some (lo,hi)=>if -(2 ^ 62)<=lo/\lo < 2 ^ 62/\-(2 ^ 62)<=hi/\hi < 2 ^ 62/\(hi - lo).toNat<=sizeLine then gV (.ref S.length,S++[.lst (yE lo (hi - lo).toNat)])else td
  | none=>gE [.ref i] S
 | xs=>gE xs S
section
variable{X:Cx}{J:Gy (GP×IJ)}{Y:L2.St}{H:Hp}{s:GF}{A:Gy GP}{S:aa}
def Inv.drawn (I:Inv X J Y H s)(d:Ps):Inv X J Y H { s with drawn:=d }:=#[I.ok,I.os,I.bare,I.base,I.loc,I.cell,I.free,I.freeC,I.pin,I.hok,I.len]
def nU {h':HP}{tk:GJ}{dr:Ps}{D:GP}{n:O}{u:HO}(I:Inv X J Y H s)(so:StoreOk X.w X.K A H S)(hk:∀b o,s.heap.get? b=gV o->h'.get? b=gV o)(hD:s.heap.objs.size<=D)(new:ObjOk X.prog X.w (bH H D u) h' D u)
  (r:H D=td->ObjRel X.w X.K (A++[D]) (bH H D u) D n):PostE X J Y A H (S++[n]) (.ref S.length) (.ref D) { s with heap:=h',toks:=tk,drawn:=dr }:=by
 have hn:H D=td:=I.hok.fresh hD;show#[.ref D,_,A++[D],Mi.Inv.drawn (I.laid (a:=D) (o:=u) (t':=tk) hk hD new) dr,rfl,dP hn,so.pushO hn (r hn),.ref ?_];rw[<- so.len]; simp
def mJ:∀ {vs:Gy V} {us:Gy GC},vs.length=us.length->(∀(i:GJ) v u,vs[i]?=gV v->us[i]?=gV u->L2.RelV v u)->Vals vs us
 | [],[],_,_=>.nil
 | v::vs,u::us,hl,h=>.cons (h 0 v u rfl rfl) (mJ (by simpa using hl) λi v u a b=>h (i+1) v u (by simpa using a) (by simpa using b))
 | [],_::_,hl,_=>by cases hl
 | _::_,[],hl,_=>by cases hl
def mK {K:GZ}{lo:G1}:∀(l:Gy GJ),RelL K A H (l.map λ(k:GJ)=>W.int (lo+(k:G1))) (l.map λ(k:GJ)=>V.int (lo+(k:G1)))
 | []=>.nil
 | _::l=>.cons .int (mK l)
def rj {xs:Gy W}{vs:Gy V}{us:Gy GC}{i:GJ}(rl:RelL X.K A H [.ref i] vs)(rv:Vals vs us):∃a,A[i]?=gV a/\us=[.ref a]:=by
 cases rl with
 | cons r t=>
  cases t;cases r with
  | @ref _ a ea=>
   cases rv with
   | cons ru rv=>
    cases rv;obtain rfl:_=HM a:=ru;exact#[a,ea,rfl]
def nV:LCall X (.type "range") mI:=by
 intro J s Y H A S xs vs us w S' I so rl rv e;unfold mI at e;split at e
 ·rename_i j;split at e
  ·rename_i hb;cases e;cases rl with
   | cons r t=>
    cases t;cases r;cases rv with
    | cons ru rv=>
     cases rv;obtain⟨tk,rfl⟩:=ru;exact OH (nU (dr:=s.drawn) (u:=.rng 0 j) I so (λb o e=>GN _ e) (GY _) #[_,_,_,Hb _ rfl] λ_=>ba)
  ·cases e
 ·cases e
def nW (hh:X.A.handled=td):LCall X (.type "list") g8:=by
 intro J s Y H A S xs vs us w S' I so rl rv e;unfold g8 at e;split at e
 ·rename_i i;split at e
  ·rename_i lo hi hr;split at e
   ·rename_i hb;cases e;obtain⟨a,ea,rfl⟩:=rj (xs:=[]) rl rv;obtain⟨b1,b2,b3,b4,b5⟩:=hb;have hH:H a=gV (.rng lo hi):=by
     unfold sW at hr;split at hr
     ·rename_i hx; cases hr; exact so.obj i _ a hx ea
     ·cases hr
    obtain⟨t,u,v,ho⟩:=I.hok a _ hH;have hn:IQ lo hi 1=((hi - lo).toNat:GJ):=by rw[ME]; split <;> omega
    show call_list_range hh ho (OE b1 b2 b3 b4) hn b5 λh' tk acc c hk hD hacc=>?_
    have hv:Vals ((GL (hi - lo).toNat).map λ(k:GJ)=>V.int (lo+(k:G1))) acc.toList:=by
     show mJ (by rw[Gz,Hg,Hn,hacc.1]) λi v u e1 e2=>?_
     rw[GM,GD]at e1;obtain⟨k,e1,rfl⟩:=e1;obtain⟨hk,rfl⟩:=G9.mp e1;obtain⟨t,rfl⟩:=hacc.2 i u (by rw[<- II]; exact e2)
     exact#[t,by simp]
    show nU (dr:=s.drawn) (u:=.lst ((GL (hi - lo).toNat).map λ(k:GJ)=>V.int (lo+(k:G1)))) I so hk (GY _) #[by simpa using b5,acc.toList,c,hv,by simpa using hD] λhn=>#[_,ba,?_]
    exact mK _
   ·cases e
  ·exact gO J s Y H A S _ vs us w S' I so rl rv e
 ·exact gO J s Y H A S _ vs us w S' I so rl rv e
end
mutual
inductive IsT (h:HP):T->GC->Prop
 | int {i:G1} {t:Py}:IsT h (.int i) (.int i t)
 | str {x:Hc} {t:Py}:IsT h (.str x) (.str x t)
 | tup {ks:Gy T} {a:GP} {o:IJ} {items:HE GC} {n:GJ}:h.get? a=gV o->o.cls=.type "tuple"->o.data=.seq items n->IsTs h ks items.toList->IsT h (.tup ks) (.ref a)
inductive IsTs (h:HP):Gy T->Gy GC->Prop
 | nil:IsTs h [] []
 | cons {k:T} {v:GC} {ks:Gy T} {vs:Gy GC}:IsT h k v->IsTs h ks vs->IsTs h (k::ks) (v::vs)
end
mutual
theorem IsT.inj {h:HP}:∀ {x y:T} {v:GC},IsT h x v->IsT h y v->x=y
 | _,_,_,.int,h2=>by cases h2; rfl
 | _,_,_,.str,h2=>by cases h2; rfl
 | _,_,_,.tup a1 _ d1 t1,h2=>by
  cases h2 with
  | tup a2 _ d2 t2=>
   rw[a1]at a2; cases a2
   rw[d1]at d2; cases d2
   rw[IsTs.inj t1 t2]
theorem IsTs.inj {h:HP}:∀ {x y:Gy T} {v:Gy GC},IsTs h x v->IsTs h y v->x=y
 | _,_,_,.nil,h2=>by cases h2; rfl
 | _,_,_,.cons a b,h2=>by
  cases h2 with
  | cons c d=>rw[IsT.inj a c,IsTs.inj b d]
end
mutual
theorem IsT.keeps {h h':HP}{d:GP}{o:IJ}{es:HE Jd}{ep:GJ}(ho:h.get? d=gV o)(hd:o.data=.dict es ep)(hs:JB d h h'):∀ {x:T} {v:GC},IsT h x v->IsT h' x v
 | _,_,.int=>.int
 | _,_,.str=>.str
 | _,_,.tup (a:=a) a1 c1 d1 t1=>by
  have hne:a≠d:=by
   rintro rfl;rw[a1]at ho; cases ho
   rw[d1]at hd; cases hd
  exact .tup ((hs.2 a hne).trans a1) c1 d1 (IsTs.keeps ho hd hs t1)
theorem IsTs.keeps {h h':HP}{d:GP}{o:IJ}{es:HE Jd}{ep:GJ}(ho:h.get? d=gV o)(hd:o.data=.dict es ep)(hs:JB d h h'):∀ {x:Gy T} {v:Gy GC},IsTs h x v->IsTs h' x v
 | _,_,.nil=>.nil
 | _,_,.cons a b=>.cons (IsT.keeps ho hd hs a) (IsTs.keeps ho hd hs b)
end
def IsTs.length {h:HP}:∀ {x:Gy T} {v:Gy GC},IsTs h x v->x.length=v.length
 | _,_,.nil=>rfl
 | _,_,.cons _ b=>by simp[IsTs.length b]
def IsTs.get {h:HP}:∀ {x:Gy T} {v:Gy GC},IsTs h x v->∀(j:GJ) (h1:j < x.length) (h2:j < v.length),IsT h x[j] v[j]
 | _,_,.cons a _,0,_,_=>a
 | _,_,.cons _ b,j+1,h1,h2=>IsTs.get b j (by simpa using h1) (by simpa using h2)
def dR:∀ {ks:Gy T} (j:GJ) (h:j < ks.length),(ks[j]).depth<=T.depths ks
 | k::ks,0,_=>by simp only[T.depths,List.getElem_cons_zero]; omega
 | k::ks,j+1,h=>by
  have:=dR (ks:=ks) j (by simpa using h)
  simp only[T.depths,List.getElem_cons_succ]; omega
section
variable{prog:Ht}{w:HD}{E:GC->GF->Prop}
mutual
theorem nX:∀(k:T) (v:GC) (A:Hz) (s:GF) (Q:G1->GF->Prop),IsT s.heap k v->A.units+k.depth < cLine->Q (nO w k) { s with toks:=s.toks+k.draws }->wpAny (model prog w) A (pyHash v) Q E s
 | .int i,_,A,s,Q,x,_,h=>by cases x; exact Nv h
 | .str y,_,A,s,Q,x,_,h=>by cases x; exact Nw h
 | .tup ks,_,A,s,Q,x,hu,h=>by
  cases x with
  | @tup _ a o items n hg hc hd hw=>
   simp only[T.depth]at hu;show PySem.W.pyHash_slot (T:="tuple") #[_,hg,hc] F.slot_tuple_hash F.entry_tuple_hash (F.args_tuple_hash_1 _) (beq_builtin_none _) (.inr ∅) ?_
   change wpAny _ _ (J8 (.ref a) >>= _) _ _ s;show GB (wpAny_tupleItemsOf hg hd ?_);show GB ?_;rw[<- MW];show jY ks items.toList A.in1 s #[] _ hw (by rw[be]; omega) λb hb=>?_
   change wpAny _ _ (retInt (Lh b.toList)) _ _ _;rw[hb];show GB (NQ (GU #[_,_,rfl,?_]))
   simpa [T.draws,Ox,nO]using h
theorem jY:∀(ks:Gy T) (vs:Gy GC) (A:Hz) (s:GF) (b:HE G1) (Q:HE G1->GF->Prop),IsTs s.heap ks vs->A.units+T.depths ks < cLine->
  (∀b',b'.toList=b.toList++jT w ks->Q b' { s with toks:=s.toks+T.drawss ks })->
  wpAny (model prog w) A (forIn vs b λx r=>do let h <- pyHash x; pure MX; pure (IM (r.push h))) Q E s
 | [],_,A,s,b,Q,x,_,h=>by cases x; exact GU (h b (by simp[jT]))
 | k::ks,_,A,s,b,Q,x,hu,h=>by
  cases x with
  | cons x1 x2=>
   simp only[T.depths]at hu;rw[L1];show GB (GB (nX k _ A s _ x1 ∅ ?_))
   show GB (GU (GU ?_));show jY ks _ A _ _ Q x2 ∅ λb' hb=>?_
   have:=h b' (by simp[hb,jT])
   simpa [T.drawss,Ox]using this
end
open SeqAt in
def sX:∀(d:GJ) (x y:T) (u v:GC) (B:Hz) (s:GF),x.depth<=d->IsT s.heap x u->IsT s.heap y v->B.units+d < cLine->B.units+y.depth < cLine->EqAt B s u v (decide (x=y))
 | d,.int i,y,_,_,B,s,_,h1,h2,hu,hv=>by
  cases h1;cases h2 with
  | int=>
   rename_i j t2;have:decide (T.int i=T.int j)=(i==j):=by by_cases e:i=j <;> simp[e]
   rw[this]; exact .int_int _ _ _ _
  | str=>rw[Hs (by simp)]; exact .int_str _ _ _ _
  | tup a c dd t=>rw[Hs (by simp)]; exact .int_tuple _ _ #[_,a,c,_,dd] (by simp only[T.depth]at hv; omega)
 | d,.str z,y,_,_,B,s,_,h1,h2,hu,hv=>by
  cases h1;cases h2 with
  | int=>rw[Hs (by simp)]; exact .str_int _ _ _ _
  | str=>
   rename_i z2 t2;have:decide (T.str z=T.str z2)=(z==z2):=by by_cases e:z=z2 <;> simp[e]
   rw[this]; exact .str_str _ _ _ _
  | tup a c dd t=>rw[Hs (by simp)]; exact .str_tuple _ _ #[_,a,c,_,dd] (by simp only[T.depth]at hv; omega)
 | 0,.tup ks,y,_,_,B,s,hd,h1,h2,hu,hv=>by simp[T.depth]at hd
 | d+1,.tup ks,y,_,_,B,s,hd,h1,h2,hu,hv=>by
  have h1':=h1;cases h1 with
  | @tup _ a o items n a1 c1 d1 t1=>
   have hT:s.heap.IsTuple a items:=#[_,a1,c1,_,d1];simp only[T.depth]at hd;cases h2 with
   | int=>rw[Hs (by simp)]; exact .tuple_int _ _ hT ∅
   | str=>rw[Hs (by simp)]; exact .tuple_str _ _ hT ∅
   | @tup ks2 b o2 items2 n2 a2 c2 d2 t2=>
    have hT2:s.heap.IsTuple b items2:=#[_,a2,c2,_,d2]
    by_cases hab:a=b
    ·subst hab;have:T.tup ks=T.tup ks2:=h1'.inj (.tup a2 c2 d2 t2);rw[HI this];exact EqAt.same _
    ·show EqAt.of_refs hab ?_;simp only[T.depth]at hv;have l1:items.size=ks.length:=by rw[<- Hn,t1.length]
     have l2:items2.size=ks2.length:=by rw[<- Hn,t2.length]
     let e:GJ->Hi:=λj=>if h:j < ks.length/\j < ks2.length then decide (ks[j]'h.1=ks2[j]'h.2)else true
     have he:∀j (h1:j < items.size) (h2:j < items2.size),EqAt B.in1 s items[j] items2[j] (e j):=λj j1 j2=>by
      have g1:=t1.get j (l1 ▸ j1) (by simpa using j1)
      have g2:=t2.get j (l2 ▸ j2) (by simpa using j2)
      have q1:=dR (ks:=ks) j (l1 ▸ j1);have q2:=dR (ks:=ks2) j (l2 ▸ j2);have:=sX d _ _ _ _ B.in1 s ∅ g1 g2 (by rw[be]; omega) (by rw[be]; omega)
      change EqAt B.in1 s items[j] items2[j] (if h:j < ks.length/\j < ks2.length then decide (ks[j]'h.1=ks2[j]'h.2)else true)
      rw[Pi #[l1 ▸ j1,l2 ▸ j2]]
      simpa using this
     have:=RcAt.tuples hT hT2 ∅ he
     have hk:((GL (min items.size items2.size)).all e&&items.size==items2.size)=decide (T.tup ks=T.tup ks2):=by
      rw[l1,l2]
      by_cases hl:ks.length=ks2.length
      ·by_cases hq:ks=ks2
       ·subst hq;simp only[JY,Im,MG,decide_true,G7,G2];intro j hj;show(if h:j < ks.length/\j < ks.length then decide (ks[j]'h.1=ks[j]'h.2)else true)=true
        rw[Pi #[hj,hj]]; simp
       ·rw[Hs (by simpa using hq)]
        have:∃j,∃h:j < ks.length,ks[j]≠ks2[j]'(hl ▸ h):=by
         apply Li;intro hn;exact hq (Kc hl λj h1 h2=>Li λz=>hn #[j,h1,z])
        obtain⟨j,hj,hne⟩:=this;rw[L9];apply Or.inl;rw[List.all_eq_false];show#[j,by rw[G2,<- hl,JY]; exact hj,?_]
        show ¬ (if h:j < ks.length/\j < ks2.length then decide (ks[j]'h.1=ks2[j]'h.2)else true)=true
        rw[Pi #[hj,hl ▸ hj]]
        simpa using hne
      ·rw[Hs (by simp; intro z; exact hl (by rw[z])),L9]
       right
       simpa using hl
     rw[hk]at this;exact this
def lF {n:GJ}{v:GC}(h:∀a,v≠.ref a):eqIsQuiet n v=pure true:=by
 cases v with
 | ref a=>exact absurd rfl (h a)
 | _=>first|rfl|simp[eqIsQuiet]|(unfold eqIsQuiet; rfl)
def rm:∀(d:GJ) (k:T) (v:GC) (A:Hz) (s:GF) (Q:Hi->GF->Prop),k.depth<=d->IsT s.heap k v->Q true s->wpAny (model prog w) A (eqIsQuiet d v) Q E s
 | d,.int i,_,A,s,Q,_,x,h=>by cases x; rw[lF (λa=>by simp)]; exact GU h
 | d,.str i,_,A,s,Q,_,x,h=>by cases x; rw[lF (λa=>by simp)]; exact GU h
 | 0,.tup ks,_,A,s,Q,hd,x,h=>by simp[T.depth]at hd
 | d+1,.tup ks,_,A,s,Q,hd,x,h=>by
  cases x with
  | @tup _ a o items n ho hc hdt hi=>
   simp only[T.depth]at hd;have hT:s.TypeIs (.ref a) "tuple":=#[_,ho,hc];unfold eqIsQuiet;show GB (wpAny_specialOf hT F.slot_tuple_eq.lookup ?_);change wpAny _ _ (isInstance (.ref a) (.type "tuple") >>= _) _ _ s;show GB (LF hT isSubtype_tuple_tuple ?_);simp only[MH,Iu,JD];show GB (J9 ho hdt ?_);show GB ?_;change wpAny _ _ (forIn items _ _) _ _ s;rw[<- MW];show LD _ (λcj r s'=>r.1=td/\s'=s/\∃kk,IsTs s.heap kk cj/\T.depths kk<=d) _ ?_ ?_ _ _ #[rfl,rfl,ks,hi,∅]
   ·rintro v cj r s' ⟨hr,rfl,kk,hall,hdk⟩;cases hall with
    | cons q1 q2=>
     simp only[T.depths]at hdk;show GB (rm d _ v _ _ _ ∅ q1 ?_)
     simp only[MH,Iu,JD];exact GU #[rfl,rfl,_,q2,∅]
   ·rintro⟨r1,r2⟩ s' ⟨hr,rfl,_⟩;simp only at hr;subst hr;exact GU h
end
abbrev cH (prog:Ht)(w:HD):HeapKind prog w T where
 is:=λh k a=>IsT h k (.ref a)/\k.depth<=bf
 hash:=nO w
 draws:=T.draws
 room:=λA=>A.units+bf < cLine
 inj:=λhx hy=>hx.1.inj hy.1
 keeps:=λx ho hd hs=>#[x.1.keeps ho hd hs,x.2]
 pyHash:=λhu hk h=>nX _ _ _ _ _ hk.1 (by have:=hk.2; omega) h
 eqBool:=λhu hx hy h=>sX bf _ _ _ _ _ _ hx.2 hx.1 hy.1 hu (by have:=hy.2; omega) _ _ _ _ h
 quiet:=λhk h=>rm 8 _ _ _ _ _ (by have:=hk.2; unfold bf at this; omega) hk.1 h
mutual
def g9:T->Hi
 | .int _=>true
 | .str _=>false
 | .tup xs=>ee xs
def ee:Gy T->Hi
 | []=>true
 | x::xs=>g9 x&&ee xs
end
abbrev jx (S:aa)(i:GJ):GH (Gy (T×W)):=match S[i]? with
 | some (.dic U)=>gV U
 | some (.frd U)=>gV U
 | _=>td
abbrev mL (S:aa)(i:GJ):GH (Gy (T×W)):=match S[i]? with
 | some (.dic U)=>gV U
 | _=>td
abbrev bS (U:Gy (T×W))(k:T):GH W:=(U.find? λp=>decide (p.1=k)).map (·.2)
abbrev d4 (U:Gy (T×W))(k:T)(v:W):Gy (T×W):=
 if (U.any λp=>decide (p.1=k))=true then U.map (λp=>if p.1=k then(p.1,v)else p)else U++[(k,v)]
abbrev gz (w:W):GH T:=match W.t w with
 | some k=>if k.isTup=true/\k.depth<=bf then gV k else td
 | none=>td
def dH {w:W}{k:T}(h:gz w=gV k):k.w=w/\k.isTup=true/\k.depth<=bf:=by
 unfold gz at h;split at h
 ·rename_i k' hk;split at h
  ·rename_i hc;cases h;exact#[W.t_w hk,hc.1,hc.2]
  ·cases h
 ·cases h
def cC (U:Gy (T×W))(k:T)(v:W):(d4 U k v).length<=U.length+1:=by
 unfold d4;split
 ·rw[Gz]; omega
 ·rw[GQ,HJ,IL]; omega
section
variable{X:Cx}{J:Gy (GP×IJ)}{Y:L2.St}{H:Hp}{s:GF}{A:Gy GP}{S:aa}
mutual
theorem mM (I:Inv X J Y H s):∀(k:T) {v:V} {u:GC},Rel X.K A H k.w v->RelV v u->IsT s.heap k u
 | .int i,_,_,r,q=>by
  cases r;obtain⟨t,rfl⟩ : ∃t,_=KQ _ t:=q;exact .int
 | .str x,_,_,r,q=>by
  cases r;obtain⟨t,rfl⟩ : ∃t,_=LB _ t:=q;exact .str
 | .tup ks,_,_,r,q=>by
  simp only[T.w]at r;cases r with
  | tup sq rl=>
   obtain⟨its,rv,⟨o,h1,h2,n,h3⟩,hz⟩:=I.tuple sq;obtain rfl:_=HM _:=q;exact .tup h1 h2 h3 (fW I ks rl (by simpa using rv))
theorem fW (I:Inv X J Y H s):∀(ks:Gy T) {vs:Gy V} {us:Gy GC},RelL X.K A H (T.ws ks) vs->Vals vs us->IsTs s.heap ks us
 | [],_,_,r,q=>by
  simp only[T.ws]at r;cases r; cases q; exact .nil
 | k::ks,_,_,r,q=>by
  simp only[T.ws]at r;cases r with
  | cons r1 r2=>
   cases q with
   | cons q1 q2=>exact .cons (mM I k r1 q1) (fW I ks r2 q2)
end
def iG (I:Inv X J Y H s){k:T}{b:GP}(r:Rel X.K A H k.w (.ref b))(hd:k.depth<=bf):(cH X.prog X.w).is s.heap k b:=#[mM I k r rfl,hd]
def hG {w:W}{k:T}{v:V}{u:GC}(hk:gz w=gV k)(r:Rel X.K A H w v)(q:RelV v u):∃b,v=.ref b/\u=.ref b/\Rel X.K A H k.w (.ref b):=by
 obtain⟨h1,h2,h3⟩:=dH hk;subst h1;cases k with
 | tup ks=>
  simp only[T.w]at r;cases r with
  | tup a b=>exact#[_,rfl,q,by simp only[T.w]; exact .tup a b]
 | _=>cases h2
def KRel.is {U:Gy (T×W)}{xs:Gy (T×GP×GC)}(I:Inv X J Y H s)(r:KRel X.K A H U xs):∀x∈xs,(cH X.prog X.w).is s.heap x.1 x.2.1:=by
 unfold KRel at r
 induction r with
 | nil=>intro x hx; exact nomatch hx
 | @cons p q ps qs h t ih=>
  intro x hx;rcases Hj.mp hx with e|hx
  ·subst e;obtain⟨h1,h2,h3,h4,_⟩:=h;rw[h1]at h3 h4;exact iG I h4 h3
  ·exact ih x hx
def KRel.length {U:Gy (T×W)}{xs:Gy (T×GP×GC)}(r:KRel X.K A H U xs):U.length=xs.length:=Lw r
def KRel.val {U:Gy (T×W)}{xs:Gy (T×GP×GC)}(r:KRel X.K A H U xs)(k:T) :
  (∀w,bS U k=gV w->∃p v,atKey xs k=gV p/\Rel X.K A H w v/\RelV v p.2)/\(bS U k=td->atKey xs k=td):=by
 unfold KRel at r
 induction r with
 | nil=>exact#[λw h=>(nomatch h),λ_=>rfl]
 | @cons p q ps qs h t ih=>
  obtain⟨h1,_,_,_,v,h5,h6⟩:=h
  by_cases e:p.1=k
  ·have e':q.1=k:=h1.symm.trans e;have a1:bS (p::ps) k=gV p.2:=by simp[bS,Jf,e]
   have a2:atKey (q::qs) k=gV q.2:=by simp[atKey,Jf,e']
   rw[a1,a2];exact#[λw hw=>(by cases hw; exact#[_,v,rfl,h5,h6]),λh=>nomatch h]
  ·have e':¬ q.1=k:=λz=>e (h1.trans z)
   have a1:bS (p::ps) k=bS ps k:=by simp[bS,Jf,e]
   have a2:atKey (q::qs) k=atKey qs k:=by simp[atKey,Jf,e']
   rw[a1,a2];exact ih
def KRel.repl {U:Gy (T×W)}{xs:Gy (T×GP×GC)}(r:KRel X.K A H U xs)(k:T){w:W}{v:V}{u:GC}(rw':Rel X.K A H w v)(rv:RelV v u) :
  KRel X.K A H (U.map λp=>if p.1=k then(p.1,w)else p) (xs.map (putAt k u)):=by
 unfold KRel at r ⊢
 induction r with
 | nil=>exact .nil
 | @cons p q ps qs h t ih=>
  rw[HX,HX];show .cons ?_ ih;obtain⟨h1,h2,h3,h4,h5⟩:=h;unfold putAt
  by_cases e:p.1=k
  ·rw[Hf e,Hf (h1.symm.trans e)]; exact#[h1,h2,h3,h4,v,rw',rv]
  ·rw[Hl e,Hl (λz=>e (h1.trans z))]; exact#[h1,h2,h3,h4,h5]
def nZ (k:T):∀U:Gy (T×W),(U.any λp=>decide (p.1=k))=(bS U k).isSome
 | []=>rfl
 | p::r=>by
  rw[Jm]
  by_cases e:p.1=k
  ·have a1:bS (p::r) k=gV p.2:=by simp[bS,Jf,e]
   rw[a1,HI e]; rfl
  ·have a1:bS (p::r) k=bS r k:=by simp[bS,Jf,e]
   rw[a1,Hs e,MJ]; exact nZ k r
def KRel.put {U:Gy (T×W)}{xs:Gy (T×GP×GC)}(r:KRel X.K A H U xs){k:T}{b:GP}{w:W}{v:V}{u:GC}(h1:k.isTup=true)(h2:k.depth<=bf)(h3:Rel X.K A H k.w (.ref b))(rw':Rel X.K A H w v)(rv:RelV v u) :
  KRel X.K A H (d4 U k w) (storedH xs k b u):=by
 have e:(U.any λp=>decide (p.1=k))=(atKey xs k).isSome:=by
  rw[nZ];cases q:bS U k with
  | none=>rw[(r.val k).2 q]; rfl
  | some x=>obtain⟨p,_,h,_⟩:=(r.val k).1 x q; rw[h]; rfl
 unfold d4 storedH;rw[e]
 by_cases q:(atKey xs k).isSome=true
 ·rw[Hf q,Hf q]; exact r.repl k rw' rv
 ·rw[Hl q,Hl q]; exact Paired.snoc r #[rfl,h1,h2,h3,v,rw',rv]
def DicAt.of {h:HP}{a:GP}{xs:Gy (T×GP×GC)}(hz:xs.length<=sizeLine)(hs:(a==sysModules)=false)(d:h.DictOfH (cH X.prog X.w) a xs):DicAt X.w a xs h:=
 let ⟨o,es,ep,h1,h2,h3,h4,_,h6⟩:=d; #[hz,hs,h6,o,es,ep,h1,h2,h3,h4]
def DicAt.stay {wd:HD}{h h':HP}{a:GP}{xs:Gy (T×GP×GC)}(d:DicAt wd a xs h)(k:∀o,h.get? a=gV o->h'.get? a=gV o):DicAt wd a xs h':=
 let ⟨h0,hs,hn,o,es,ep,h1,h2⟩:=d; #[h0,hs,hn,o,es,ep,k _ h1,h2]
def DicAt.ok {P:Ht}{h:HP}{wd:HD}{a:GP}{xs:Gy (T×GP×GC)}(d:DicAt wd a xs h):ObjOk P wd H h a (dO wd a xs):=
 #[d,let ⟨_,_,_,o,_,_,h1,_⟩:=d; #[o,h1],λ_ _ p k=>p.stay k]
def cr {a:GP}{xs:Gy (T×GP×GC)}(I:Inv X J Y H s)(e:Rd H a (dO X.w a xs)):DicAt X.w a xs s.heap:=(show ObjOk X.prog X.w H s.heap a (dO X.w a xs)from e.ok I.hok).1
def DicAt.dict {U:Gy (T×W)}{a:GP}{xs:Gy (T×GP×GC)}(d:DicAt X.w a xs s.heap)(I:Inv X J Y H s)(r:KRel X.K A H U xs):s.heap.DictOfH (cH X.prog X.w) a xs:=
 let ⟨_,_,hn,o,es,ep,h1,h2,h3,h4⟩:=d; #[o,es,ep,h1,h2,h3,h4,r.is I,hn]
def fG {i:GJ}{U:Gy (T×W)}{a:GP}(so:StoreOk X.w X.K A H S)(e:jx S i=gV U)(ea:A[i]?=gV a):∃xs,Rd H a (dO X.w a xs)/\KRel X.K A H U xs:=by
 unfold jx at e;split at e
 ·rename_i k h;cases e;obtain⟨xs,q,r⟩:=so.obj i _ a h ea;exact#[xs,.inl q,r]
 ·rename_i k h;cases e;obtain⟨o,xs,q,r⟩:=so.obj i _ a h ea;exact#[xs,.inr #[o,q],r]
 ·cases e
def hW {i:GJ}{U:Gy (T×W)}(e:mL S i=gV U):S[i]?=gV (.dic U):=by
 unfold mL at e;split at e
 ·rename_i h; cases e; exact h
 ·cases e
def rn {i:GJ}{U:Gy (T×W)}{a:GP}(so:StoreOk X.w X.K A H S)(e:mL S i=gV U)(ea:A[i]?=gV a):∃xs,H a=gV (dO X.w a xs)/\KRel X.K A H U xs:=
 so.obj i _ a (hW e) ea
def n0 {B:Hz}(hu:B.units+10 < cLine):(cH X.prog X.w).room B.in1:=by
 change B.in1.units+bf < cLine;rw[be]; unfold bf; omega
abbrev jy (x y:W)(S:aa):GH (W×aa):=match x,y with
 | .ref r,.tup ks=>match jx S r,gz (.tup ks)with
  | some U,gV k=>(bS U k).map λw=>(w,S)
  | _,_=>td
 | x,y=>sP x y S
def Fu (hu:X.A.units+10 < cLine):LIx X jy:=by
 intro value slice J s Y H A S x y a b u v w S' I so rx ru ry rv e hs
 by_cases hxy:∃r ks,x=.ref r/\y=.tup ks
 ·obtain⟨r,ks,rfl,rfl⟩:=hxy;simp only[jy]at e;split at e
  ·rename_i U k hk1 hk2;rw[GD]at e;obtain⟨w',e1,e2⟩:=e;cases e2;cases rx with
   | ref ea=>
    obtain⟨xs,rd,kr⟩:=fG so hk1 ea;have d:=cr I rd;have dd:=d.dict I kr;obtain⟨bk,rfl,rfl,rk⟩:=hG hk2 ry rv;obtain⟨p,vv,h1,h2,h3⟩:=(kr.val k).1 _ e1;obtain rfl:u=HM _:=ru;show KG (x:=p.2) dd.typeIs slot_dict_getitem.lookup
     (wpAny_getItem_heap (Q:=λr s'=>r=p.2/\PostE X J Y A H S w r s') (n0 hu) (iG I rk (dH hk2).2.2) dd h1 #[rfl,vv,H,A,I.tok _,h3,.refl,so,h2]) hs
  ·cases e
 ·have:jy x y S=sP x y S:=by
   cases x <;> cases y <;> first|rfl|exact absurd #[_,_,rfl,rfl] hxy
  rw[this]at e;exact Go hu value slice J s Y H A S x y a b u v w S' I so rx ru ry rv e hs
abbrev hX (o i v:W)(S:aa):GH aa:=match o,i with
 | .ref r,.tup ks=>match mL S r,gz (.tup ks)with
  | some U,gV k=>if U.length < sizeLine then gV (S.set r (.dic (d4 U k v)))else td
  | _,_=>td
 | o,i=>sQ o i v S
def Ds (hu:X.A.units+10 < cLine):LSet X hX:=by
 intro J s Y H A S o i x ao ai ax uo ui ux S' I so ro ruo ri rui rx rux e
 by_cases hxy:∃r ks,o=.ref r/\i=.tup ks
 ·obtain⟨r,ks,rfl,rfl⟩:=hxy;dsimp only[hX]at e;split at e
  ·rename_i U k hk1 hk2;split at e
   ·rename_i hl;cases e;cases ro with
    | ref ea=>
     obtain⟨xs,hH,kr⟩:=rn so hk1 ea;have d:=cr I (.inl hH);have dd:=d.dict I kr;obtain⟨bk,rfl,rfl,rk⟩:=hG hk2 ri rui;obtain⟨q1,q2,q3⟩:=dH hk2;obtain rfl:uo=HM _:=ruo;have hz:xs.length<=sizeLine:=by rw[<- kr.length]; omega
     show wpAny_setItem_heap (hsz:=hz) (n0 hu) (iG I rk q3) dd λh' dd' hs=>?_
     have kr':=kr.put q2 q3 rk rx rux;have hz':(storedH xs k bk ux).length<=sizeLine:=by
      rw[<- kr'.length];have:=cC U k x;omega
     have dn:DicAt X.w _ (storedH xs k bk ux) h':=.of hz' d.2.1 dd';obtain⟨so',ex⟩:=so.writeO (hW hk1) rfl ea (u:=dO X.w _ (storedH xs k bk ux)) (n:=.dic (d4 U k x)) #[_,ba,kr'.mono (c9 (.ext hH))];exact#[_,A,mB I (by rw[hH]; exact KT) hs (let ⟨q,_,_,hq,_⟩:=dd'; #[q,hq]) dn.ok,ex,so']
   ·cases e
  ·cases e
 ·have:hX o i x S=sQ o i x S:=by
   cases o <;> cases i <;> first|rfl|exact absurd #[_,_,rfl,rfl] hxy
  rw[this]at e;exact lset hu J s Y H A S o i x ao ai ax uo ui ux S' I so ro ruo ri rui rx rux e
abbrev rq (x:W)(xs:Gy W)(S:aa):GH (W×aa):=match x,xs with
 | .ref r,[y,z]=>match jx S r,gz y with
  | some U,gV k=>gV ((bS U k).getD z,S)
  | _,_=>td
 | _,_=>td
def p8 (hu:X.A.units+10 < cLine):je X "dict.get" rq:=by
 intro J s Y H A S x a u xs vs us w S' I so rx ru rl rv e;cases rx with
 | ref ea=>
  cases rl with
  | nil=>cases e
  | cons r1 t1=>
   cases t1 with
   | nil=>cases e
   | cons r2 t2=>
    cases t2 with
    | cons _ _=>cases e
    | nil=>
     dsimp only[rq]at e;split at e
     ·rename_i U k hk1 hk2;cases e;obtain⟨xs,rd,kr⟩:=fG so hk1 ea;have d:=cr I rd;have dd:=d.dict I kr;cases rv with
      | cons v1 rv2=>
       cases rv2 with
       | cons v2 rv3=>
        cases rv3;obtain⟨bk,rfl,rfl,rk⟩:=hG hk2 r1 v1;obtain rfl:u=HM _:=ru;show call_meetsIn Ma dd.typeIs PySem.F.entry_dict_get (PySem.F.args_dict_get_3 _ _ _) (meetsH_dict_get_default (cH X.prog X.w) _ bk d.2.1 _) #[n0 hu,k,xs,iG I rk (dH hk2).2.2,dd,?_];cases q:bS U k with
        | none=>
         rw[(kr.val k).2 q];exact#[_,H,A,I.tok _,v2,.refl,so,r2]
        | some w'=>
         obtain⟨p,vv,h1,h2,h3⟩:=(kr.val k).1 _ q;rw[h1];exact#[vv,H,A,I.tok _,h3,.refl,so,h2]
     ·cases e
 | _=>cases e
abbrev EI (x:W)(i:GJ)(S:aa):GH Hi:=match W.t x,gN S i with
 | some k,gV ys=>match W.ts ys with
  | some ks=>if k.depth<=bf/\T.depths ks<=bf then gV (decide (k∈ks))else td
  | none=>td
 | _,_=>td
abbrev Bx (x:W)(ys:Gy W):GH Hi:=match W.t x,W.ts ys with
 | some k,gV ks=>if k.depth<=bf/\T.depths ks<=bf then gV (decide (k∈ks))else td
 | _,_=>td
def mN {h:HP}:∀ {ks:Gy T} {vs:Gy GC},IsTs h ks vs->∀v∈vs,∃k∈ks,IsT h k v
 | _,_,.cons a b,v,hv=>by
  rcases Hj.mp hv with rfl|hv
  ·exact#[_,.head _,a]
  ·obtain⟨k,hk,q⟩:=mN b v hv;exact#[k,.tail _ hk,q]
abbrev xJ (h:HP)(k:T)(v:GC):Hi:=@decide (IsT h k v) (OF _)
def p9 {h:HP}{k k':T}{v:GC}(x:IsT h k' v):xJ h k v=decide (k'=k):=by
 unfold xJ
 by_cases e:k'=k
 ·subst e; simp[x]
 ·have:¬ IsT h k v:=λy=>e (x.inj y)
  simp[e,this]
def mO {h:HP}{k:T}:∀ {ks:Gy T} {vs:Gy GC},IsTs h ks vs->vs.any (xJ h k)=decide (k∈ks)
 | _,_,.nil=>by simp
 | _,_,.cons (k:=k') a b=>by
  rw[Jm,p9 a,mO b]
  by_cases e:k'=k
  ·simp[e]
  ·have:¬ k=k':=λz=>e z.symm
   simp[e,this]
def jZ:∀ {ks:Gy T} {k:T},k∈ks->k.depth<=T.depths ks
 | x::ks,k,h=>by
  simp only[T.depths];rcases Hj.mp h with rfl|h
  ·omega
  ·have:=jZ h; omega
def vc {x:W}{i:GJ}{a b:V}{u v:GC}{c:Hi}(hu:X.A.units+10 < cLine)(I:Inv X J Y H s)(so:StoreOk X.w X.K A H S)(rx:Rel X.K A H x a)(ru:RelV a u)(ry:Rel X.K A H (.ref i) b)(rv:RelV b v)(e:EI x i S=gV c) :
  ∃l its k ks,v=.ref l/\s.heap.IsList l its/\(∀y,y∈its->KR X.A.in1 s y u (xJ s.heap k y))/\its.any (xJ s.heap k)=c/\c=decide (k∈(ks:Gy T)):=by
 unfold EI at e;split at e
 ·rename_i k ys h1 h2;split at e
  ·rename_i ks h3;split at e
   ·rename_i h4;cases e;cases ry with
    | ref ea=>
     obtain⟨vs,g1,g2⟩:=ce so h2 ea;obtain⟨its,rv',p,_⟩:=I.list g1;obtain rfl:v=HM _:=rv;have hT:IsTs s.heap ks its:=fW I ks ((W.ts_w h3).symm ▸ g2) rv';have hk:IsT s.heap k u:=mM I k ((W.t_w h1).symm ▸ rx) ru;show#[_,its.toArray,k,ks,rfl,p.isList,λy hy=>?_,by rw[ND]; exact mO hT,rfl]
     obtain⟨k',hk',q⟩:=mN hT y (by simpa using hy)
     rw[p9 q];have:=jZ hk';have kl:bf=6:=rfl;exact sX bf k' k _ _ _ _ ∅ q hk (by rw[be]; omega) (by rw[be]; omega)
   ·cases e
  ·cases e
 ·cases e
def yF {x:W}{ys:Gy W}{a b:V}{u v:GC}{c:Hi}(hu:X.A.units+10 < cLine)(I:Inv X J Y H s)(rx:Rel X.K A H x a)(ru:RelV a u)(ry:Rel X.K A H (.tup ys) b)(rv:RelV b v)(e:Bx x ys=gV c) :
  ∃l its k,v=.ref l/\s.heap.IsTuple l its/\(∀y,y∈its->KR X.A.in1 s y u (xJ s.heap k y))/\its.any (xJ s.heap k)=c:=by
 unfold Bx at e;split at e
 ·rename_i k ks h1 h3;split at e
  ·rename_i h4;cases e;cases ry with
   | @tup _ l vs g1 g2=>
    obtain⟨its,rv',p,_⟩:=I.tuple g1;obtain rfl:v=HM _:=rv;have hT:IsTs s.heap ks its:=fW I ks ((W.ts_w h3).symm ▸ g2) rv';have hk:IsT s.heap k u:=mM I k ((W.t_w h1).symm ▸ rx) ru;show#[_,its.toArray,k,rfl,p,λy hy=>?_,by rw[ND]; exact mO hT]
    obtain⟨k',hk',q⟩:=mN hT y (by simpa using hy)
    rw[p9 q];have:=jZ hk';have kl:bf=6:=rfl;exact sX bf k' k _ _ _ _ ∅ q hk (by rw[be]; omega) (by rw[be]; omega)
  ·cases e
 ·cases e
abbrev bo (o:COp)(x y:W)(S:aa):GH (W×aa):=match o,y with
 | .isin,.ref i=>match jx S i with
  | some U=>(gz x).map λk=>(.bl (bS U k).isSome,S)
  | none=>match x with
   | .tup xs=>(EI (.tup xs) i S).map λb=>(.bl (b),S)
   | x=>dz .isin x (.ref i) S
 | .notin,.ref i=>match jx S i with
  | some U=>(gz x).map λk=>(.bl (!(bS U k).isSome),S)
  | none=>match x with
   | .tup xs=>(EI (.tup xs) i S).map λb=>(.bl (!b),S)
   | x=>dz .notin x (.ref i) S
 | .isin,.tup ys=>match x with
  | .tup xs=>(Bx (.tup xs) ys).map λb=>(.bl b,S)
  | x=>dz .isin x (.tup ys) S
 | o,y=>dz o x y S
def n6 (hu:X.A.units+fE < cLine)(o:COp):LOp X (compareOp o.py) (bo o):=by
 intro J s Y H A S x y a b u v w S' I so rx ru ry rv e;have get:∀ {i:GJ} {U:Gy (T×W)} {k:T},y=.ref i->jx S i=gV U->gz x=gV k->∃d c xs,v=.ref d/\u=.ref c/\(d==sysModules)=false/\(cH X.prog X.w).is s.heap k c/\s.heap.DictOfH (cH X.prog X.w) d xs/\(bS U k).isSome=(atKey xs k).isSome:=by
  intro i U k hy hk1 hk2;subst hy;cases ry with
  | ref ea=>
   obtain⟨xs,rd,kr⟩:=fG so hk1 ea;have d:=cr I rd;obtain⟨bk,rfl,rfl,rk⟩:=hG hk2 rx ru;obtain rfl:v=HM _:=rv;show#[_,bk,xs,rfl,rfl,d.2.1,iG I rk (dH hk2).2.2,d.dict I kr,?_];cases q:bS U k with
   | none=>rw[(kr.val k).2 q]; rfl
   | some w'=>obtain⟨p,_,h1,_⟩:=(kr.val k).1 _ q; rw[h1]; rfl
 have old:dz o x y S=gV (w,S')->wpAny (model X.prog X.w) X.A (compareOp o.py u v) (PostE X J Y A H S' w) X.xe s:=λh=>g6 hu o J s Y H A S x y a b u v w S' I so rx ru ry rv h
 have hu':X.A.units+10 < cLine:=by have:fE=20:=rfl; omega
 unfold bo at e;split at e
 ·split at e
  ·rename_i U hk1;rw[GD]at e;obtain⟨k,hk2,e2⟩:=e;cases e2;obtain⟨d,c,xs,rfl,rfl,q1,q2,q3,q4⟩:=get rfl hk1 hk2;rw[q4];exact wpAny_in_heap (n0 hu') q2 q1 q3 #[.bl _,H,A,I.tok _,rfl,.refl,so,.bl]
  ·split at e
   ·rw[GD]at e;obtain⟨c,hc,e⟩:=e;cases e;obtain⟨l,its,k,ks,rfl,p1,p2,p3,_⟩:=vc hu' I so rx ru ry rv hc;show NV (xJ s.heap k) p1 p2 ?_;rw[p3];exact#[.bl _,H,A,I,rfl,.refl,so,.bl]
   ·exact old e
 ·split at e
  ·rename_i U hk1;rw[GD]at e;obtain⟨k,hk2,e2⟩:=e;cases e2;obtain⟨d,c,xs,rfl,rfl,q1,q2,q3,q4⟩:=get rfl hk1 hk2;rw[q4];exact wpAny_notIn_heap (n0 hu') q2 q1 q3 #[.bl _,H,A,I.tok _,rfl,.refl,so,.bl]
  ·split at e
   ·rw[GD]at e;obtain⟨c,hc,e⟩:=e;cases e;obtain⟨l,its,k,ks,rfl,p1,p2,p3,_⟩:=vc hu' I so rx ru ry rv hc;show MU (xJ s.heap k) p1 p2 ?_;rw[p3];exact#[.bl _,H,A,I,rfl,.refl,so,.bl]
   ·exact old e
 ·split at e
  ·rw[GD]at e;obtain⟨c,hc,e⟩:=e;cases e;obtain⟨l,its,k,rfl,p1,p2,p3⟩:=yF hu' I rx ru ry rv hc;show NB (xJ s.heap k) p1 p2 ?_;rw[p3];exact#[.bl _,H,A,I,rfl,.refl,so,.bl]
  ·exact old e
 ·exact old e
end
abbrev RawD (d:GP)(es:HE Jd)(ep:GJ)(h:HP):Prop:=∃o,h.get? d=gV o/\o.ExactDict/\o.data=.dict es ep
def RawD.at {d:GP}{es:HE Jd}{ep:GJ}{h h':HP}(x:RawD d es ep h)(e:∀o,h.get? d=gV o->h'.get? d=gV o):RawD d es ep h':=let ⟨o,ho,r⟩:=x; #[o,e _ ho,r]
def RawD.lt {d:GP}{es:HE Jd}{ep:GJ}{h:HP}(x:RawD d es ep h):d < h.objs.size:=let ⟨_,ho,_⟩:=x; Hd ho
def RawD.type {d:GP}{es:HE Jd}{ep:GJ}{s:GF}(x:RawD d es ep s.heap):s.TypeIs (.ref d) "dict":=let ⟨o,ho,hc,_⟩:=x; #[o,ho,hc.1]
section
variable{prog:Ht}{w:HD}{A:Hz}{E:GC->GF->Prop}{s:GF}{it d:GP}{i ep:GJ}{es:HE Jd}
def n8 {Q:GC->GF->Prop}(hd:(d==sysModules)=false)(hm:RawD d es ep s.heap)
  (hQ:Q (.ref s.heap.objs.size) { s with heap:=s.heap.push { cls:=.type "dict_keyiterator",data:=.fields [.ref d,.int 0 0,.int es.size 0,.int ep 0].toArray } }):wpAny (model prog w) A (pyIter (.ref d)) Q E s:=by
 have hT:=hm.type;obtain⟨o,ho,hc,hdat⟩:=id hm;show wpAny_pyIter_slot hT F.slot_dict_iter (Ix F.slot_dict_iter hT F.entry_dict_iter ?_ (F.args_dict_iter_1 _));unfold LP.«dict.__iter__» Om;show GB (GB (wpAny_notOrdered_dict hT ?_));change wpAny _ _ (pure (HM d)) _ _ s;show GU ?_;change wpAny _ _ (Mb d >>= _) _ _ s;unfold Mb;rw[Hl (by rw[hd]; exact He)]
 show GB (GU (GB (KH ho hdat (GB (L3 ho hdat ?_)))));show GB (HQ (GU #[_,rfl,"dict_keyiterator",_,#[_,Hb _ rfl,rfl],F.slot_dict_keyiterator_next.lookup,?_]))
 simpa [rawInt]using hQ
def og {Q:GH GC->GF->Prop}(hit:s.heap.IsKeyIter it d i es.size ep)(hm:RawD d es ep s.heap)(hi:i < es.size)
  (hQ:∀h',h'.IsKeyIter it d (i+1) es.size ep->JB it s.heap h'->Q (gV es[i].key) { s with heap:=h' }):wpAny (model prog w) A (pyNext (.ref it)) Q E s:=by
 obtain⟨o,ho,hc,hd⟩:=id hit;obtain⟨od,hod,hcd,hdd⟩:=id hm;unfold pyNext;show GB (Ly (Ik (name:=Jk "__next__") hit.typeIs F.slot_dict_keyiterator_next
  (Ix F.slot_dict_keyiterator_next hit.typeIs F.entry_dict_keyiterator_next ?_ (F.args_dict_keyiterator_next_1 _))))
 show GB (GU (GB (GB ?_)))
 first|refine GB (Jc hit.typeIs (GU ?_))|refine GB (JL hit.typeIs (GU ?_))
 show GB (Oc ho hd ?_);have hown:KY "dict_keyiterator" = false:=by decide
 simp only[hown,Iu,JD];change wpAny _ _ (if (HM d==HZ)=true then _ else _) _ _ s
 rw[Hl (show ¬ ((HM d==HZ)=true)from He)]
 show GB (GU (GB (KH hod hdd ?_)));rw[Hl (by simp)]
 show GB (GU (GB (L3 hod hdd ?_)));rw[Hl (by simp)]
 show GU ?_;simp only[show ¬ ((i:G1) < 0)from by omega,JD,G0,Kh hi]
 show GB ?_
 first|refine GB (Jc hit.typeIs (GU ?_))|refine GB (JL hit.typeIs (GU ?_))
 show GB (Mc hit.typeIs ?_);change wpAny _ _ (setField (.ref it) 1 (rawInt ((i:G1)+1)) >>= _) _ _ s;show GB (Ld ho hd (by simp) ?_)
 have hit':(s.heap.update it (Oy (·.setIfInBounds 1 (rawInt ((i:G1)+1))))).IsKeyIter it d (i+1) es.size ep:=
  #[_,Jt _ ho (Mf (Kv hd _)),(Nk ..).trans hc,by rw[Kv hd]; simp[rawInt]]
 show GB (IC ?_);show GB (Mc (s:={ s with heap:=s.heap.update it (Oy (·.setIfInBounds 1 (rawInt ((i:G1)+1)))) }) hit'.typeIs ?_)
 change wpAny _ _ (pure es[i].key) _ _ _;exact GU (GU #[_,rfl,GU (hQ _ hit' (Kl ..))])
def rs {Q:GH GC->GF->Prop}(hh:A.handled=td)(hit:s.heap.IsKeyIter it d i es.size ep)(hm:RawD d es ep s.heap)(hge:es.size<=i)
  (hQ:∀h',Mj it s.heap h'->Q td { s with heap:=h' }):wpAny (model prog w) A (pyNext (.ref it)) Q E s:=by
 obtain⟨o,ho,hc,hd⟩:=id hit;obtain⟨od,hod,hcd,hdd⟩:=id hm;unfold pyNext;show GB (Ly (Ik (name:=Jk "__next__") hit.typeIs F.slot_dict_keyiterator_next
  (Ix F.slot_dict_keyiterator_next hit.typeIs F.entry_dict_keyiterator_next ?_ (F.args_dict_keyiterator_next_1 _))))
 show GB (GU (GB (GB ?_)))
 first|refine GB (Jc hit.typeIs (GU ?_))|refine GB (JL hit.typeIs (GU ?_))
 show GB (Oc ho hd ?_);have hown:KY "dict_keyiterator" = false:=by decide
 simp only[hown,Iu,JD];change wpAny _ _ (if (HM d==HZ)=true then _ else _) _ _ s
 rw[Hl (show ¬ ((HM d==HZ)=true)from He)]
 show GB (GU (GB (KH hod hdd ?_)));rw[Hl (by simp)]
 show GB (GU (GB (L3 hod hdd ?_)));rw[Hl (by simp)]
 show GU ?_;simp only[show ¬ ((i:G1) < 0)from by omega,JD,G0,Array.getElem?_eq_none hge]
 show GB ?_
 first|refine GB (Jc hit.typeIs (GU ?_))|refine GB (JL hit.typeIs (GU ?_))
 change wpAny _ _ (setField (.ref it) 0 .none >>= _) _ _ s;show GB (Ld ho hd (by simp) ?_)
 change wpAny _ _ (newExc (.type "StopIteration") [] >>= _) _ _ _;show GB ?_;simp only[newExc,newTuple];show GB (HQ ?_ (by size_fits))
 show GB (m:=firstArgMember _ _) (Mk (a:=HZ) (by first|rfl|(simp only[firstArgMember]; rfl)) ?_)
 show HQ ?_ (by size_fits)
 simp only[raiseNew];show GB (Oz ?_);rw[show A.in1.handled=td from hh]
 show GB (GU (OX ?_));show GB (LF (T:="StopIteration") (b:=true) #[_,Hb _ rfl,rfl] Od ?_);exact GU (hQ _ (((Kl ..).extBut.push _).push _))
def sY (hh:A.handled=td)(I d:GP)(hne:d≠I)(es:HE Jd)(ep:GJ) :
  Pw prog w A I [I,d] [I] es.size (λi v=>∃e,es[i]?=gV e/\e.key=v) (λi h=>h.IsKeyIter I d i es.size ep/\RawD d es ep h) where
 sub:=λb hb=>by simp at hb; simp[hb]
 frame:=λ_ _ _ st hk=>#[st.1.at λo e=>hk I (by simp) o e,st.2.at λo e=>hk d (by simp) o e]
 item:=λi s Q E hi st hQ=>
  og st.1 st.2 hi λh' hit' hs'=>hQ _ h' s.toks #[es[i],by simp[hi],rfl] #[hit',st.2.at λo e=>(hs'.2 d hne).trans e] λb o hb e=>hs'.extBut b o (λh=>hb (by simp[h])) e
 done:=λs Q E st hQ=>rs hh st.1 st.2 (GY _) λh' he'=>hQ h' s.toks λb o hb e=>he' b o (λh=>hb (by simp[h])) e
 self:=λ_ _ _ _ st hQ=>Ml st.1 hQ
def rz (lo:(d==sysModules)=false):Mm prog w "dict" d d es.size (λi v=>∃e,es[i]?=gV e/\e.key=v) (RawD d es ep) where
 type:=λ_ hm=>hm.type
 there:=λ_ hm=>#[hm.lt,hm.lt]
 keep:=λ_ _ hm hk=>hm.at λo e=>hk d (.inl rfl) o e
 notList:=by decide
 notTuple:=by decide
 hint:=λ_ _ _ _ hm hq=>PySem.W.kdl_hint_dict hm.type hq
 iter:=λ_ _ hh hm=>#[_,_,(λ_ _ hq=>n8 lo hm hq),sY hh _ d (Ho hm.lt) es ep,#[#[_,Hb _ rfl,rfl,rfl],hm.at λo e=>GN _ e]]
def vd {T:Ir}{r d S:GP}{n:GJ}{P:GJ->GC->Prop}{OK:HP->Prop}{R:Ny->GF->Prop}(K:Mm prog w T r d n P OK)(hh:A.handled=td)(hok:OK s.heap)(hn:n<=sizeLine)(hSr:S≠r)(hSd:S≠d)
  (hS:s.heap.get? S=gV { cls:=.type "list",data:=.seq #[] 0 })
  (hR:∀h' tk acc' c',(∀b o,b≠S->s.heap.get? b=gV o->h'.get? b=gV o)->h'.get? S=gV { cls:=.type "list",dict:=td,data:=.seq acc' c',slots:=#[] }->LQ P acc' n->R (.ok (.ret (.ref S))) { s with heap:=h',toks:=tk }) :
  codeAny (model prog w) A (.builtin "list.__iadd__" #[[.ref S,.ref r],[]]) R s:=by
 show IN F.entry_list_iadd ?_;rw[IB F.plain_list_iadd _];change wpAny _ A.in1 (Jl (.ref S) (.ref r) (.ref S)) _ _ _;exact PySem.W.kdl_extend K hh hok S hSr hSd _ 0 hS hR hn
def oh {T:Ir}{r d:GP}{n:GJ}{P:GJ->GC->Prop}{OK:HP->Prop}{Q:Gy GC->GF->Prop}(K:Mm prog w T r d n P OK)(hh:A.handled=td)(hok:OK s.heap)(hn:n<=sizeLine)
  (hQ:∀h' tk acc,(∀b o,s.heap.get? b=gV o->h'.get? b=gV o)->s.heap.objs.size<=h'.objs.size->LQ P acc n->Q acc.toList { s with heap:=h',toks:=tk }):wpAny (model prog w) A (collect (.ref r)) Q E s:=by
 unfold collect;show GB (Mn (IN F.entry_proto_collect ?_));rw[IB F.plain_proto_collect _];change wpAny _ A.in1 (newList [] >>= λl=>again (.builtin "list.__iadd__" #[[l,.ref r],[]])) _ _ s
 show GB (HQ ?_);have hlt:=K.there _ hok;show GU #[J0 F.plain_list_iadd _,vd (s:={ s with heap:=s.heap.push { cls:=.type "list",data:=.seq ([]:Gy GC).toArray } }) K hh (K.keep _ _ hok λb _ o e=>GN _ e) hn (JC hlt.1) (JC hlt.2) (Hb _ rfl) λh' tk acc' c' hk hS' hacc=>?_]
 change wpAny (model prog w) A (do
   let o <- load s.heap.objs.size
   match o.data with
   | .seq xs _=>pure xs.toList
   | _=>unsupported "internal:collect") Q E { s with heap:=h',toks:=tk }
 show GB (MR hS' ?_);exact GU (hQ h' tk acc' (λb o e=>hk b o (Ho (Hd e)) (GN _ e)) (Kb (Hd hS')) hacc)
end
mutual
def fA:T->T->GH Hi
 | .int a,.int b=>gV (decide (a < b))
 | .str a,.str b=>gV (decide (a.cps.toList < b.cps.toList))
 | .tup xs,.tup ys=>cO xs ys
 | _,_=>td
def cO:Gy T->Gy T->GH Hi
 | [],[]=>gV false
 | [],_::_=>gV true
 | _::_,[]=>gV false
 | x::xs,y::ys=>if x=y then cO xs ys else fA x y
end
mutual
theorem IsT.kept {h h':HP}(hk:∀b o,o.cls=.type "tuple"->h.get? b=gV o->h'.get? b=gV o):∀ {x:T} {v:GC},IsT h x v->IsT h' x v
 | _,_,.int=>.int
 | _,_,.str=>.str
 | _,_,.tup a1 c1 d1 t1=>.tup (hk _ _ c1 a1) c1 d1 (IsTs.kept hk t1)
theorem IsTs.kept {h h':HP}(hk:∀b o,o.cls=.type "tuple"->h.get? b=gV o->h'.get? b=gV o):∀ {x:Gy T} {v:Gy GC},IsTs h x v->IsTs h' x v
 | _,_,.nil=>.nil
 | _,_,.cons a b=>.cons (IsT.kept hk a) (IsTs.kept hk b)
end
def Dt {B:Hz}{s:GF}{d:GJ}(hu:B.units+d < cLine)(hl:∀(x y:T) (u v:GC) (k:Hi),x.depth<=d->y.depth<=d->IsT s.heap x u->IsT s.heap y v->fA x y=gV k->LtAt B s u v k) :
  ∀(xs ys:Gy T) (us vs:Gy GC) (k:Hi),T.depths xs<=d->T.depths ys<=d->IsTs s.heap xs us->IsTs s.heap ys vs->cO xs ys=gV k->LexR B s us vs k
 | [],[],_,_,k,_,_,h1,h2,e=>by cases h1; cases h2; cases e; exact .nn
 | [],y::ys,_,_,k,_,_,h1,h2,e=>by cases h1; cases h2; cases e; exact .nc
 | x::xs,[],_,_,k,_,_,h1,h2,e=>by cases h1; cases h2; cases e; exact .cn
 | x::xs,y::ys,_,_,k,d1,d2,h1,h2,e=>by
  simp only[T.depths]at d1 d2;cases h1 with
  | cons p1 q1=>
   cases h2 with
   | cons p2 q2=>
    have he:=sX d x y _ _ B s ∅ p1 p2 hu ∅
    dsimp only[cO]at e
    by_cases hxy:x=y
    ·rw[Hf hxy]at e;rw[HI hxy]at he;exact .eq he (Dt hu hl xs ys _ _ k ∅ ∅ q1 q2 e)
    ·rw[Hl hxy]at e;rw[Hs hxy]at he;exact .ne he (hl x y _ _ k ∅ ∅ p1 p2 e)
def Du:∀(d:GJ) (x y:T) (u v:GC) (B:Hz) (s:GF) (k:Hi),x.depth<=d->y.depth<=d->IsT s.heap x u->IsT s.heap y v->B.units+d < cLine->fA x y=gV k->LtAt B s u v k:=by
 intro d
 induction d with
 | zero=>
  intro x y u v B s k d1 d2 h1 h2 hu e;cases h1 with
  | int=>cases h2 with
   | int=>cases e; exact λprog w E Q h=>(Mz h:wpAny (model prog w) B (compareOp .Lt _ _) Q E s)
   | _=>cases e
  | str=>cases h2 with
   | str=>cases e; exact λprog w E Q h=>(lt_str h:wpAny (model prog w) B (compareOp .Lt _ _) Q E s)
   | _=>cases e
  | tup _ _ _ _=>simp[T.depth]at d1
 | succ d ih=>
  intro x y u v B s k d1 d2 h1 h2 hu e;cases h1 with
  | int=>cases h2 with
   | int=>cases e; exact λprog w E Q h=>(Mz h:wpAny (model prog w) B (compareOp .Lt _ _) Q E s)
   | _=>cases e
  | str=>cases h2 with
   | str=>cases e; exact λprog w E Q h=>(lt_str h:wpAny (model prog w) B (compareOp .Lt _ _) Q E s)
   | _=>cases e
  | tup a1 c1 e1 t1=>cases h2 with
   | tup a2 c2 e2 t2=>
    simp only[T.depth]at d1 d2;have hu1:B.in1.units+d < cLine:=by rw[be]; omega
    exact LtAt.tuples #[_,a1,c1,_,e1] #[_,a2,c2,_,e2] ∅ (Dt hu1 (λx y u v k q1 q2 q3 q4 q5=>ih x y u v B.in1 s k q1 q2 q3 q4 hu1 q5) _ _ _ _ k ∅ ∅ t1 t2 e)
   | _=>cases e
section
variable{prog:Ht}{w:HD}{A:Hz}{R:Ny->GF->Prop}{I S:GP}{fp wr:Gy GP}{n:GJ}{P:GJ->GC->Prop}{St:GJ->HP->Prop}{Ok:HP->Prop}{bt:GJ->GJ->Hi}
abbrev ve (prog:Ht)(w:HD)(A:Hz)(P:GJ->GC->Prop)(Ok:HP->Prop)(bt:GJ->GJ->Hi):Prop:=
 ∀i j vi vj (s:GF) (Q:GC->GF->Prop) (E:GC->GF->Prop),Ok s.heap->P i vi->P j vj->Q (.bool (bt i j)) s->wpAny (model prog w) A (richCompare .Lt vi vj) Q E s
def vf (W:Pw prog w A.in1 I fp wr n P St)(hcmp:ve prog w A.in1 P Ok bt)(hSf:S∉fp)(hok:∀h h',Ok h->(∀b o,b∉wr->b≠S->h.get? b=gV o->h'.get? b=gV o)->Ok h') :
  ∀(k j:GJ) (s:GF) (vb:GC) (c:GJ),n - (j+1)=k->j < n->St (j+1) s.heap->P (argBest bt j) vb->Ok s.heap->s.heap.get? S=gV { cls:=.type "list",dict:=td,data:=.seq [vb,vb].toArray c,slots:=#[] }->
  (∀v h' tk,P (argBest bt (n - 1)) v->(∀b o,b∉wr->b≠S->s.heap.get? b=gV o->h'.get? b=gV o)->R (.ok (.ret v)) { s with heap:=h',toks:=tk })->
  codeAny (model prog w) A (.builtin "min.loop" #[[.ref I,.none,.ref S],[]]) R s:=by
 have hSw:S∉wr:=λh=>hSf (W.sub _ h)
 have hname:(toString "min" ++ toString ".loop" : Ir) = "min.loop":=by decide
 intro k
 induction k with
 | zero=>
  intro j s vb c hk hj hst hPb hO hS hR;have hin:j+1=n:=∅
  show IN F.entry_min_loop ?_;rw[IB F.plain_min_loop _];change wpAny _ A.in1 (seqItems? (.ref S) >>= _) _ _ s;show GB (J9 hS rfl ?_);change wpAny _ A.in1 (tryCatch (pyNext (.ref I)) _ >>= _) _ _ s;show GB (Le (W.done s _ _ (hin ▸ hst) λh' tk hk'=>?_))
  have hS':=hk' S _ hSw hS;change wpAny _ A.in1 (updateSeq S (λ_=>#[]) >>= _) _ _ _
  show GB (L4 hS' rfl (GB (KW (GU ?_))));have e:j=n - 1:=∅
  exact hR vb _ tk (e ▸ hPb) λb o hbw hbS e=>(Ic _ _ (Ne.symm hbS)).trans (hk' b o hbw e)
 | succ k ih=>
  intro j s vb c hk hj hst hPb hO hS hR;have hlt:j+1 < n:=∅
  show IN F.entry_min_loop ?_;rw[IB F.plain_min_loop _];change wpAny _ A.in1 (seqItems? (.ref S) >>= _) _ _ s;show GB (J9 hS rfl ?_);change wpAny _ A.in1 (tryCatch (pyNext (.ref I)) _ >>= _) _ _ s;show GB (Le (W.item (j+1) s _ _ hlt hst λv h' tk hP hst' hk'=>?_))
  have hS':=hk' S _ hSw hS;have hO':Ok h':=hok _ _ hO λb o hb _ e=>hk' b o hb e
  change wpAny _ A.in1 (tryCatch (holding [v,v] (richCompare .Lt v vb >>= _)) _ >>= _) _ _ _;show GB (Le (IC (GB (hcmp (j+1) (argBest bt j) v vb _ _ _ hO' hP hPb ?_))));show GB (IC (Iy ?_));show GB (KW (GU ?_));cases hb:bt (j+1) (argBest bt j)with
  | true=>
   simp only[JE];show GB (L4 hS' rfl (GB (KW ?_)));rw[hname];show GU #[J0 F.plain_min_loop _,ih (j+1) _ v _ ∅ hlt (W.frame _ _ _ hst' λb hbf o e=>?_) (by simp only[argBest,hb,JE]; exact hP) (hok _ _ hO' λb o _ hbS e=>(Ic _ _ (Ne.symm hbS)).trans e) (Jt _ hS' rfl)
    λv' h'' tk'' hP' hk''=>?_]
   ·exact(Ic _ _ (λh:S=b=>hSf (by rw[h]; exact hbf))).trans e
   ·exact hR v' h'' tk'' hP' λb o hbw hbS e=>hk'' b o hbw hbS ((Ic _ _ (Ne.symm hbS)).trans (hk' b o hbw e))
  | false=>
   simp only[Iu,JD];show GB (KW ?_);rw[hname];show GU #[J0 F.plain_min_loop _,ih (j+1) _ vb c ∅ hlt hst' (by simp only[argBest,hb,Iu,JD]; exact hPb) hO' hS' λv' h'' tk'' hP' hk''=>?_]
   exact hR v' h'' tk'' hP' λb o hbw hbS e=>hk'' b o hbw hbS (hk' b o hbw e)
def sZ (W:Pw prog w A.in1 I fp wr n P St)(hcmp:ve prog w A.in1 P Ok bt)(hSf:S∉fp)(hok:∀h h',Ok h->(∀b o,b∉wr->b≠S->h.get? b=gV o->h'.get? b=gV o)->Ok h')(hn:0 < n){s:GF}{c:GJ}(hst:St 0 s.heap)(hO:Ok s.heap)
  (hS:s.heap.get? S=gV { cls:=.type "list",dict:=td,data:=.seq #[] c,slots:=#[] })
  (hR:∀v h' tk,P (argBest bt (n - 1)) v->(∀b o,b∉wr->b≠S->s.heap.get? b=gV o->h'.get? b=gV o)->R (.ok (.ret v)) { s with heap:=h',toks:=tk }) :
  codeAny (model prog w) A (.builtin "min.loop" #[[.ref I,.none,.ref S],[]]) R s:=by
 have hSw:S∉wr:=λh=>hSf (W.sub _ h)
 have hname:(toString "min" ++ toString ".loop" : Ir) = "min.loop":=by decide
 show IN F.entry_min_loop ?_;rw[IB F.plain_min_loop _];change wpAny _ A.in1 (seqItems? (.ref S) >>= _) _ _ s;show GB (J9 hS rfl ?_);change wpAny _ A.in1 (tryCatch (pyNext (.ref I)) _ >>= _) _ _ s;show GB (Le (W.item 0 s _ _ hn hst λv h' tk hP hst' hk'=>?_))
 have hS':=hk' S _ hSw hS;change wpAny _ A.in1 (updateSeq S (λ_=>[v,v].toArray) >>= _) _ _ _
 show GB (L4 hS' rfl ?_);rw[hname];have hO':Ok h':=hok _ _ hO λb o hb _ e=>hk' b o hb e
 show GU #[J0 F.plain_min_loop _,vf W hcmp hSf hok _ 0 _ v _ rfl hn (W.frame _ _ _ hst' λb hbf o e=>?_) hP (hok _ _ hO' λb o _ hbS e=>(Ic _ _ (Ne.symm hbS)).trans e) (Jt _ hS' rfl) λv' h'' tk'' hP' hk''=>?_]
 ·exact(Ic _ _ (λh:S=b=>hSf (by rw[h]; exact hbf))).trans e
 ·exact hR v' h'' tk'' hP' λb o hbw hbS e=>hk'' b o hbw hbS ((Ic _ _ (Ne.symm hbS)).trans (hk' b o hbw e))
end
section
variable{prog:Ht}{w:HD}{A:Hz}{E:GC->GF->Prop}{s:GF}
def vg {l:GP}{items:HE GC}{bt:GJ->GJ->Hi}{Q:GC->GF->Prop}(hh:A.handled=td)(hl:s.heap.IsList l items)(hn:0 < items.size)
  (hcmp:ve prog w A.in1 (λi v=>items[i]?=gV v) (λh=>∀b o,s.heap.get? b=gV o->h.get? b=gV o) bt)
  (hQ:∀v h' tk,items[argBest bt (items.size - 1)]?=gV v->(∀b o,s.heap.get? b=gV o->h'.get? b=gV o)->Q v { s with heap:=h',toks:=tk }) :
  wpAny (model prog w) A (call (.builtin "min") [.ref l]) Q E s:=by
 have hname:(toString "min" ++ toString ".loop" : Ir) = "min.loop":=by decide
 show call_function_tree F.kind_min F.plain_min F.entry_min (F.args_min1 _) ?_;change wpAny _ A.in1 (K7 "min" ["key","default"] 0 #[[],[]] >>= _) _ _ s;show GB (Mk (show K7 "min" ["key","default"] 0 #[[],[]]=pure [td,td]from rfl) ?_)
 show GB (GU ?_);show GB (Lr hl ?_);show GB (HQ ?_);rw[hname];have hlt:l < s.heap.objs.size:=let ⟨_,ho,_⟩:=hl; Hd ho
 have hne:l≠s.heap.objs.size:=Ho hlt;have W:=Pc (prog:=prog) (w:=w) (A:=A.in1) hh s.heap.objs.size l hne items;have hsz:∀o:IJ,(s.heap.push o).objs.size=s.heap.objs.size+1:=λo=>by simp[Heap.push]
 show GU #[J0 F.plain_min_loop _,sZ (A:=A) (Ok:=λh=>∀b o,s.heap.get? b=gV o->h.get? b=gV o) W hcmp (λhm=>?_) (λh h' ho hk b o e=>?_) hn #[?_,?_] (λb o e=>GN _ (GN _ e)) (Hb _ rfl) λv h' tk hv hk=>?_]
 ·rcases Hj.mp hm with e|hm
  ·exact absurd (show(s.heap.push _).objs.size=s.heap.objs.size from e) (by rw[hsz]; exact Nat.succ_ne_self _)
  ·have e:(s.heap.push _).objs.size=l:=G8.mp hm;rw[hsz]at e;exact absurd hlt (by rw[<- e]; exact Oe.mpr (JV _))
 ·have hb:=Hd e;show hk b o (λz=>?_) (λz=>?_) (ho b o e)
  ·rw[G8.mp z]at hb; exact Il _ hb
  ·have z':b=(s.heap.push _).objs.size:=z;rw[hsz]at z';rw[z']at hb;exact absurd hb (Oe.mpr (JV _))
 ·exact#[_,GN _ (Hb _ rfl),rfl,rfl]
 ·obtain⟨o,ho,hc⟩:=hl;exact#[o,GN _ (GN _ ho),hc]
 ·show hQ v h' tk hv λb o e=>hk b o (λz=>?_) (λz=>?_) (GN _ (GN _ e))
  ·have hb:=Hd e;rw[G8.mp z]at hb; exact Il _ hb
  ·have hb:=Hd e;have z':b=(s.heap.push _).objs.size:=z;rw[hsz]at z';rw[z']at hb;exact absurd hb (Oe.mpr (JV _))
end
open PySem.W (KasT kas_sort kas_ask kas_cmp kas_item kas_asc kas_desc kas_tail3 kas_descPart kas_count kas_place kas_bin kas_rev)
abbrev bI {α:Type}(lt:GJ->GJ->Hi):KasT α->α
 | .ret a=>a
 | .ask i j k=>bI lt (k (lt i j))
abbrev OkK {α:Type}(n:GJ)(P:α->Prop):KasT α->Prop
 | .ret a=>P a
 | .ask i j k=>i < n/\j < n/\∀b,OkK n P (k b)
def ol {α:Type}{n:GJ}{P:α->Prop}{lt:GJ->GJ->Hi}:∀(t:KasT α),OkK n P t->P (bI lt t)
 | .ret _,h=>h
 | .ask i j k,h=>ol (k (lt i j)) (h.2.2 _)
def mP {α:Type}{n:GJ}{P:α->Prop}{lt:GJ->GJ->Hi}{t:KasT α}(h:OkK n P t):P (bI lt t):=ol t h
def OkK.bind {α β:Type}{n:GJ}{P:α->Prop}{P':β->Prop}{f:α->KasT β}:∀ {t:KasT α},OkK n P t->(∀a,P a->OkK n P' (f a))->OkK n P' (t.bind f)
 | .ret a,h,hf=>hf a h
 | .ask _ _ _,h,hf=>#[h.1,h.2.1,λb=>OkK.bind (h.2.2 b) hf]
def lG {α:Type}{n:GJ}{P:α->Prop}{lt:GJ->GJ->Hi}{cmp:GJ->GJ->(Hi->GF->Prop)->GF->Prop}{Q:α->GF->Prop}{s:GF}(hc:∀i j,i < n->j < n->∀C:Hi->GF->Prop,C (lt i j) s->cmp i j C s) :
  ∀ {t:KasT α},OkK n P t->Q (bI lt t) s->t.kasWp cmp Q s
 | .ret _,_,h=>h
 | .ask i j k,h,hq=>hc i j h.1 h.2.1 _ (lG hc (h.2.2 _) hq)
abbrev Pm (n:GJ)(p:HE GJ):Prop:=p.toList.Perm (GL n)
def Pm.size {n:GJ}{p:HE GJ}(h:Pm n p):p.size=n:=by rw[<- Hn,h.length_eq,Hg]
def Pm.lt {n:GJ}{p:HE GJ}(h:Pm n p)(hn:0 < n)(i:GJ):p.getD i 0 < n:=by
 by_cases hi:i < p.size
 ·have e:p.getD i 0=p[i]:=by simp[LR,hi]
  rw[e];have:p[i]∈p.toList:=by simp
  exact G2.mp (h.mem_iff.mp this)
 ·have e:p.getD i 0=0:=by simp[LR,hi]
  rw[e]; exact hn
def Pm.rev {n:GJ}{p:HE GJ}(h:Pm n p)(i j:GJ):Pm n (kas_rev p i j):=(Lf.mp (mirror_perm p i j _)).trans h
def Pm.bub {n:GJ}{p:HE GJ}(h:Pm n p)(i j:GJ):Pm n (bubble p i j):=(Lf.mp (bubble_perm p i j)).trans h
section
variable{n:GJ}(hn:0 < n)
include hn
def qa {p:HE GJ}(h:Pm n p):∀(f m:GJ),OkK n (λ_=>N1) (kas_asc p f m)
 | 0,_=>trivial
 | f+1,m=>#[h.lt hn _,h.lt hn _,λb=>by
  change OkK n _ (if b=true then _ else _)
  split
  ·trivial
  ·exact qa h f (m+1)]
def jC:∀(f:GJ) (p:HE GJ) (m q:GJ),Pm n p->OkK n (λr=>Pm n r.1) (kas_desc f p m q)
 | 0,p,m,q,h=>h
 | f+1,p,m,q,h=>#[h.lt hn _,h.lt hn _,λb=>by
  change OkK n _ (if b=true then _ else _)
  split
  ·split
   ·exact jC f _ _ _ (h.rev _ _)
   ·exact jC f _ _ _ h
  ·show#[h.lt hn _,h.lt hn _,λc=>?_]
   change OkK n _ (if c=true then _ else _)
   split
   ·exact h
   ·exact jC f _ _ _ h]
def rA {p:HE GJ}(h:Pm n p)(m k:GJ):OkK n (λr=>Pm n r.2) (kas_tail3 m k p):=by
 unfold kas_tail3;exact OkK.bind (qa hn (h.rev 0 m) _ _) λa _=>h.rev 0 m
def jh {p:HE GJ}(h:Pm n p)(m k:GJ):OkK n (λr=>Pm n r.2) (kas_descPart m k p):=by
 unfold kas_descPart;show OkK.bind (jC hn _ _ _ _ h) λr hr=>?_
 split
 ·exact rA hn (hr.rev _ _) _ _
 ·exact rA hn hr _ _
def vh {p:HE GJ}(h:Pm n p)(k:GJ):OkK n (λr=>Pm n r.2) (kas_count k p):=by
 unfold kas_count;show OkK.bind (qa hn h _ _) λm _=>?_
 split
 ·exact h
 ·split
  ·show#[h.lt hn _,h.lt hn _,λc=>?_]
   change OkK n _ (if c=true then _ else _)
   split
   ·exact h
   ·exact jh hn (h.rev _ _) _ _
  ·exact jh hn h _ _
def j3 {p:HE GJ}(h:Pm n p)(k:GJ):∀(f l r:GJ),OkK n (λ_=>N1) (kas_place p k f l r)
 | 0,_,_=>trivial
 | f+1,l,r=>by
  unfold kas_place;split
  ·trivial
  ·show#[h.lt hn _,h.lt hn _,λc=>?_]
   change OkK n _ (if c=true then _ else _)
   split
   ·exact j3 h k f _ _
   ·exact j3 h k f _ _
def vk:∀(f:GJ) (p:HE GJ) (k:GJ),Pm n p->OkK n (Pm n) (kas_bin f p k)
 | 0,p,k,h=>h
 | f+1,p,k,h=>by
  unfold kas_bin;exact OkK.bind (j3 hn h k _ _ _) λl _=>vk f _ _ (h.bub _ _)
def jD:OkK n (Pm n) (kas_sort n):=by
 unfold kas_sort;show OkK.bind (vh hn (by unfold Pm; simp) _) λr hr=>?_
 split
 ·exact vk hn _ _ _ hr
 ·exact hr
end
section
variable{prog:Ht}{w:HD}{A:Hz}{E:GC->GF->Prop}{s:GF}{vs:Gy GC}
abbrev d6 (lt:GJ->GJ->Hi){β:Type}(d:β)(vs:Gy β):Gy β:=if vs.length < 2 then vs else(bI lt (kas_sort vs.length)).toList.map λi=>vs.getD i d
def oo {lt:GJ->GJ->Hi}{β:Type}{d:β}{vs:Gy β}:(d6 lt d vs).length=vs.length:=by
 unfold d6;split
 ·rfl
 ·rw[Gz,Hn,(mP (lt:=lt) (jD (n:=vs.length) ∅)).size]
def tf {a:GP}{n:GJ}{lt:GJ->GJ->Hi}{κ:LG}{P:PySem.Fin->GF->Prop}(ho:s.heap.get? a=gV (seqObj "list" vs.toArray n))(h64:vs.length < 64)
  (hkind:2<=vs.length->∀h',(∀b o,b≠a->s.heap.get? b=gV o->h'.get? b=gV o)->∀Q:LG->GF->Prop,Q κ { s with heap:=h' }->wpAny (model prog w) A (keyKind' vs.toArray) Q (λ_ _=>Ip) { s with heap:=h' })
  (hlt:2<=vs.length->∀h',(∀b o,b≠a->s.heap.get? b=gV o->h'.get? b=gV o)->∀i j,i < vs.length->j < vs.length->∀Q:Hi->GF->Prop,Q (lt i j) { s with heap:=h' }->
   wpAny (model prog w) A (keyLt' κ (vs.getD i HZ) (vs.getD j HZ)) Q (λ_ _=>Ip) { s with heap:=h' })
  (h:∀h' c,(∀b o,b≠a->s.heap.get? b=gV o->h'.get? b=gV o)->h'.get? a=gV (seqObj "list" (d6 lt HZ vs).toArray c)->P (.done (.ret .none)) { s with heap:=h' }) :
  wpAny (model prog w) A (LP.«list.sort» #[[.ref a],[]]) P E s:=by
 have ha:a < s.heap.objs.size:=Hd ho;obtain⟨e1,ho1⟩ : ∃e1,(s.heap.update a (IA λ_=>(#[]:HE GC))).get? a=gV (seqObj "list" #[] e1):=#[_,L5 ho λ_=>#[]]
 have keep:∀b o,b≠a->s.heap.get? b=gV o->(((s.heap.update a (IA λ_=>(#[]:HE GC))).push (seqObj "tuple" vs.toArray 0)).push (seqObj "list" #[] 0)).get? b=gV o:=λb o hb e=>
  GN _ (GN _ ((Km _ _ _ _ hb).trans e))
 have ho3:(((s.heap.update a (IA λ_=>(#[]:HE GC))).push (seqObj "tuple" vs.toArray 0)).push (seqObj "list" #[] 0)).get? a=gV (seqObj "list" #[] e1):=GN _ (GN _ ho1)
 have fin:∀(out:Gy GC),out.length=vs.length->out=d6 lt HZ vs->P (.done (.ret .none)) { s with heap:=(((s.heap.update a (IA λ_=>(#[]:HE GC))).push (seqObj "tuple" vs.toArray 0)).push (seqObj "list" #[] 0)).update a (IA λ_=>out.toArray) }:=λout hl e=>by
  obtain⟨c2,hc2⟩ : ∃c2,((((s.heap.update a (IA λ_=>(#[]:HE GC))).push (seqObj "tuple" vs.toArray 0)).push (seqObj "list" #[] 0)).update a (IA λ_=>out.toArray)).get? a=gV (seqObj "list" out.toArray c2):=#[_,L5 ho3 λ_=>out.toArray]
  exact h _ c2 (λb o hb q=>(Km _ _ _ _ hb).trans (keep b o hb q)) (e ▸ hc2)
 rw[list_sort_plain];show GB (Nl ho rfl ?_);show GB (Lz ho rfl ?_ (by rw[G6,HR]; omega) (IH _))
 show GB (NR ho1 rfl ?_);show GB (Of ?_ (by change vs.length<=_; rw[HR]; omega))
 show GB (MK ?_ (IH _));show IC ?_;change wpAny (model prog w) A _ P E { s with heap:=((s.heap.update a (IA λ_=>(#[]:HE GC))).push (seqObj "tuple" vs.toArray 0)).push (seqObj "list" #[] 0) }
 dsimp only
 by_cases h2:vs.length < 2
 ·rw[Hf (by rw[G6]; exact h2),Hf (by rw[G6]; exact h2)]
  show GB (GU (GB ?_));rw[StateT.run_pure];show GU ?_;dsimp only;show GB (NR ho3 rfl ?_);have hs:((arrOf (SortSt.mk' general' (vs.toArray.zip vs.toArray) #[] 7 td)).map (·.2))=vs.toArray:=by
   show(vs.toArray.zip vs.toArray).map (·.2)=vs.toArray
   apply Array.toList_inj.mp;rw[Array.toList_map,Array.toList_zip];exact List.map_snd_zip (GY _)
  rw[hs];show GB (Lz ho3 rfl ?_ (IH _) (by rw[G6,HR]; omega))
  simp only[Nm,Iu,JD];exact GU (fin vs rfl (by unfold d6; rw[Hf h2]))
 ·have hn2:¬ vs.toArray.size < 2:=by rw[G6]; exact h2
  have h2':2<=vs.length:=∅
  rw[Hl hn2,Hl hn2];show GB (IP (hkind h2' _ keep (λ(k:LG) (s':GF)=>k=κ/\s'={ s with heap:=((s.heap.update a (IA λ_=>(#[]:HE GC))).push (seqObj "tuple" vs.toArray 0)).push (seqObj "list" #[] 0) }) #[rfl,rfl]) ?_ λ_ _ x=>x.elim)
  rintro _ _ ⟨rfl,rfl⟩;show GB (IP (PySem.W.kat_run (Q:=λst' s'=>∃p:HE GJ,p.size=vs.length/\arrOf st'=p.map (kas_item (vs.toArray.zip vs.toArray))/\failedOf st'=td/\p=bI lt (kas_sort vs.length)/\s'={ s with heap:=((s.heap.update a (IA λ_=>(#[]:HE GC))).push (seqObj "tuple" vs.toArray 0)).push (seqObj "list" #[] 0) })
   (G:=λp s'=>p=bI lt (kas_sort vs.length)/\s'={ s with heap:=((s.heap.update a (IA λ_=>(#[]:HE GC))).push (seqObj "tuple" vs.toArray 0)).push (seqObj "list" #[] 0) }) rfl h2' h64 (λp' st' s' a1 a2 a3 a4=>#[p',a1,a2,a3,a4])
   (lG (lt:=lt) (λi j hi hj C hC=>hlt h2' _ keep i j hi hj C hC) (jD (n:=vs.length) ∅) #[rfl,rfl])) ?_ λ_ _ e=>e)
  rintro⟨⟨⟩,st'⟩ s' ⟨p,hp,har,hf,ep,rfl⟩;dsimp only;have hout:=PySem.W.kat_snds rfl har;have hsz:(p.toList.map λi=>vs.getD i HZ).length=vs.length:=by rw[Gz,Hn,hp]
  rw[hout];show GB (NR ho3 rfl ?_);show GB (Lz ho3 rfl ?_ (IH _) (by rw[G6,hsz,HR]; omega))
  rw[hf];simp only[Nm,Iu,JD];exact GU (fin _ hsz (by unfold d6; rw[Hl h2,ep]))
def tj {x:GC}{lt:GJ->GJ->Hi}{κ:LG}{Q:GC->GF->Prop}(h64:vs.length < 64)
  (hcol:∀Q':Gy GC->GF->Prop,(∀h' tk,(∀b o,s.heap.get? b=gV o->h'.get? b=gV o)->s.heap.objs.size<=h'.objs.size->Q' vs { s with heap:=h',toks:=tk })->wpAny (model prog w) A.in1 (collect x) Q' E s)
  (hkind:2<=vs.length->∀h' tk,(∀b o,s.heap.get? b=gV o->h'.get? b=gV o)->∀Q:LG->GF->Prop,Q κ { s with heap:=h',toks:=tk }->wpAny (model prog w) A.in1.in1 (keyKind' vs.toArray) Q (λ_ _=>Ip) { s with heap:=h',toks:=tk })
  (hlt:2<=vs.length->∀h' tk,(∀b o,s.heap.get? b=gV o->h'.get? b=gV o)->∀i j,i < vs.length->j < vs.length->∀Q:Hi->GF->Prop,Q (lt i j) { s with heap:=h',toks:=tk }->
   wpAny (model prog w) A.in1.in1 (keyLt' κ (vs.getD i HZ) (vs.getD j HZ)) Q (λ_ _=>Ip) { s with heap:=h',toks:=tk })
  (h:∀D h' tk c,(∀b o,s.heap.get? b=gV o->h'.get? b=gV o)->s.heap.objs.size<=D->h'.get? D=gV (seqObj "list" (d6 lt HZ vs).toArray c)->Q (.ref D) { s with heap:=h',toks:=tk }) :
  wpAny (model prog w) A (call (.builtin "sorted") [x]) Q E s:=by
 show Lj kind_sorted plain_sorted entry_sorted (args_sorted1 _) ?_;unfold LP.«sorted»;show GB (m:=checkCount "sorted" 1 1 _) (GU ?_);show GB (hcol _ λh1 tk1 hk1 hle=>?_)
 show GB (MK ?_ (by rw[HR]; omega))
 have hoL:(h1.push (seqObj "list" vs.toArray 0)).get? h1.objs.size=gV (seqObj "list" vs.toArray 0):=Hb _ rfl;have kp:∀b o,s.heap.get? b=gV o->(h1.push (seqObj "list" vs.toArray 0)).get? b=gV o:=λb o e=>GN _ (hk1 b o e)
 have hne:∀b o,s.heap.get? b=gV o->b≠h1.objs.size:=λb o e=>Ho (Hq (Hd e) hle)
 change wpAny _ _ _ _ _ { s with heap:=h1.push (seqObj "list" vs.toArray 0),toks:=tk1 }
 show GB (IC (Ix slot_list_sort #[_,hoL,rfl] entry_list_sort ?_ (args_list_sort _)));show tf (s:={ s with heap:=h1.push (seqObj "list" vs.toArray 0),toks:=tk1 }) (lt:=lt) (κ:=κ) hoL h64 (λh2 h' hk Q hq=>hkind h2 h' tk1 (λb o e=>hk b o (hne b o e) (kp b o e)) Q hq)
  (λh2 h' hk i j hi hj Q hq=>hlt h2 h' tk1 (λb o e=>hk b o (hne b o e) (kp b o e)) i j hi hj Q hq) λh' c hk hD=>?_
 exact#[_,rfl,GU #[_,rfl,h _ h' tk1 c (λb o e=>hk b o (hne b o e) (kp b o e)) hle hD]]
end
end Mi
namespace Mi
open PySem PySem.Spec PyProof.Rows L2
abbrev eU:T->Ir
 | .int _=>"int"|.str _=>"str"|.tup _=>"tuple"
abbrev bq:T->GH T
 | .tup (x::_)=>gV x
 | _=>td
abbrev xK (ks:Gy T):GH GJ:=
 if ks.all (λk=>eU k == "int")then gV 0
 else if ks.all (λk=>eU k == "str")then gV 1
 else if ks.all (λk=>(bq k).any λf=>eU f == "int")then gV 2
 else if ks.all (λk=>(bq k).any λf=>eU f == "str")then gV 3
 else if ks.all (λk=>(bq k).any λf=>eU f == "tuple")then gV 4
 else td
abbrev vm:GJ->LG
 | 0=>oneType'|1=>oneType'|2=>tuples' true|3=>tuples' true|_=>tuples' false
abbrev eg (ks:Gy T):Hi:=ks.all λx=>ks.all λy=>(fA x y).isSome
abbrev lH (ks:Gy T)(i j:GJ):Hi:=(fA (ks.getD i (.int 0)) (ks.getD j (.int 0))).getD false
def dS {ks:Gy T}(h:eg ks=true){i j:GJ}(hi:i < ks.length)(hj:j < ks.length):fA (ks[i]) (ks[j])=gV (lH ks i j):=by
 unfold eg at h;rw[G7]at h;have h1:=h ks[i] (HA hi);rw[G7]at h1;have h2:=h1 ks[j] (HA hj);unfold lH;rw[show ks.getD i (.int 0)=ks[i] by simp[hi],show ks.getD j (.int 0)=ks[j] by simp[hj]]
 obtain⟨b,hb⟩:=HW.mp h2;rw[hb]; rfl
abbrev F7 (c:GJ)(x y:T):Prop:=match c with|0=>eU x = "int"/\eU y = "int"|1=>eU x = "str"/\eU y = "str"|2=>∃f g,bq x=gV f/\bq y=gV g/\eU f = "int"/\eU g = "int"|3=>∃f g,bq x=gV f/\bq y=gV g/\eU f = "str"/\eU g = "str"|_=>∃f g,bq x=gV f/\bq y=gV g
section
variable{prog:Ht}{w:HD}{A:Hz}{E:GC->GF->Prop}{s:GF}
def rB {h:HP}{k:T}{v:GC}(x:IsT h k v):OA (model prog w) h (typeOf v) (.type (eU k)):=by
 cases x with
 | int=>exact .now
 | str=>exact .now
 | tup a c d t=>exact c ▸ ((Pn a).andThen .now:OA (model prog w) h (typeOf (.ref _)) _)
def IsTs.mem {h:HP}:∀ {ks:Gy T} {vs:Gy GC},IsTs h ks vs->∀v∈vs,∃k∈ks,IsT h k v
 | _,_,.cons a b,v,hv=>by
  rcases Hj.mp hv with rfl|hv
  ·exact#[_,.head _,a]
  ·obtain⟨k,hk,q⟩:=IsTs.mem b v hv;exact#[k,.tail _ hk,q]
def lI {h:HP}{p:T->Hi}:∀ {ks:Gy T} {vs:Gy GC},IsTs h ks vs->ks.all (λk=>(bq k).any p)=true->∃fs,PySem.W.KatTups h vs fs/\fs.length=vs.length/\∀v∈fs,∃k,p k=true/\IsT h k v
 | _,_,.nil,_=>#[[],.nil,rfl,λv hv=>nomatch hv]
 | k::ks,_,.cons a b,hp=>by
  rw[HN,GK]at hp;obtain⟨fs,h1,h2,h3⟩:=lI b hp.2;cases a with
  | int=>simp[bq]at hp
  | str=>simp[bq]at hp
  | @tup kk ad o items n a1 c1 d1 t1=>
   cases kk with
   | nil=>simp[bq]at hp
   | cons x xs=>
    have hx:p x=true:=by simpa [bq]using hp.1
    generalize hit:items.toList=its at t1;cases t1 with
    | @cons _ u _ us q1 q2=>
     show#[u::fs,.cons a1 c1 d1 (by rw[<- II,hit]; rfl) h1,by simp[h2],λv hv=>?_]
     rcases Hj.mp hv with rfl|hv
     ·exact#[x,hx,q1]
     ·exact h3 v hv
def By {ks:Gy T}{vs:Gy GC}{c:GJ}{Q:LG->GF->Prop}(h:IsTs s.heap ks vs)(h2:2<=vs.length)(hc:xK ks=gV c)(hq:Q (vm c) s):wpAny (model prog w) A (keyKind' vs.toArray) Q E s:=by
 have one:∀ty:Ir,(J7 ty != J7 "tuple")=true->ks.all (λk=>eU k==ty)=true->Q oneType' s->wpAny (model prog w) A (keyKind' vs.toArray) Q E s:=λty hty hall hq=>
  PySem.W.kas_kind (T:=.type ty) h2 (λv hv=>by
   obtain⟨k,hk,x⟩:=h.mem v hv;have:=eq_of_beq (G7.mp hall k hk);exact this ▸ rB x) hty (by simp) hq
 have tup:∀ty:Ir,ks.all (λk=>(bq k).any λf=>eU f==ty)=true->Q (tuples' (J7 ty != J7 "tuple")) s->wpAny (model prog w) A (keyKind' vs.toArray) Q E s:=λty hall hq=>by
  obtain⟨fs,h1,h3,h4⟩:=lI h hall;exact PySem.W.kat_kind (T:=.type ty) h1 ∅ (λv hv=>by
   obtain⟨k,hk,x⟩:=h4 v hv;have:=eq_of_beq hk;exact this ▸ rB x) (by simp) hq
 unfold xK at hc;split at hc
 ·cases hc; exact one "int" #v[] (by assumption) hq
 ·split at hc
  ·cases hc; exact one "str" #v[] (by assumption) hq
  ·split at hc
   ·cases hc; exact tup "int" (by assumption) hq
   ·split at hc
    ·cases hc; exact tup "str" (by assumption) hq
    ·split at hc
     ·cases hc; exact tup "tuple" (by assumption) hq
     ·cases hc
def oq {b:Hi}{Q:Hi->GF->Prop}{d:GJ}(hu:A.units+d < cLine):∀(xs ys:Gy T) (us vs:Gy GC) (i:GJ) (k:Hi),T.depths xs<=d->T.depths ys<=d->IsTs s.heap xs us->IsTs s.heap ys vs->cO xs ys=gV k->
  (b=true->i=0->∀x y,xs.head?=gV x->ys.head?=gV y->(eU x = "int"/\eU y = "int")\/(eU x = "str"/\eU y = "str"))->Q k s->PySem.W.KatLex prog w A b (decide (us.length < vs.length)) Q (us.zip vs) i s
 | [],[],_,_,i,k,_,_,h1,h2,e,hb,hq=>by cases h1; cases h2; cases e; exact L6 (by simpa using hq)
 | [],y::ys,_,_,i,k,_,_,h1,h2,e,hb,hq=>by cases h1; cases h2; cases e; exact L6 (by simpa using hq)
 | x::xs,[],_,_,i,k,_,_,h1,h2,e,hb,hq=>by cases h1; cases h2; cases e; exact L6 (by simpa using hq)
 | x::xs,y::ys,_,_,i,k,d1,d2,h1,h2,e,hb,hq=>by
  simp only[T.depths]at d1 d2;cases h1 with
  | @cons _ u _ us p1 q1=>
   cases h2 with
   | @cons _ v _ vs p2 q2=>
    have he:=sX d x y _ _ A s ∅ p1 p2 hu ∅
    rw[JX];show PySem.W.kat_cons (he prog w _ _ ?_);simp only[cO]at e;have hlen:decide ((u::us).length < (v::vs).length)=decide (us.length < vs.length):=by simp
    rw[hlen]
    by_cases hxy:x=y
    ·rw[Hf hxy]at e;rw[HI hxy];exact PySem.W.kat_yes (oq hu xs ys us vs (i+1) k ∅ ∅ q1 q2 e (λ_ z=>absurd z (Nat.succ_ne_zero _)) hq)
    ·rw[Hl hxy]at e;rw[Hs hxy];show PySem.W.kat_no ?_
     by_cases hb0:b=true/\i=0
     ·obtain⟨rfl,rfl⟩:=hb0;rcases hb rfl rfl x y rfl rfl with⟨hx,hy⟩|⟨hx,hy⟩
      ·cases p1 with
       | int=>cases p2 with
        | int=>cases e; exact oneLt_int hq
        | _=>exact absurd hy (by simp[eU])
       | _=>exact absurd hx (by simp[eU])
      ·cases p1 with
       | str=>cases p2 with
        | str=>cases e; exact oneLt_str hq
        | _=>exact absurd hy (by simp[eU])
       | _=>exact absurd hx (by simp[eU])
     ·have hf:(b&&i==0)=false:=by
       cases b with
       | false=>rfl
       | true=>
        have:i≠0:=λz=>hb0 #[rfl,z]
        simpa using this
      rw[hf];exact PySem.W.kat_one _ _ ((Du d x y _ _ A s k ∅ ∅ p1 p2 hu e) prog w _ _ hq)
def yG {c d:GJ}{x y:T}{u v:GC}{k:Hi}{Q:Hi->GF->Prop}(hu:A.units+d < cLine)(d1:x.depth<=d)(d2:y.depth<=d)(h1:IsT s.heap x u)(h2:IsT s.heap y v)(e:fA x y=gV k)
  (hc:F7 c x y)
  (hq:Q k s):wpAny (model prog w) A (keyLt' (vm c) u v) Q E s:=by
 have tup:∀b:Hi,(∃f g,bq x=gV f/\bq y=gV g/\(b=true->(eU f = "int"/\eU g = "int")\/(eU f = "str"/\eU g = "str")))->wpAny (model prog w) A (keyLt' (tuples' b) u v) Q E s:=by
  rintro b ⟨f,g,hf,hg,hb⟩;cases h1 with
  | int=>cases hf
  | str=>cases hf
  | @tup xs a o items n a1 c1 e1 t1=>
   cases h2 with
   | int=>cases hg
   | str=>cases hg
   | @tup ys a' o' items' n' a2 c2 e2 t2=>
    simp only[T.depth]at d1 d2;show PySem.W.kat_lt a1 e1 a2 e2 ?_;have:=oq (prog:=prog) (w:=w) (b:=b) (Q:=Q) hu xs ys items.toList items'.toList 0 k ∅ ∅ t1 t2 e (λhb' _ p q hp hq'=>by
     cases xs with
     | nil=>cases hp
     | cons x0 xs=>cases ys with
      | nil=>cases hq'
      | cons y0 ys=>cases hp; cases hq'; cases hf; cases hg; exact hb hb') hq
    simpa using this
 match c,hc with
 | 0,#[hx,hy]=>
  cases h1 with
  | int=>cases h2 with
   | int=>cases e; exact PySem.W.kat_lt_int hq
   | _=>exact absurd hy (by simp[eU])
  | _=>exact absurd hx (by simp[eU])
 | 1,#[hx,hy]=>
  cases h1 with
  | str=>cases h2 with
   | str=>cases e; exact PySem.W.kas_lt_str hq
   | _=>exact absurd hy (by simp[eU])
  | _=>exact absurd hx (by simp[eU])
 | 2,#[f,g,h1',h2',h3,h4]=>exact tup true #[f,g,h1',h2',λ_=>.inl #[h3,h4]]
 | 3,#[f,g,h1',h2',h3,h4]=>exact tup true #[f,g,h1',h2',λ_=>.inr #[h3,h4]]
 | n+4,#[f,g,h1',h2']=>exact tup false #[f,g,h1',h2',λz=>nomatch z]
end
def yH {ks:Gy T}{c:GJ}(h:xK ks=gV c){x y:T}(hx:x∈ks)(hy:y∈ks) :
  F7 c x y:=by
 have one:∀ {ty:Ir},ks.all (λk=>eU k==ty)=true->eU x=ty/\eU y=ty:=λha=>#[eq_of_beq (G7.mp ha x hx),eq_of_beq (G7.mp ha y hy)]
 have fst:∀ {ty:Ir},ks.all (λk=>(bq k).any λf=>eU f==ty)=true->∃f g,bq x=gV f/\bq y=gV g/\eU f=ty/\eU g=ty:=λ{ty} ha=>by
  have h1:=G7.mp ha x hx;have h2:=G7.mp ha y hy;cases e1:bq x with
  | none=>rw[e1]at h1; cases h1
  | some f=>
   cases e2:bq y with
   | none=>rw[e2]at h2; cases h2
   | some g=>
    rw[e1]at h1; rw[e2]at h2
    exact#[f,g,rfl,rfl,eq_of_beq (by simpa using h1),eq_of_beq (by simpa using h2)]
 unfold xK at h;split at h
 ·cases h; exact one (by assumption)
 ·split at h
  ·cases h; exact one (by assumption)
  ·split at h
   ·cases h; exact fst (by assumption)
   ·split at h
    ·cases h; exact fst (by assumption)
    ·split at h
     ·cases h;obtain⟨f,g,h1,h2,_⟩:=fst (by assumption)
      exact#[f,g,h1,h2]
     ·cases h
abbrev cJ (S:aa):W->GH (Gy W)
 | .tup xs=>gV xs
 | .ref i=>match gN S i with
  | some xs=>gV xs
  | none=>(jx S i).map λU=>U.map λp=>p.1.w
 | _=>td
abbrev eh:GJ:=8
abbrev iH (ks:Gy T):Hi:=decide (ks.length < 64)&&decide (T.depths ks<=eh)&&(decide (ks.length < 2)||((xK ks).isSome&&eg ks))
abbrev eV (xs:Gy W)(S:aa):GH (W×aa):=match xs with
 | [x]=>match cJ S x with
  | some ws=>match W.ts ws with
   | some ks=>if iH ks then gV (.ref S.length,S++[.lst (d6 (lH ks) .non ws)])else td
   | none=>td
  | none=>td
 | _=>td
abbrev j4 (xs:Gy W)(S:aa):GH (W×aa):=match xs with
 | [.ref i]=>match jx S i with
  | some U=>gV (.ref S.length,S++[.lst (U.map λp=>p.1.w)])
  | none=>gE [.ref i] S
 | xs=>gE xs S
abbrev qb (xs:Gy W)(S:aa):GH (W×aa):=match xs with
 | [.ref i]=>match jx S i with
  | some U=>gV (.int U.length,S)
  | none=>p7 [.ref i] S
 | xs=>p7 xs S
abbrev gP (ks:Gy T):GJ:=argBest (lH ks) (ks.length - 1)
abbrev yI (xs:Gy W)(S:aa):GH (W×aa):=match xs with
 | [.ref i]=>match gN S i with
  | some ws=>match W.ts ws with
   | some ks=>if T.depths ks<=eh/\eg ks=true then(ws[gP ks]?).map λw=>(w,S)else td
   | none=>td
  | none=>td
 | _=>td
abbrev gQ:Gy W->GH (Gy Hi)
 | []=>gV []
 | .bl b::ws=>(gQ ws).map (b :: ·)
 | _::_=>td
abbrev Bz (xs:Gy W)(S:aa):GH (W×aa):=match xs with
 | [.ref i]=>match gN S i with
  | some ws=>(gQ ws).map λbs=>(.bl (bs.all id),S)
  | none=>td
 | _=>td
section
variable{X:Cx}{J:Gy (GP×IJ)}{Y:L2.St}{H:Hp}{s:GF}{A:Gy GP}{S:aa}
def RelL.pick {K:GZ}{ws:Gy W}{vs:Gy V}(r:RelL K A H ws vs)(d:W)(d':V):∀(is:Gy GJ),(∀i∈is,i < ws.length)->RelL K A H (is.map λi=>ws.getD i d) (is.map λi=>vs.getD i d')
 | [],_=>.nil
 | i::is,h=>by
  have hi:=h i (.head _);obtain⟨v,h1,h2⟩:=r.get (G5 hi);show .cons ?_ (RelL.pick r d d' is λj hj=>h j (.tail _ hj))
  have e1:ws.getD i d=ws[i]:=by simp[hi]
  have e2:vs.getD i d'=v:=by simp[h1]
  change Rel K A H (ws.getD i d) (vs.getD i d');rw[e1,e2]; exact h2
def Vals.pick {vs:Gy V}{us:Gy GC}(r:Vals vs us)(d:V)(d':GC):∀(is:Gy GJ),(∀i∈is,i < vs.length)->Vals (is.map λi=>vs.getD i d) (is.map λi=>us.getD i d')
 | [],_=>.nil
 | i::is,h=>by
  have hi:=h i (.head _);obtain⟨v,h1,h2⟩:=L2.Vals.get r (G5 hi);show .cons ?_ (Vals.pick r d d' is λj hj=>h j (.tail _ hj))
  have e1:vs.getD i d=vs[i]:=by simp[hi]
  have e2:us.getD i d'=v:=by simp[h1]
  change L2.RelV (vs.getD i d) (us.getD i d');rw[e1,e2]; exact h2
def mQ {n:GJ}{lt:GJ->GJ->Hi}(hn:0 < n):∀i∈(bI lt (JS n)).toList,i < n:=λi hi=>G2.mp ((mP (lt:=lt) (jD hn)).mem_iff.mp hi)
def vn {K:GZ}{lt:GJ->GJ->Hi}{ws:Gy W}{vs:Gy V}(r:RelL K A H ws vs):RelL K A H (d6 lt .non ws) (d6 lt .non vs):=by
 unfold d6;rw[r.length];split
 ·exact r
 ·exact r.pick _ _ _ λi hi=>by rw[r.length]; exact mQ ∅ i hi
def tm {lt:GJ->GJ->Hi}{vs:Gy V}{us:Gy GC}(r:Vals vs us):Vals (d6 lt .non vs) (d6 lt .none us):=by
 unfold d6;rw[L2.Vals.length r];split
 ·exact r
 ·exact Vals.pick r _ _ _ λi hi=>by rw[L2.Vals.length r]; exact mQ ∅ i hi
def ou {prog:Ht}{w:HD}{B:Hz}{E:GC->GF->Prop}{l:GP}{vs:Gy GC}{Q:Gy GC->GF->Prop}(hl:M4 s.heap l vs.toArray)(hsz:vs.length<=sizeLine)
  (h:∀h' tk,(∀b o,s.heap.get? b=gV o->h'.get? b=gV o)->s.heap.objs.size<=h'.objs.size->Q vs { s with heap:=h',toks:=tk }):wpAny (model prog w) B (collect (.ref l)) Q E s:=by
 obtain⟨o,ho,hc,n,hd⟩:=id hl;unfold collect;show GB (Mn (IN entry_proto_collect' ?_));change wpAny _ _ (do again (.builtin "list.__iadd__" #[[<- newList [],.ref l],[]])) _ _ s
 show GB (MK (GU #[Code.quiet_builtin _ (by decide +kernel),IN entry_list_iadd' ?_]))
 change wpAny _ _ (Jl (.ref s.heap.objs.size) (.ref l) (.ref s.heap.objs.size)) _ _ { s with heap:=s.heap.push (seqObj "list" #[] 0) }
 unfold Jl;have ho':(s.heap.push (seqObj "list" #[] 0)).get? l=gV o:=GN _ ho;show GB (K4 (T:="tuple") #[o,ho',hc] ?_);have ht:(J7 "tuple" == J7 "tuple")=true:=by rfl
 rw[Hf (by rw[ht]; simp)]
 show GB (Nl ho' hd ?_);show GB (Nl (xs:=#[]) (n:=0) (Hb _ rfl) rfl ?_);rw[Hl (by simp)]
 show GB (Lz (xs:=#[]) (n:=0) (Hb _ rfl) rfl ?_ (IH _) (by show(#[]++vs.toArray).size<=sizeLine+1; simp only[Array.size_append,G6,IL]; omega))
 show GU ?_;change wpAny (model prog w) B (do
   let o <- load s.heap.objs.size
   match o.data with
   | .seq xs _=>pure xs.toList
   | _=>unsupported "internal:collect") Q E { s with heap:=(s.heap.push (seqObj "list" #[] 0)).update s.heap.objs.size (IA (· ++ vs.toArray)) }
 show GB (MR (L5 (Hb _ rfl) _) ?_);change wpAny _ _ (pure ((#[]:HE GC)++vs.toArray).toList) Q E _;rw[show((#[]:HE GC)++vs.toArray).toList=vs by simp]
 show GU (h _ s.toks (λb o' e=>(Km _ _ _ _ (Ho (Hd e))).trans (GN _ e)) ?_)
 rw[NE,size_push'];exact JV _
def DicAt.raw {wd:HD}{a:GP}{xs:Gy (T×GP×GC)}{h:HP}(d:DicAt wd a xs h):∃es ep,RawD a es ep h/\es.toList=xs.map (uW wd):=
 let ⟨_,_,_,o,es,ep,h1,h2,h3,h4⟩:=d; #[es,ep,#[o,h1,h2,h3],h4]
def KRel.keysL {U:Gy (T×W)}{xs:Gy (T×GP×GC)}(r:KRel X.K A H U xs):RelL X.K A H (U.map λp=>p.1.w) (xs.map λq=>V.ref q.2.1):=by
 unfold KRel at r
 induction r with
 | nil=>exact .nil
 | cons h t ih=>exact .cons h.2.2.2.1 ih
def lJ (xs:Gy (T×GP×GC)):Vals (xs.map λq=>V.ref q.2.1) (xs.map λq=>HM q.2.1):=by
 induction xs with
 | nil=>exact .nil
 | cons x xs ih=>exact .cons rfl ih
def j5 {wd:HD}{es:HE Jd}{xs:Gy (T×GP×GC)}(he:es.toList=xs.map (uW wd)){acc:HE GC}(ha:LQ (λi v=>∃e,es[i]?=gV e/\e.key=v) acc es.size):acc.toList=xs.map λq=>HM q.2.1:=by
 have hl:es.size=xs.length:=by rw[<- Hn,he,Gz]
 apply Kc
 ·rw[Hn,ha.1,Gz,hl]
 ·intro i h1 h2;rw[Hn]at h1;obtain⟨e,q1,q2⟩:=ha.2 i acc[i] (by simp[h1])
  rw[<- II,he,GM]at q1;rw[Gz]at h2;rw[G5 h2]at q1;simp only[Hv,Hx]at q1;subst q1;rw[NF,Array.getElem_toList];exact q2.symm
def tt {x:W}{a:V}{u:GC}{ws:Gy W}(hh:X.A.handled=td)(I:Inv X J Y H s)(so:StoreOk X.w X.K A H S)(rx:Rel X.K A H x a)(ru:RelV a u)(e:cJ S x=gV ws):∃vs us,RelL X.K A H ws vs/\Vals vs us/\us.length<=sizeLine/\
  ∀(B:Hz) (hB:B.handled=td) (E:GC->GF->Prop) (Q':Gy GC->GF->Prop),(∀h' tk,(∀b o,s.heap.get? b=gV o->h'.get? b=gV o)->s.heap.objs.size<=h'.objs.size->Q' us { s with heap:=h',toks:=tk })->wpAny (model X.prog X.w) B (collect u) Q' E s:=by
 cases rx with
 | tup h1 r1=>
  cases e;obtain⟨its,rv,ht,hz⟩:=I.tuple h1;obtain rfl:u=HM _:=ru;exact#[_,its,r1,rv,by rw[<- L2.Vals.length rv]; exact hz,λB hB E Q' h=>ou ht (by rw[<- L2.Vals.length rv]; exact hz) h]
 | ref ea=>
  dsimp only[cJ]at e;split at e
  ·rename_i xs hx;cases e;obtain⟨vs,h1,r1⟩:=ce so hx ea;obtain⟨its,rv,p,hz⟩:=I.list h1;obtain rfl:u=HM _:=ru;show#[_,its,r1,rv,by rw[<- L2.Vals.length rv]; exact hz,λB hB E Q' h=>collect_list p.isList (h _ s.toks (λb o' e=>(Km _ _ _ _ (Ho (Hd e))).trans (GN _ e)) ?_) (by rw[<- L2.Vals.length rv]; exact hz)]
   rw[NE,size_push'];exact JV _
  ·rw[GD]at e;obtain⟨U,hk,rfl⟩:=e;obtain⟨xs,rd,kr⟩:=fG so hk ea;have d:=cr I rd;obtain⟨es,ep,raw,he⟩:=d.raw;obtain rfl:u=HM _:=ru;have hl:es.size=xs.length:=by rw[<- Hn,he,Gz]
   show#[_,_,kr.keysL,lJ xs,by rw[Gz]; exact d.1,λB hB E Q' h=>oh (rz d.2.1) hB raw (by rw[hl]; exact d.1) λh' tk acc hk' hle ha=>?_]
   rw[j5 he ha];exact h h' tk hk' hle
 | _=>cases e
def lK {h':HP}{tk c:GJ}{D:GP}{ws:Gy W}{vs:Gy V}{us:Gy GC}(I:Inv X J Y H s)(so:StoreOk X.w X.K A H S)(r:RelL X.K A H ws vs)(rv:Vals vs us)(hz:us.length<=sizeLine)(hk:∀b o,s.heap.get? b=gV o->h'.get? b=gV o)(hD:s.heap.objs.size<=D)
  (ho:h'.get? D=gV { cls:=.type "list",data:=.seq us.toArray c }):PostE X J Y A H (S++[.lst ws]) (.ref S.length) (.ref D) { s with heap:=h',toks:=tk }:=by
 have hn:H D=td:=I.hok.fresh hD;show#[.ref D,_,A++[D],I.laid (a:=D) (o:=.lst vs) (t':=tk) hk hD #[by rw[L2.Vals.length rv]; exact hz,us,c,rv,ho],rfl,dP hn,so.push hn r,.ref ?_]
 rw[<- so.len]; simp
def mR (hh:X.A.handled=td)(hu:X.A.units+12 < cLine):LCall X (.builtin "sorted") eV:=by
 intro J s Y H A S xs vs us w S' I so rl rv e;cases rl with
 | nil=>cases e
 | cons r t=>
  cases t with
  | cons _ _=>cases e
  | nil=>
   cases rv with
   | cons ru rv2=>
    cases rv2;dsimp only[eV]at e;split at e
    ·rename_i ws hw;split at e
     ·rename_i ks hk;split at e
      ·rename_i hok;cases e;obtain⟨vs',us',r1,rv1,hz,hcol⟩:=tt hh I so r ru hw
       (dsimp only[iH]at hok; simp only[GK,Hm]at hok)
       obtain⟨⟨h64,hd⟩,hok⟩:=hok;have hws:T.ws ks=ws:=W.ts_w hk;have hT:IsTs s.heap ks us':=fW I ks (hws ▸ r1) rv1;have hl:us'.length=ks.length:=hT.length.symm;have sk:2<=us'.length->(xK ks).isSome=true/\eg ks=true:=λh2=>by
        rcases ID _ _ ▸ hok with h|h
        ·simp only[Hm]at h; omega
        ·simpa using h
       show tj (vs:=us') (lt:=lH ks) (κ:=vm ((xK ks).getD 0)) ∅ (λQ' hQ'=>hcol X.A.in1 hh _ Q' hQ') (λh2 h' tk hk' Q hq=>?_) (λh2 h' tk hk' i j hi hj Q hq=>?_) λD h' tk c hk' hD ho=>?_
       ·obtain⟨q1,q2⟩:=sk h2;obtain⟨c,hc⟩:=HW.mp q1;rw[hc]at hq;exact By (s:={ s with heap:=h',toks:=tk }) (hT.kept λb o _ e=>hk' b o e) h2 hc hq
       ·obtain⟨q1,q2⟩:=sk h2;obtain⟨c,hc⟩:=HW.mp q1;rw[hc];have hi':i < ks.length:=∅
        have hj':j < ks.length:=∅
        have g:=(hT.kept (h':=h') λb o _ e=>hk' b o e)
        have e1:us'.getD i HZ=us'[i]:=by simp[hi]
        have e2:us'.getD j HZ=us'[j]:=by simp[hj]
        rw[e1,e2];have b1:=dR (ks:=ks) i hi';have b2:=dR (ks:=ks) j hj';exact yG (s:={ s with heap:=h',toks:=tk }) (d:=eh) (c:=c) (by rw[be,be]; unfold eh; omega) ∅ ∅ (g.get i hi' hi) (g.get j hj' hj) (dS q2 hi' hj') (yH hc (HA hi') (HA hj')) hq
       ·exact lK I so (vn r1) (tm rv1) (by rw[oo]; exact hz) hk' hD ho
      ·cases e
     ·cases e
    ·cases e
def ow (hh:X.A.handled=td):LCall X (.type "list") j4:=by
 intro J s Y H A S xs vs us w S' I so rl rv e
 by_cases hd:∃i U,xs=[.ref i]/\jx S i=gV U
 ·obtain⟨i,U,rfl,hk⟩:=hd
  (dsimp only[j4]at e; simp only[hk]at e)
  cases e;cases rl with
  | cons r t=>
   cases t;cases rv with
   | cons ru rv2=>
    cases rv2;cases r with
    | ref ea=>
     obtain⟨xs,rd,kr⟩:=fG so hk ea;have d:=cr I rd;obtain⟨es,ep,raw,he⟩:=d.raw;obtain rfl:_=HM _:=ru;have hl:es.size=xs.length:=by rw[<- Hn,he,Gz]
     show PySem.W.kdl_call (rz d.2.1) hh raw (by rw[hl]; exact d.1) λh' tk acc' c' hk' hD ha=>?_
     have ea':=j5 he ha;show lK (us:=acc'.toList) I so kr.keysL (ea' ▸ lJ xs) (by rw[ea',Gz]; exact d.1) hk' (GY _) (c:=c') ?_
     simpa using hD
 ·have:j4 xs S=gE xs S:=by
   unfold j4;split
   ·rename_i i;split
    ·rename_i U hk;exact absurd #[i,U,rfl,hk] hd
    ·rfl
   ·rfl
  rw[this]at e;exact gO J s Y H A S xs vs us w S' I so rl rv e
end
open PySem.W (KasT kas_sort kas_asc kas_desc kas_tail3 kas_descPart kas_count kas_place kas_bin kas_rev)
def dI {α β:Type}{lt:GJ->GJ->Hi}{f:α->KasT β}:∀t:KasT α,bI lt (t.bind f)=bI lt (f (bI lt t))
 | .ret _=>rfl
 | .ask i j k=>dI (k (lt i j))
structure Lin (n:GJ)(lt:GJ->GJ->Hi):Prop where
 tr:∀i j k,i < n->j < n->k < n->lt i j=true->lt j k=true->lt i k=true
 as:∀i j,i < n->j < n->lt i j=true->lt j i=false
 to:∀i j,i < n->j < n->i≠j->lt j i=false->lt i j=true
abbrev gt (p:HE GJ)(i:GJ):GJ:=p.getD i 0
def iI {p:HE GJ}{i:GJ}:gt p i=(p[i]?).getD 0:=by unfold gt; simp[Array.getD_eq_getD_getElem?]
def Pm.inj {n:GJ}{p:HE GJ}(h:Pm n p){i j:GJ}(hi:i < n)(hj:j < n)(hne:i≠j):gt p i≠gt p j:=by
 have nd:p.toList.Nodup:=h.nodup_iff.mpr Kd;have hi':i < p.toList.length:=by rw[Hn,h.size]; exact hi
 have hj':j < p.toList.length:=by rw[Hn,h.size]; exact hj
 intro e;have e1:gt p i=p.toList[i]:=by unfold gt; simp[LR,h.size,hi]
 have e2:gt p j=p.toList[j]:=by unfold gt; simp[LR,h.size,hj]
 rw[e1,e2]at e;have pw:=Jw.mp nd;rcases MY hne with h|h
 ·exact pw i j hi' hj' h e
 ·exact pw j i hj' hi' h e.symm
abbrev Up (lt:GJ->GJ->Hi)(p:HE GJ)(m:GJ):Prop:=∀i j,i < j->j < m->lt (gt p i) (gt p j)=true
section
variable{n:GJ}{lt:GJ->GJ->Hi}(L:Lin n lt)
include L
def Up.more {p:HE GJ}{a:GJ}(hp:Pm n p)(ha:1<=a)(han:a < n)(h:Up lt p a)(hl:lt (gt p (a - 1)) (gt p a)=true):Up lt p (a+1):=by
 have hn:0 < n:=∅
 intro i j hij hj
 by_cases e:j=a
 ·subst e
  by_cases e2:i=j - 1
  ·subst e2; exact hl
  ·exact L.tr _ _ _ (hp.lt hn _) (hp.lt hn _) (hp.lt hn _) (h i (j - 1) ∅ ∅) hl
 ·exact h i j hij ∅
def qc {p:HE GJ}(hp:Pm n p):∀(f a:GJ),1<=a->a+f=n->Up lt p a->Up lt p (bI lt (kas_asc p f a))/\a<=bI lt (kas_asc p f a)/\bI lt (kas_asc p f a)<=n/\(bI lt (kas_asc p f a) < n->lt (gt p (bI lt (kas_asc p f a))) (gt p (bI lt (kas_asc p f a) - 1))=true)
 | 0,a,h1,h2,h=>#[h,GY _,by change a<=n; omega,λz=>by have:a < n:=z; omega]
 | f+1,a,h1,h2,h=>by
  have hn:0 < n:=∅
  have e:bI lt (kas_asc p (f+1) a)=bI lt (if lt (gt p a) (gt p (a - 1))=true then .ret a else kas_asc p f (a+1)):=rfl
  rw[e];cases c:lt (gt p a) (gt p (a - 1))with
  | true=>exact#[h,GY _,by change a<=n; omega,λ_=>c]
  | false=>
   have l:lt (gt p (a - 1)) (gt p a)=true:=L.to _ _ (hp.lt hn (a - 1)) (hp.lt hn a) (hp.inj ∅ ∅ ∅) c
   obtain⟨q1,q2,q3,q4⟩:=qc hp f (a+1) ∅ ∅ (Up.more L hp h1 ∅ h l)
   exact#[q1,by change a<=bI lt (kas_asc p f (a+1)); omega,q3,q4]
abbrev Dn (lt:GJ->GJ->Hi)(p:HE GJ)(m:GJ):Prop:=∀i j,i < j->j < m->lt (gt p j) (gt p i)=true
def rC {p:HE GJ}(hp:Pm n p):∀(f a:GJ),1<=a->a+f=n->Dn lt p a->∃m,bI lt (kas_desc f p a 0)=(p,m,0)/\a<=m/\m<=n/\Dn lt p m
 | 0,a,h1,h2,h=>#[a,rfl,GY _,∅,h]
 | f+1,a,h1,h2,h=>by
  have hn:0 < n:=∅
  have e:bI lt (kas_desc (f+1) p a 0)=bI lt (if lt (gt p a) (gt p (a - 1))=true then(if 0 > 0 then kas_desc f (kas_rev p (a - (0+1)) a) (a+1) 0 else kas_desc f p (a+1) 0)else .ask (gt p (a - 1)) (gt p a) λd=>if d=true then .ret (p,a,0)else kas_desc f p (a+1) (0+1)):=rfl
  rw[e];cases c:lt (gt p a) (gt p (a - 1))with
  | true=>
   obtain⟨m,q1,q2,q3,q4⟩:=rC hp f (a+1) ∅ ∅ λi j hij hj=>by
    by_cases e:j=a
    ·subst e
     by_cases e2:i=j - 1
     ·subst e2; exact c
     ·exact L.tr _ _ _ (hp.lt hn _) (hp.lt hn _) (hp.lt hn _) c (h i (j - 1) ∅ ∅)
    ·exact h i j hij ∅
   exact#[m,q1,∅,q3,q4]
  | false=>
   have l:lt (gt p (a - 1)) (gt p a)=true:=L.to _ _ (hp.lt hn (a - 1)) (hp.lt hn a) (hp.inj ∅ ∅ ∅) c
   show#[a,?_,GY _,∅,h]
   change bI lt (if lt (gt p (a - 1)) (gt p a)=true then .ret (p,a,0)else kas_desc f p (a+1) (0+1))=_
   rw[l]; rfl
omit L in
def BA {p:HE GJ}{m:GJ}(hp:Pm n p)(hm:m<=n)(h:Dn lt p m):Up lt (kas_rev p 0 m) m:=by
 intro i j hij hj;have g:∀k,k < m->gt (kas_rev p 0 m) k=gt p (m - 1 - k):=λk hk=>by
  rw[iI,iI];show((mirror p 0 m ((m - 0) / 2))[k]?).getD 0=_;rw[getElem?_mirror_all (by rw[hp.size]; exact hm),Hf #[IH _,hk],Nat.zero_add]
 rw[g i ∅,g j hj]
 exact h _ _ ∅ ∅
def vo {p:HE GJ}(hp:Pm n p)(hn:1<=n):∃m p',bI lt (kas_count n p)=(m,p')/\Pm n p'/\1<=m/\m<=n/\Up lt p' m:=by
 unfold kas_count;rw[dI];obtain⟨q1,q2,q3,q4⟩:=qc L hp (n - 1) 1 (GY _) ∅ λi j hij hj=>∅
 generalize bI lt (kas_asc p (n - 1) 1)=m at q1 q2 q3 q4
 by_cases hm:m=n
 ·subst hm;rw[Hf (Im _)];exact#[m,p,rfl,hp,q2,GY _,q1]
 ·rw[Hl (by simp[hm])]
  by_cases h1:m > 1
  ·rw[Hf h1];have l:=q1 0 (m - 1) ∅ ∅
   show#[m,p,?_,hp,q2,q3,q1];change bI lt (if lt (gt p 0) (gt p (m - 1))=true then .ret (m,p)else kas_descPart m n (kas_rev p 0 m))=_
   rw[l]; rfl
  ·rw[Hl h1];obtain rfl:m=1:=∅
   unfold kas_descPart;rw[dI];have l:=q4 ∅
   obtain⟨m,e,r1,r2,r3⟩:=rC L hp (n - (1+1)) (1+1) ∅ ∅ λi j hij hj=>by
    obtain rfl:j=1:=∅
    obtain rfl:i=0:=∅
    exact l
   rw[e];dsimp only;rw[Hl ∅]
   unfold kas_tail3;rw[dI];have hp':Pm n (kas_rev p 0 m):=hp.rev 0 m;obtain⟨z1,z2,z3,z4⟩:=qc L hp' (n - m) m ∅ ∅ (BA hp r2 r3)
   exact#[_,_,rfl,hp',∅,z3,z1]
def j6 {p:HE GJ}{k:GJ}(hp:Pm n p)(hk:k < n)(hu:Up lt p k):∀(f l r:GJ),l<=r->r<=k->r - l<=f->(∀i,i < l->lt (gt p i) (gt p k)=true)->(∀i,r<=i->i < k->lt (gt p k) (gt p i)=true)->
  ∃m,bI lt (kas_place p k f l r)=m/\m<=k/\(∀i,i < m->lt (gt p i) (gt p k)=true)/\(∀i,m<=i->i < k->lt (gt p k) (gt p i)=true)
 | 0,l,r,h1,h2,h3,ha,hb=>#[l,rfl,∅,ha,λi hi=>hb i ∅]
 | f+1,l,r,h1,h2,h3,ha,hb=>by
  have hn:0 < n:=∅
  unfold kas_place
  by_cases hge:l>=r
  ·rw[Hf hge];exact#[l,rfl,∅,ha,λi hi=>hb i ∅]
  ·rw[Hl hge];change ∃m,bI lt (if lt (gt p k) (gt p ((l+r) / 2))=true then kas_place p k f l ((l+r) / 2)else kas_place p k f ((l+r) / 2+1) r)=m/\_
   cases c:lt (gt p k) (gt p ((l+r) / 2))with
   | true=>
    rw[Hf rfl];show j6 hp hk hu f l ((l+r) / 2) ∅ ∅ ∅ ha λi hi hik=>?_
    by_cases e:i=(l+r) / 2
    ·rw[e]; exact c
    ·exact L.tr _ _ _ (hp.lt hn _) (hp.lt hn _) (hp.lt hn _) c (hu _ _ ∅ hik)
   | false=>
    rw[Hl He];have l':=L.to _ _ (hp.lt hn ((l+r) / 2)) (hp.lt hn k) (hp.inj ∅ ∅ ∅) c
    show j6 hp hk hu f ((l+r) / 2+1) r ∅ h2 ∅ (λi hi=>?_) hb
    by_cases e:i=(l+r) / 2
    ·rw[e]; exact l'
    ·exact L.tr _ _ _ (hp.lt hn _) (hp.lt hn _) (hp.lt hn _) (hu i ((l+r) / 2) ∅ ∅) l'
def vp:∀(f:GJ) (p:HE GJ) (k:GJ),Pm n p->k+f=n->Up lt p k->Pm n (bI lt (kas_bin f p k))/\Up lt (bI lt (kas_bin f p k)) n
 | 0,p,k,hp,h,hu=>by
  have:k=n:=∅
  exact#[hp,this ▸ hu]
 | f+1,p,k,hp,h,hu=>by
  unfold kas_bin;rw[dI];obtain⟨m,e,h1,ha,hb⟩:=j6 L hp ∅ hu k 0 k (IH _) (GY _) ∅ (λi hi=>∅) λi h1 h2=>∅
  rw[e];show vp f _ (k+1) (hp.bub _ _) ∅ λi j hij hj=>?_
  have g:∀i,gt (bubble p k (k - m)) i=if i=m then gt p k else if m < i/\i<=k then gt p (i - 1)else gt p i:=λi=>by
   rw[iI,iI,iI,iI,getElem?_bubble (by rw[hp.size]; omega) _ ∅,show k - (k - m)=m by omega]
   split
   ·rfl
   ·split <;> rfl
  rw[g,g]
  repeat' split
  all_goals first
   | (exfalso; omega)
   | exact ha _ ∅
   | exact hb _ ∅ ∅
   | exact hu _ _ ∅ ∅
def yJ (hn:1<=n):Pm n (bI lt (kas_sort n))/\Up lt (bI lt (kas_sort n)) n:=by
 unfold kas_sort;rw[dI];obtain⟨m,p',e,h1,h2,h3,h4⟩:=vo L (p:=(GL n).toArray) (by unfold Pm; simp) hn
 rw[e];dsimp only
 by_cases hm:m < n
 ·rw[Hf hm];have:max m 1=m:=∅
  rw[this];exact vp L _ _ _ h1 ∅ h4
 ·rw[Hl hm];have:m=n:=∅
  exact#[h1,this ▸ h4]
end
end Mi
namespace Mi
open PySem PySem.Spec PyProof.Rows L2
mutual
theorem j7:∀x y:T,g9 x=true->fA x y=gV true->fA y x=gV false
 | .int a,.int b,_,h=>by
  dsimp only[fA]at h; simp only[Hx,Hm]at h
  dsimp only[fA]; simp only[Hx,KD]
  omega
 | .str _,_,h,_=>by cases h
 | .tup xs,.tup ys,hn,h=>mS xs ys hn h
 | .int _,.str _,_,h|.int _,.tup _,_,h|.tup _,.int _,_,h|.tup _,.str _,_,h=>by cases h
theorem mS:∀xs ys:Gy T,ee xs=true->cO xs ys=gV true->cO ys xs=gV false
 | [],[],_,h=>by cases h
 | [],_::_,_,_=>rfl
 | _::_,[],_,h=>by cases h
 | x::xs,y::ys,hn,h=>by
  simp only[ee,GK]at hn;dsimp only[cO]at h ⊢
  by_cases e:x=y
  ·rw[Hf e]at h;rw[Hf e.symm];exact mS xs ys hn.2 h
  ·rw[Hl e]at h;rw[Hl (Ne.symm e)];exact j7 x y hn.1 h
end
mutual
theorem mT:∀x y:T,g9 x=true->x≠y->fA y x=gV false->fA x y=gV true
 | .int a,.int b,_,hne,h=>by
  dsimp only[fA]at h; simp only[Hx,KD]at h
  dsimp only[fA]; simp only[Hx,Hm]
  have:a≠b:=λe=>hne (e ▸ rfl)
  omega
 | .str _,_,h,_,_=>by cases h
 | .tup xs,.tup ys,hn,hne,h=>rD xs ys hn (λe=>hne (e ▸ rfl)) h
 | .int _,.str _,_,_,h|.int _,.tup _,_,_,h|.tup _,.int _,_,_,h|.tup _,.str _,_,_,h=>by cases h
theorem rD:∀xs ys:Gy T,ee xs=true->xs≠ys->cO ys xs=gV false->cO xs ys=gV true
 | [],[],_,h,_=>absurd rfl h
 | [],_::_,_,_,_=>rfl
 | _::_,[],_,_,h=>by cases h
 | x::xs,y::ys,hn,hne,h=>by
  simp only[ee,GK]at hn;dsimp only[cO]at h ⊢
  by_cases e:x=y
  ·rw[Hf e.symm]at h;rw[Hf e];exact rD xs ys hn.2 (λz=>hne (by rw[e,z])) h
  ·rw[Hl (Ne.symm e)]at h;rw[Hl e];exact mT x y hn.1 e h
end
mutual
theorem qd:∀x y z:T,g9 x=true->g9 y=true->fA x y=gV true->fA y z=gV true->fA x z=gV true
 | .int a,.int b,.int c,_,_,h,h'=>by
  dsimp only[fA]at h h' ⊢; simp only[Hx,Hm]at h h' ⊢
  omega
 | .tup xs,.tup ys,.tup zs,hn,hn',h,h'=>rE xs ys zs hn hn' h h'
 | .str _,_,_,h,_,_,_=>by cases h
 | .int _,.str _,_,_,_,h,_|.int _,.tup _,_,_,_,h,_|.tup _,.int _,_,_,_,h,_|.tup _,.str _,_,_,_,h,_=>by cases h
 | .int _,.int _,.str _,_,_,_,h|.int _,.int _,.tup _,_,_,_,h|.tup _,.tup _,.int _,_,_,_,h|.tup _,.tup _,.str _,_,_,_,h=>by cases h
theorem rE:∀xs ys zs:Gy T,ee xs=true->ee ys=true->cO xs ys=gV true->cO ys zs=gV true->cO xs zs=gV true
 | [],[],_,_,_,h,_=>by cases h
 | _::_,[],_,_,_,h,_=>by cases h
 | _,_::_,[],_,_,_,h=>by cases h
 | [],_::_,_::_,_,_,_,_=>rfl
 | x::xs,y::ys,z::zs,hn,hn',h,h'=>by
  simp only[ee,GK]at hn hn';dsimp only[cO]at h h' ⊢
  by_cases e:x=y
  ·subst e;rw[Hf rfl]at h
   by_cases e':x=z
   ·rw[Hf e']at h' ⊢;exact rE xs ys zs hn.2 hn'.2 h h'
   ·rw[Hl e']at h' ⊢;exact h'
  ·rw[Hl e]at h
   by_cases e':y=z
   ·subst e';rw[Hl e];exact h
   ·rw[Hl e']at h';have t:=qd x y z hn.1 hn'.1 h h';have e2:x≠z:=λe2=>by
     subst e2;have:=j7 x x hn.1 t;rw[t]at this; cases this
    rw[Hl e2];exact t
end
abbrev Dv (ks:Gy T):Prop:=ks.Pairwise λx y=>fA x y=gV true
abbrev vt (ks:Gy T):Gy T:=d6 (lH ks) (.int 0) ks
structure Nice (ks:Gy T):Prop where
 num:∀x∈ks,g9 x=true
 lt:eg ks=true
 nd:ks.Nodup
def Nice.lin {ks:Gy T}(h:Nice ks):Lin ks.length (lH ks):=by
 have nm:∀i (hi:i < ks.length),g9 ks[i]=true:=λi hi=>h.num _ (HA hi)
 show#[λi j k hi hj hk a b=>?_,λi j hi hj a=>?_,λi j hi hj hne a=>?_]
 ·have e1:=dS h.lt hi hj;have e2:=dS h.lt hj hk;have e3:=dS h.lt hi hk;rw[a]at e1; rw[b]at e2
  rw[qd _ _ _ (nm i hi) (nm j hj) e1 e2]at e3;exact(HV e3).symm
 ·have e1:=dS h.lt hi hj;have e2:=dS h.lt hj hi;rw[a]at e1;rw[j7 _ _ (nm i hi) e1]at e2;exact(HV e2).symm
 ·have e1:=dS h.lt hj hi;have e2:=dS h.lt hi hj;rw[a]at e1;have hne':ks[i]≠ks[j]:=λe=>by
   have pw:=Jw.mp h.nd;rcases MY hne with q|q
   ·exact pw i j hi hj q e
   ·exact pw j i hj hi q e.symm
  rw[mT _ _ (nm i hi) hne' e1]at e2;exact(HV e2).symm
def hZ {α:Type}{lt:GJ->GJ->Hi}{d:α}{xs:Gy α}:(d6 lt d xs).Perm xs:=by
 unfold d6;split
 ·exact .refl _
 ·have p:Pm xs.length (bI lt (JS xs.length)):=mP (jD ∅)
  show(Px _ p).trans ?_;have:(GL xs.length).map (λi=>xs.getD i d)=xs:=by
   apply Kc
   ·simp
   ·intro k h1 h2; simp[h2]
  rw[this]
def vw {ks:Gy T}(h:Nice ks):Dv (vt ks):=by
 unfold vt d6 Dv;split
 ·rename_i hl
  match ks,hl with
  | [],_=>exact .nil
  | [x],_=>simp
  | _::_::_,hl=>simp only[HJ]at hl; omega
 ·rename_i hl;obtain⟨p,u⟩:=yJ h.lin ∅
  rw[Jw];intro i j hi hj hij;rw[Gz,Hn,p.size]at hi hj;have hn:0 < ks.length:=∅
  have l:=u i j hij hj;have e1:=dS h.lt (p.lt hn i) (p.lt hn j);have g:∀k (hk:k < ks.length),(bI (lH ks) (JS ks.length)).getD k 0=(bI (lH ks) (JS ks.length)).toList[k]'(by rw[Hn,p.size]; exact hk):=λk hk=>by simp[LR,p.size,hk]
  have l':lH ks ((bI (lH ks) (JS ks.length)).getD i 0) ((bI (lH ks) (JS ks.length)).getD j 0)=true:=l;rw[l']at e1;have gd:∀k (hk:k < ks.length),ks.getD k (.int 0)=ks[k]:=λk hk=>by simp[hk]
  simp only[NF];rw[<- g i hi,<- g j hj,gd _ (p.lt hn i),gd _ (p.lt hn j)];exact e1
def ox:∀ {a b:Gy T},(∀x∈a,g9 x=true)->a.Perm b->Dv a->Dv b->a=b
 | [],b,_,p,_,_=>(Po p)
 | x::a,[],_,p,_,_=>absurd p.length_eq (by simp)
 | x::a,y::b,hn,p,h,h'=>by
  have e:x=y:=by
   rcases Hj.mp (p.mem_iff.mp (HU))with e|e
   ·exact e
   ·rcases Hj.mp (p.mem_iff.mpr (HU))with e'|e'
    ·exact e'.symm
    ·have l1:=Lk h e';have l2:=Lk h' e;have:=j7 _ _ (hn x (.head _)) l1;rw[l2]at this; cases this
  subst e;rw[ox (λz hz=>hn z (.tail _ hz)) ((List.perm_cons x).mp p) (MZ.mp h).2 (MZ.mp h').2]
abbrev j8 (xs:Gy W)(S:aa):GH (W×aa):=match xs with
 | [.ref i]=>match sW S i with
  | some (lo,hi)=>if -(2 ^ 62)<=lo/\lo < 2 ^ 62/\-(2 ^ 62)<=hi/\hi < 2 ^ 62/\(hi - lo).toNat<=sizeLine then gV (.tup (yE lo (hi - lo).toNat),S)else td
  | none=>jW [.ref i] S
 | xs=>jW xs S
section
variable{prog:Ht}{w:HD}{A:Hz}{E:GC->GF->Prop}{s:GF}
def lc {Q:Gy GC->GF->Prop}{r:GP}{a b c:G1}{t u v:Py}{n:GJ}(hh:A.handled=td)(hr:Pj s.heap r a b c t u v)(hsmall:K1 a b c=true)
  (hn:IQ a b c=n) (hlen:n<=2 ^ 24)
  (hQ:∀h' tk (acc:HE GC),(∀b o,s.heap.get? b=gV o->h'.get? b=gV o)->s.heap.objs.size<=h'.objs.size->LQ (λi v=>∃t,v=.int (a+i*c) t) acc n->Q acc.toList { s with heap:=h',toks:=tk }):wpAny (model prog w) A (collect (.ref r)) Q E s:=by
 unfold collect;show GB (Mn (IN F.entry_proto_collect ?_));rw[IB F.plain_proto_collect _];change wpAny _ A.in1 (newList [] >>= λl=>again (.builtin "list.__iadd__" #[[l,.ref r],[]])) _ _ s
 show GB (HQ ?_);show GU #[J0 F.plain_list_iadd _,IN F.entry_list_iadd ?_];rw[IB F.plain_list_iadd _];change wpAny _ A.in1 (Jl (.ref s.heap.objs.size) (.ref r) (.ref s.heap.objs.size)) _ _ _;have hS:(s.heap.push { cls:=.type "list",data:=.seq ([]:Gy GC).toArray }).get? s.heap.objs.size=gV { cls:=.type "list",data:=.seq #[] 0 }:=Hb _ rfl;have fin':∀s',(∃h' tk acc c',s'={ s with heap:=h',toks:=tk }/\(∀b o,s.heap.get? b=gV o->h'.get? b=gV o)/\h'.get? s.heap.objs.size=gV { cls:=.type "list",dict:=td,data:=.seq acc c',slots:=#[] }/\LQ (λi v=>∃t,v=.int (a+i*c) t) acc n)->wpAny (model prog w) A (do
   let o <- load s.heap.objs.size
   match o.data with
   | .seq xs _=>pure xs.toList
   | _=>unsupported "internal:collect") Q E s':=by
  rintro s' ⟨h',tk,acc,c',rfl,hk,hS',hacc⟩;exact GB (MR hS' (GU (hQ h' tk acc hk (Kb (Hd hS')) hacc)))
 show IP (wpAny_extend_range (A:=A) (s:={ s with heap:=s.heap.push { cls:=.type "list",data:=.seq ([]:Gy GC).toArray } }) (R:=λr s'=>r=.ok (.ret (.ref s.heap.objs.size))/\∃h' tk acc c',s'={ s with heap:=h',toks:=tk }/\(∀b o,s.heap.get? b=gV o->h'.get? b=gV o)/\h'.get? s.heap.objs.size=gV { cls:=.type "list",dict:=td,data:=.seq acc c',slots:=#[] }/\LQ (λi v=>∃t,v=.int (a+i*c) t) acc n) hh (GN _ hr) hsmall hn hlen _ _ 0 hS λh' tk acc' c' hk hS' hacc=>#[rfl,h',tk,acc',c',rfl,λb o e=>hk b o (Ho (Hd e)) (GN _ e),hS',hacc]) (λfin s' h=>?_) (λe s' h=>?_)
 ·cases fin with
  | done f=>
   obtain⟨e,h⟩:=h;cases e;exact fin' s' h
  | again c'=>exact#[h.1,LM h.2 λr s'' hr=>by obtain⟨rfl,hr⟩:=hr; exact fin' s'' hr]
 ·exact absurd h.1 (by simp)
def iJ {Q₁:GC->GF->Prop}{r:GP}{a b c:G1}{t u v:Py}{n:GJ}(hh:A.handled=td)(hr:Pj s.heap r a b c t u v)(hsmall:K1 a b c=true)
  (hn:IQ a b c=n) (hlen:n<=2 ^ 24)
  (h:∀(h':HP) (tk:GJ) (acc:HE GC),(∀b o,s.heap.get? b=gV o->h'.get? b=gV o)->s.heap.objs.size<=h'.objs.size->LQ (λi v=>∃t,v=.int (a+i*c) t) acc n->Q₁ (.ref h'.objs.size) { s with heap:=h'.push { cls:=.type "tuple",data:=.seq acc },toks:=tk }) :
  codeAny (model prog w) A (.call (.builtin "tuple.__new__") #[[.type "tuple",.ref r],[]]) (wants Q₁ E) s:=by
 show codeAny_of_tree ?_;change wpAny _ A.in1 (do checkBuiltinCall "tuple.__new__" #[[.type "tuple",.ref r],[]]; again (.builtin "tuple.__new__" #[[.type "tuple",.ref r],[]])) _ _ s
 show GB (Mk (F.newCall_tuple_1 _) (GU #[J0 F.plain_tuple_new _,IN F.entry_tuple_new ?_]));rw[IB F.plain_tuple_new _];have hsub:=PySem.sub_tuple_self;have hinit:=PySem.init_tuple_lookup;have hmh:=PySem.madeHere_tuple;have hTI:s.TypeIs (.ref r) "range":=#[_,hr,rfl];have hh1:A.in1.handled=td:=by simp[hh]
 wp_walk using K4 hTI,lc (A:=A.in1) hh1 hr hsmall hn hlen
 intro h' tk acc hk hle hacc;change wpAny _ _ (IK acc.toList.toArray >>= λv=>ret v) _ _ _
 unfold IK;show GB (HQ ?_ (by change acc.toList.toArray.size<=sizeLine; simp only[Array.toArray_toList]; rw[hacc.1,HR]; omega))
 show GU ?_;have e:acc.toList.toArray=acc:=by simp
 rw[e];exact h h' tk acc hk hle hacc
def iK {Q:GC->GF->Prop}{r:GP}{a b c:G1}{t u v:Py}{n:GJ}(hh:A.handled=td)(hr:Pj s.heap r a b c t u v)(hsmall:K1 a b c=true)
  (hn:IQ a b c=n) (hlen:n<=2 ^ 24)
  (hQ:∀(h':HP) (tk:GJ) (acc:HE GC),(∀b o,s.heap.get? b=gV o->h'.get? b=gV o)->s.heap.objs.size<=h'.objs.size->LQ (λi v=>∃t,v=.int (a+i*c) t) acc n->Q (.ref h'.objs.size) { s with heap:=h'.push { cls:=.type "tuple",data:=.seq acc },toks:=tk }) :
  wpAny (model prog w) A (call (.type "tuple") [.ref r]) Q E s:=by
 show callType_codes (Q₁:=λobj s₁=>s₁.TypeIs obj "tuple"/\Q obj s₁) F.called_tuple (F.typeCall_tuple_1 _) F.entry_object_init
  (iJ (by simp[hh]) hr hsmall hn hlen λh' tk acc hk hle hacc=>#[#[_,Hb _ rfl,rfl],hQ h' tk acc hk hle hacc]) λobj s₁ h₁=>?_
 exact#[h₁.1,F.args_object_init_2 obj _,object_init_meets F.called_tuple.init.lookup F.called_tuple.made #v[] prog w A.in1 _ s₁ #[h₁.1,rfl,h₁.2]]
end
section
variable{X:Cx}{J:Gy (GP×IJ)}{Y:L2.St}{H:Hp}{s:GF}{A:Gy GP}{S:aa}
def mU (hh:X.A.handled=td):LCall X (.type "tuple") j8:=by
 intro J s Y H A S xs vs us w S' I so rl rv e;unfold j8 at e;split at e
 ·rename_i i;split at e
  ·rename_i lo hi hr;split at e
   ·rename_i hb;cases e;obtain⟨a,ea,rfl⟩:=rj (xs:=[]) rl rv;obtain⟨b1,b2,b3,b4,b5⟩:=hb;have hH:H a=gV (.rng lo hi):=by
     unfold sW at hr;split at hr
     ·rename_i hx; cases hr; exact so.obj i _ a hx ea
     ·cases hr
    obtain⟨t,u,v,ho⟩:=I.hok a _ hH;have hn:IQ lo hi 1=((hi - lo).toNat:GJ):=by rw[ME]; split <;> omega
    show iK hh ho (OE b1 b2 b3 b4) hn b5 λh' tk acc hk hle hacc=>?_
    have hv:Vals ((GL (hi - lo).toNat).map λ(k:GJ)=>V.int (lo+(k:G1))) acc.toList:=by
     show mJ (by rw[Gz,Hg,Hn,hacc.1]) λi v u e1 e2=>?_
     rw[GM,GD]at e1;obtain⟨k,e1,rfl⟩:=e1;obtain⟨hk,rfl⟩:=G9.mp e1;obtain⟨t,rfl⟩:=hacc.2 i u (by rw[<- II]; exact e2)
     exact#[t,by simp]
    have hnn:H h'.objs.size=td:=I.hok.fresh hle;show#[.ref h'.objs.size,_,A,I.laid (a:=h'.objs.size) (o:=.tup ((GL (hi - lo).toNat).map λ(k:GJ)=>V.int (lo+(k:G1)))) (t':=tk) (λb o e=>GN _ (hk b o e)) hle #[by simpa using b5,acc.toList,hv,?_],rfl,c9 (.inl hnn),so.lay hnn,.tup (.inl (.inl ba)) (mK _)]
    exact#[_,Hb _ rfl,rfl,0,by simp]
   ·cases e
  ·exact jf J s Y H A S _ vs us w S' I so rl rv e
 ·exact jf J s Y H A S _ vs us w S' I so rl rv e
def tu (hh:X.A.handled=td)(hu:X.A.units+12 < cLine):LCall X (.builtin "min") yI:=by
 intro J s Y H A S xs vs us w S' I so rl rv e;cases rl with
 | nil=>cases e
 | cons r t=>
  cases t with
  | cons _ _=>cases r <;> cases e
  | nil=>
   cases rv with
   | cons ru rv2=>
    cases rv2;cases r with
    | ref ea=>
     dsimp only[yI]at e;split at e
     ·rename_i ws hw;split at e
      ·rename_i ks hk;split at e
       ·rename_i hc;rw[GD]at e;obtain⟨w',e1,e2⟩:=e;cases e2;obtain⟨vs',h1,r1⟩:=ce so hw ea;obtain⟨its,rv1,p,hz⟩:=I.list h1;obtain rfl:_=HM _:=ru;have hws:T.ws ks=ws:=W.ts_w hk;have hT:IsTs s.heap ks its:=fW I ks (hws ▸ r1) rv1;have hl:its.length=ks.length:=hT.length.symm;have hlw:ws.length=ks.length:=by rw[r1.length,L2.Vals.length rv1,hl]
        have hn:0 < ks.length:=by
         have:=(G9.mp e1).1;omega
        show vg (items:=its.toArray) (bt:=lH ks) hh p.isList (by simpa [hl]using hn) (λi j vi vj s' Q E hk' hi hj hq=>?_) λv h' tk hv hk'=>?_
        ·have hi':i < ks.length:=by
          have:=(Jq.mp hi).1
          simpa [hl]using this
         have hj':j < ks.length:=by
          have:=(Jq.mp hj).1
          simpa [hl]using this
         have g:=hT.kept (h':=s'.heap) λb o _ e=>hk' b o e
         have e1:vi=its[i]'∅:=by
          have:=(Jq.mp hi).2
          simpa using this.symm
         have e2:vj=its[j]'∅:=by
          have:=(Jq.mp hj).2
          simpa using this.symm
         subst e1 e2;have b1:=dR (ks:=ks) i hi';have b2:=dR (ks:=ks) j hj';exact Du eh _ _ _ _ X.A.in1 s' _ ∅ ∅ (g.get i hi' ∅) (g.get j hj' ∅) (by rw[be]; unfold eh; omega) (dS hc.2 hi' hj') X.prog X.w _ _ hq
        ·have hv':its[gP ks]?=gV v:=by
          have:its.toArray.size=ks.length:=by simpa using hl
          rw[this]at hv
          simpa [gP]using hv
         obtain⟨v',q1,q2⟩:=r1.get e1;obtain⟨u',q3,q4⟩:=L2.Vals.get rv1 q1;rw[hv']at q3;cases q3;exact#[v',H,A,I.kept hk',q4,.refl,so,q2]
       ·cases e
      ·cases e
     ·cases e
    | _=>cases e
def lL:∀ {ws:Gy W} {bs:Gy Hi},gQ ws=gV bs->ws=bs.map W.bl
 | [],bs,h=>by cases h; rfl
 | .bl b::ws,bs,h=>by
  (dsimp only[gQ]at h; simp only[GD]at h)
  obtain⟨r,h1,h2⟩:=h;subst h2;rw[lL h1]; rfl
 | .non::_,_,h|.int _::_,_,h|.str _::_,_,h|.tup _::_,_,h|.ref _::_,_,h=>by cases h
def qe {bs:Gy Hi}{vs:Gy V}{us:Gy GC}(r:RelL X.K A H (bs.map W.bl) vs)(rv:Vals vs us):us=bs.map J6:=by
 induction bs generalizing vs us with
 | nil=>cases r; cases rv; rfl
 | cons b bs ih=>
  cases r with
  | cons r1 r2=>
   cases rv with
   | cons v1 v2=>
    cases r1;obtain rfl:_=J6 b:=v1;rw[ih r2 v2]; rfl
def tz (bs:Gy Hi):(GL bs.length).all (λi=>bs.getD i false)=bs.all id:=by
 induction bs with
 | nil=>rfl
 | cons b bs ih=>simp[LO,Ni,Ls]at ih ⊢; rw[ih]
def BB {id:Ir}{fb:Gy Hi->Hi}{g:Gy W->aa->GH (W×aa)}(hg:∀xs S,g xs S=match xs with|[.ref i]=>(match gN S i with|some ws=>(gQ ws).map λbs=>(.bl (fb bs),S)|none=>td)|_=>td)
  (hcall:∀ {s:GF} {x:GC} {Q:GC->GF->Prop} {E:GC->GF->Prop} {bs:Gy Hi},wpAny (model X.prog X.w) X.A.in1 (pyIter x) (λit s₂=>∃I fp wr P St,it=.ref I/\Pw X.prog X.w X.A.in1 I fp wr bs.length P St/\St 0 s₂.heap/\TruthOf X.prog X.w X.A.in1 P (λi=>bs.getD i false)/\
   ∀h' tk,(∀b o,b∉wr->s₂.heap.get? b=gV o->h'.get? b=gV o)->Q (.bool (fb bs)) { s₂ with heap:=h',toks:=tk }) E s->wpAny (model X.prog X.w) X.A (call (.builtin id) [x]) Q E s)
  (hh:X.A.handled=td):LCall X (.builtin id) g:=by
 intro J s Y H A S xs vs us w S' I so rl rv e;rw[hg]at e;cases rl with
 | nil=>cases e
 | cons r t=>
  cases t with
  | cons _ _=>cases r <;> cases e
  | nil=>
   cases rv with
   | cons ru rv2=>
    cases rv2;cases r with
    | @ref ri ad ea=>
     simp only at e;split at e
     ·rename_i ws hw;rw[GD]at e;obtain⟨bs,e1,e2⟩:=e;cases e2;obtain⟨vs',h1,r1⟩:=ce so hw ea;obtain⟨its,rv1,p,hz⟩:=I.list h1;obtain rfl:_=HM _:=ru;rw[lL e1]at r1;have hits:=qe r1 rv1;show hcall (bs:=bs) ?_;show Lr p.isList ?_;have hlt:ad < s.heap.objs.size:=by obtain⟨_,ho,_⟩:=p.isList; exact Hd ho
      have W:=Pc (prog:=X.prog) (w:=X.w) (A:=X.A.in1) hh s.heap.objs.size ad (Ho hlt) its.toArray;have hsz:its.toArray.size=bs.length:=by rw[G6,hits,Gz]
      rw[hsz]at W;show#[_,_,_,_,_,rfl,W,#[#[_,Hb _ rfl,rfl,rfl],?_],λi v s' Q E hi hq=>?_,λh' tk hk=>?_]
      ·obtain⟨o,ho,hc⟩:=p.isList;exact#[o,GN _ ho,hc]
      ·have hb:bs[i]?.map J6=gV v:=by rw[<- GM,<- hits]; simpa using hi
       cases q:bs[i]? with
       | none=>rw[q]at hb; cases hb
       | some b=>
        rw[q]at hb;cases hb;have eb:bs.getD i false=b:=by simp[q]
        have hq:Q (bs.getD i false) s':=hq;rw[eb]at hq;exact Iy hq
      ·show#[.bl (fb bs),H,A,I.kept (λb o e=>hk b o (λz=>?_) (GN _ e)),rfl,.refl,so,.bl]
       have hb:=Hd e;rw[G8.mp z]at hb;exact Il _ hb
     ·cases e
    | _=>cases e
def tB (hh:X.A.handled=td):LCall X (.builtin "all") Bz:=
 BB (fb:=λbs=>bs.all id) (λxs S=>rfl) (λ{s x Q E bs} h=>call_all_walk (IP h (λit s₂ #[I,fp,wr,P,St',a,b,c,d,f]=>#[I,fp,wr,_,P,St',_,a,b,c,d,λh' tk hk=>by rw[tz]; exact f h' tk hk]) λ_ _ e=>e)) hh
end
noncomputable abbrev FA:=Fm->aa->GH (Gy W×aa)
noncomputable abbrev FT:=Fm->aa->GH (Hi×aa)
inductive Out where
 | nx (Z:Fm)|rt (w:W)|bk (Z:Fm)|ct (Z:Fm)
noncomputable abbrev FS:=Fm->aa->GH (Out×aa)
section
variable (X:Cx)
inductive tE (f:FE)(Y:L2.St)(H:Hp)(Q:VK):Prop
 | mk (A:Gy GP) (Z:Fm) (S:aa) (w:W) (S':aa) (er:EnvRel X.K A H Z Y) (so:StoreOk X.w X.K A H S) (e:f Z S=gV (w,S')) (q:∀v H',EndV X.w X.K A H S' w v H'->Q v H'):tE f Y H Q
abbrev EndB (A:Gy GP)(H:Hp)(S':aa)(k:Hi):Hi->Hp->Prop:=λb H'=>b=k/\∃A',Ext X.K A H A' H'/\StoreOk X.w X.K A' H' S'
inductive tT (f:FT)(Y:L2.St)(H:Hp)(Q:Hi->Hp->Prop):Prop
 | mk (A:Gy GP) (Z:Fm) (S:aa) (k:Hi) (S':aa) (er:EnvRel X.K A H Z Y) (so:StoreOk X.w X.K A H S) (e:f Z S=gV (k,S')) (q:∀b H',EndB X A H S' k b H'->Q b H'):tT f Y H Q
inductive EndA (A:Gy GP)(H:Hp)(S':aa)(ws:Gy W)(vs:Gy V)(H':Hp):Prop
 | mk (A':Gy GP) (e:Ext X.K A H A' H') (so:StoreOk X.w X.K A' H' S') (r:RelL X.K A' H' ws vs):EndA A H S' ws vs H'
inductive tA (f:FA)(Y:L2.St)(H:Hp)(Q:Gy V->Hp->Prop):Prop
 | mk (A:Gy GP) (Z:Fm) (S:aa) (ws:Gy W) (S':aa) (er:EnvRel X.K A H Z Y) (so:StoreOk X.w X.K A H S) (e:f Z S=gV (ws,S')) (q:∀vs H',EndA X A H S' ws vs H'->Q vs H'):tA f Y H Q
inductive EndF (A:Gy GP)(H:Hp)(o:Out)(S':aa)(c:Fm->Out)(Y':L2.St)(H':Hp):Prop
 | mk (Z':Fm) (A':Gy GP) (eo:o=c Z') (e:Ext X.K A H A' H') (so:StoreOk X.w X.K A' H' S') (er:EnvRel X.K A' H' Z' Y'):EndF A H o S' c Y' H'
inductive EndR (A:Gy GP)(H:Hp)(o:Out)(S':aa)(v:V)(H':Hp):Prop
 | mk (w:W) (A':Gy GP) (eo:o=.rt w) (e:Ext X.K A H A' H') (so:StoreOk X.w X.K A' H' S') (r:Rel X.K A' H' w v):EndR A H o S' v H'
abbrev EndS (A:Gy GP)(H:Hp)(o:Out)(S':aa):Ends where
 nx:=EndF X A H o S' .nx
 rt:=EndR X A H o S'
 bk:=EndF X A H o S' .bk
 ct:=EndF X A H o S' .ct
structure Imp (E D:Ends):Prop where
 nx:∀Y H,E.nx Y H->D.nx Y H
 rt:∀v H,E.rt v H->D.rt v H
 bk:∀Y H,E.bk Y H->D.bk Y H
 ct:∀Y H,E.ct Y H->D.ct Y H
inductive tS (f:FS)(D:Ends)(Y:L2.St)(H:Hp):Prop
 | mk (A:Gy GP) (Z:Fm) (S:aa) (o:Out) (S':aa) (er:EnvRel X.K A H Z Y) (so:StoreOk X.w X.K A H S) (e:f Z S=gV (o,S')) (d:Imp (EndS X A H o S') D):tS f D Y H
noncomputable abbrev GE (e:Hh)(f:FE):Prop:=PE X e (tE X f)
noncomputable abbrev GT (e:Hh)(f:FT):Prop:=PT X e (tT X f)
noncomputable abbrev GW (e:Hh)(f:FT):Prop:=PW X e (tT X f)
noncomputable abbrev GA (es:Gy Hh)(f:FA):Prop:=PA X es (tA X f)
noncomputable abbrev GS (st:JN)(f:FS):Prop:=PS X st (tS X f)
noncomputable abbrev GSs (sts:Gy JN)(f:FS):Prop:=PSs X sts (tS X f)
end
def Imp.trans {E D F:Ends}(a:Imp E D)(b:Imp D F):Imp E F:=#[λ_ _ h=>b.nx _ _ (a.nx _ _ h),λ_ _ h=>b.rt _ _ (a.rt _ _ h),λ_ _ h=>b.bk _ _ (a.bk _ _ h),λ_ _ h=>b.ct _ _ (a.ct _ _ h)]
section
variable{X:Cx}
def GE.of {e:Hh}{t:TE}{f:FE}(h:PE X e t)(hf:∀(Y:L2.St) (H:Hp) (A:Gy GP) (Z:Fm) (S:aa) (w:W) (S':aa),EnvRel X.K A H Z Y->StoreOk X.w X.K A H S->f Z S=gV (w,S')->∀Q:VK,(∀v H',EndV X.w X.K A H S' w v H'->Q v H')->t Y H Q):GE X e f:=
 λJ s Y H Q I #[A,Z,S,w,S',er,so,e1,hq]=>h J s Y H Q I (hf Y H A Z S w S' er so e1 Q hq)
def GT.of {e:Hh}{t:TT}{f:FT}(h:PT X e t)(hf:∀(Y:L2.St) (H:Hp) (A:Gy GP) (Z:Fm) (S:aa) (k:Hi) (S':aa),EnvRel X.K A H Z Y->StoreOk X.w X.K A H S->f Z S=gV (k,S')->∀Q:Hi->Hp->Prop,(∀b H',EndB X A H S' k b H'->Q b H')->t Y H Q):GT X e f:=
 λJ s Y H Q I #[A,Z,S,w,S',er,so,e1,hq]=>h J s Y H Q I (hf Y H A Z S w S' er so e1 Q hq)
def GW.of {e:Hh}{t:TT}{f:FT}(h:PW X e t)(hf:∀(Y:L2.St) (H:Hp) (A:Gy GP) (Z:Fm) (S:aa) (k:Hi) (S':aa),EnvRel X.K A H Z Y->StoreOk X.w X.K A H S->f Z S=gV (k,S')->∀Q:Hi->Hp->Prop,(∀b H',EndB X A H S' k b H'->Q b H')->t Y H Q):GW X e f:=
 λwh J s Y H Q I #[A,Z,S,w,S',er,so,e1,hq]=>h wh J s Y H Q I (hf Y H A Z S w S' er so e1 Q hq)
def GA.of {es:Gy Hh}{t:TA}{f:FA}(h:PA X es t)(hf:∀(Y:L2.St) (H:Hp) (A:Gy GP) (Z:Fm) (S:aa) (ws:Gy W) (S':aa),EnvRel X.K A H Z Y->StoreOk X.w X.K A H S->f Z S=gV (ws,S')->∀Q:Gy V->Hp->Prop,(∀vs H',EndA X A H S' ws vs H'->Q vs H')->t Y H Q):GA X es f:=
 λpos J s Y H Q I #[A,Z,S,w,S',er,so,e1,hq]=>h pos J s Y H Q I (hf Y H A Z S w S' er so e1 Q hq)
def GS.of {st:JN}{t:TS}{f:FS}(h:PS X st t)(hf:∀(Y:L2.St) (H:Hp) (A:Gy GP) (Z:Fm) (S:aa) (o:Out) (S':aa),EnvRel X.K A H Z Y->StoreOk X.w X.K A H S->f Z S=gV (o,S')->∀D:Ends,Imp (EndS X A H o S') D->t D Y H):GS X st f:=
 λJ s Y H D I #[A,Z,S,o,S',er,so,e1,hq]=>h J s Y H D I (hf Y H A Z S o S' er so e1 D hq)
def GSs.of {st:Gy JN}{t:TS}{f:FS}(h:PSs X st t)(hf:∀(Y:L2.St) (H:Hp) (A:Gy GP) (Z:Fm) (S:aa) (o:Out) (S':aa),EnvRel X.K A H Z Y->StoreOk X.w X.K A H S->f Z S=gV (o,S')->∀D:Ends,Imp (EndS X A H o S') D->t D Y H):GSs X st f:=
 λJ s Y H D I #[A,Z,S,o,S',er,so,e1,hq]=>h J s Y H D I (hf Y H A Z S o S' er so e1 D hq)
def EndV.after {A A1:Gy GP}{H H1:Hp}{S':aa}{w:W}{v:V}{H':Hp}(e:Ext X.K A H A1 H1)(h:EndV X.w X.K A1 H1 S' w v H'):EndV X.w X.K A H S' w v H':=by
 obtain⟨A',x,y,z⟩:=h;exact#[A',e.trans x,y,z]
def EndB.after {A A1:Gy GP}{H H1:Hp}{S':aa}{k b:Hi}{H':Hp}(e:Ext X.K A H A1 H1)(h:EndB X A1 H1 S' k b H'):EndB X A H S' k b H':=by
 obtain⟨h1,A',x,y⟩:=h;exact#[h1,A',e.trans x,y]
def EndS.after {A A1:Gy GP}{H H1:Hp}{S':aa}{o:Out}(e:Ext X.K A H A1 H1):Imp (EndS X A1 H1 o S') (EndS X A H o S'):=
 #[λ_ _ #[Z',A',a,b,c,d]=>#[Z',A',a,e.trans b,c,d],λ_ _ #[Z',A',a,b,c,d]=>#[Z',A',a,e.trans b,c,d],λ_ _ #[Z',A',a,b,c,d]=>#[Z',A',a,e.trans b,c,d],λ_ _ #[Z',A',a,b,c,d]=>#[Z',A',a,e.trans b,c,d]]
abbrev fC (w:W):FE:=λ_ S=>gV (w,S)
abbrev fV (i:GJ):FE:=λZ S=>match Z[i]? with
 | some (gV w)=>gV (w,S)
 | _=>td
def oy {e:Hh}{v:V}{w:W}(h:PE X e (tC v))(r:∀A H,Rel X.K A H w v):GE X e (fC w):=
 GE.of h λY H A Z S w' S' er so e Q hq=>by cases e; exact hq _ _ (.here so (r A H))
def Fv {i:GJ}{e:Hh}(h:PE X e (CQ i)):GE X e (fV i):=GE.of h λY H A Z S w S' er so e Q hq=>by
 unfold fV at e;split at e
 ·rename_i w' hw;cases e;obtain⟨v,h1,h2⟩:=er.2 i _ hw;exact#[v,h1,hq _ _ (.here so h2)]
 ·cases e
abbrev yK (g:W->W->aa->GH (W×aa))(fa fb:FE):FE:=λZ S=>match fa Z S with
 | some (x,S1)=>match fb Z S1 with
  | some (y,S2)=>g x y S2
  | none=>td
 | none=>td
def EJ {fa fb:FE}{g:W->W->aa->GH (W×aa)}{Z:Fm}{S:aa}{r:W×aa}(e:yK g fa fb Z S=gV r):∃x S1 y S2,fa Z S=gV (x,S1)/\fb Z S1=gV (y,S2)/\g x y S2=gV r:=by
 unfold yK at e;split at e
 ·rename_i x S1 h1;split at e
  ·rename_i y S2 h2;exact#[x,S1,y,S2,h1,h2,e]
  ·cases e
 ·cases e
def fH {fa fb:FE}{Z:Fm}{S S1 S2:aa}{x y:W}{Y:L2.St}{H:Hp}{A:Gy GP}{R:V->V->Hp->Prop}(er:EnvRel X.K A H Z Y)(so:StoreOk X.w X.K A H S)(h1:fa Z S=gV (x,S1))(h2:fb Z S1=gV (y,S2))
  (h:∀a b H2 A2,Ext X.K A H A2 H2->StoreOk X.w X.K A2 H2 S2->Rel X.K A2 H2 x a->Rel X.K A2 H2 y b->R a b H2):tE X fa Y H λa H1=>tE X fb Y H1 λb H2=>R a b H2:=by
 show#[A,Z,S,x,S1,er,so,h1,λa H1 #[A1,e1,o1,r1]=>?_]
 show#[A1,Z,S1,y,S2,er.mono e1,o1,h2,λb H2 #[A2,e2,o2,r2]=>?_]
 exact h a b H2 A2 (e1.trans e2) o2 (r1.mono e2) r2
inductive rOp (X:Cx)(g:W->W->aa->GH (W×aa))(a b:V)(H:Hp)(Q:VK):Prop
 | mk (A:Gy GP) (S:aa) (x y w:W) (S':aa) (so:StoreOk X.w X.K A H S) (rx:Rel X.K A H x a) (ry:Rel X.K A H y b) (e:g x y S=gV (w,S')) (q:∀v H',EndV X.w X.K A H S' w v H'->Q v H'):rOp X g a b H Q
inductive rCall (X:Cx)(g:Gy W->aa->GH (W×aa))(vs:Gy V)(H:Hp)(Q:VK):Prop
 | mk (A:Gy GP) (S:aa) (ws:Gy W) (w:W) (S':aa) (so:StoreOk X.w X.K A H S) (rl:RelL X.K A H ws vs) (e:g ws S=gV (w,S')) (q:∀v H',EndV X.w X.K A H S' w v H'->Q v H'):rCall X g vs H Q
def LOp.opr {f:GC->GC->OQ GC}{g:W->W->aa->GH (W×aa)}(h:LOp X f g):OpR X f (rOp X g):=by
 intro J s Y H a b u v Q I ru rv ⟨A,S,x,y,w,S',so,rx,ry,e,hq⟩;exact bm (h J s Y H A S x y a b u v w S' I so rx ru ry rv e) λu' s' #[v',H',A',I',r',e1,o1,z1]=>#[v',H',I',r',hq v' H' #[A',e1,o1,z1]]
def Ag {a b:Hh}{op:M7}{pos:Ju}{fa fb:FE}{g:W->W->aa->GH (W×aa)}(ho:LOp X (binaryOp op) g)(ha:GE X a fa)(hb:GE X b fb):GE X (.BinOp a op b pos) (yK g fa fb):=
 GE.of (C7 ho.opr ha hb) λY H A Z S w S' er so e Q hq=>by
  obtain⟨x,S1,y,S2,h1,h2,h3⟩:=EJ e;exact fH er so h1 h2 λa b H2 A2 e2 o2 r1 r2=>#[A2,S2,x,y,w,S',o2,r1,r2,h3,λv H' z=>hq v H' (z.after e2)]
abbrev vx (fa:FE):FE:=λZ S=>match fa Z S with
 | some (.int i,S1)=>gV (.int (-i),S1)
 | _=>td
def vy {a:Hh}{pos:Ju}{fa:FE}(ha:GE X a fa):GE X (.UnaryOp .USub a pos) (vx fa):=
 GE.of (C8 Bk ha) λY H A Z S w S' er so e Q hq=>by
  unfold vx at e;split at e
  ·rename_i i S1 h1;cases e;show#[A,Z,S,_,_,er,so,h1,λv H1 #[A1,e1,o1,r1]=>?_]
   cases r1;exact#[_,rfl,hq _ _ #[A1,e1,o1,.int]]
  ·cases e
abbrev yL (o:COp)(fa fb:FE):FE:=yK (bo o) fa fb
def BC {a b:Hh}{o:COp}{pos:Ju}{fa fb:FE}(hu:X.A.units+fE < cLine)(ha:GE X a fa)(hb:GE X b fb)(hm:behindInMarks o.py b=false):GE X (.Compare a [o.py] [b] pos) (yL o fa fb):=
 GE.of (xX (n6 hu o).opr ha hb hm) λY H A Z S w S' er so e Q hq=>by
  obtain⟨x,S1,y,S2,h1,h2,h3⟩:=EJ e;exact fH er so h1 h2 λa b H2 A2 e2 o2 r1 r2=>#[A2,S2,x,y,w,S',o2,r1,r2,h3,λv H' z=>hq v H' (z.after e2)]
abbrev oz (f:FE):FT:=λZ S=>match f Z S with
 | some (.bl k,S')=>gV (k,S')
 | _=>td
def BE {a b:Hh}{o:COp}{pos:Ju}{fa fb:FE}(hu:X.A.units+fE < cLine)(ha:GE X a fa)(hb:GE X b fb)(hm:behindInMarks o.py b=false):GT X (.Compare a [o.py] [b] pos) (oz (yL o fa fb)):=
 GT.of (xY (n6 hu o).opr ha hb hm) λY H A Z S k S' er so e Q hq=>by
  unfold oz at e;split at e
  ·rename_i k' S'' h0;cases e;obtain⟨x,S1,y,S2,h1,h2,h3⟩:=EJ h0;show fH er so h1 h2 λa b H2 A2 e2 o2 r1 r2=>#[A2,S2,x,y,_,_,o2,r1,r2,h3,λv H' #[A',z1,z2,z3]=>?_]
   cases z3;exact#[k,rfl,hq _ _ #[rfl,A',e2.trans z1,z2]]
  ·cases e
abbrev fI (o o':COp)(fa fb fc:FE):FE:=λZ S=>match fa Z S with
 | some (x,S1)=>match fb Z S1 with
  | some (y,S2)=>match ut o x y S2 with
   | some true=>match fc Z S2 with
    | some (z,S3)=>dz o' y z S3
    | none=>td
   | some false=>gV (.bl false,S2)
   | none=>td
  | none=>td
 | none=>td
def j9 {o o':COp}{fa fb fc:FE}{Y:L2.St}{H:Hp}{A:Gy GP}{Z:Fm}{S:aa}{w:W}{S':aa}(er:EnvRel X.K A H Z Y)(so:StoreOk X.w X.K A H S)(e:fI o o' fa fb fc Z S=gV (w,S'))(Q:VK)(hq:∀v H',EndV X.w X.K A H S' w v H'->Q v H') :
  pR (rOp X (dz o))
   (rOp X (dz o')) (tE X fa) (tE X fb) (tE X fc) Y H Q:=by
 unfold fI at e;split at e
 ·rename_i x S1 h1;split at e
  ·rename_i y S2 h2;show fH er so h1 h2 λa b H2 A2 e2 o2 r1 r2=>?_
   split at e
   ·rename_i hc;split at e
    ·rename_i z S3 h3;show#[A2,S2,x,y,.bl true,S2,o2,r1,r2,by simp[dz,hc],λv H3 #[A3,z1,z2,z3]=>?_]
     cases z3;show#[true,rfl,?_];rw[Hf rfl];show#[A3,Z,S2,z,S3,er.mono (e2.trans z1),z2,h3,λc H4 #[A4,y1,y2,y3]=>?_]
     exact#[A4,S3,y,z,w,S',y2,(r2.mono z1).mono y1,y3,e,λv H' q=>hq v H' (q.after ((e2.trans z1).trans y1))]
    ·cases e
   ·rename_i hc;cases e;show#[A2,S',x,y,.bl false,S',o2,r1,r2,by simp[dz,hc],λv H3 #[A3,z1,z2,z3]=>?_]
    cases z3;show#[false,rfl,?_];rw[Hl He];exact hq _ _ #[A3,e2.trans z1,z2,.bl]
   ·cases e
  ·cases e
 ·cases e
def vz {a b c:Hh}{o o':COp}{pos:Ju}{fa fb fc:FE}(hu:X.A.units+fE < cLine)(ha:GE X a fa)(hb:GE X b fb)(hc:GE X c fc)(hm:lastMarks [o.py,o'.py] [b,c]=false):GE X (.Compare a [o.py,o'.py] [b,c] pos) (fI o o' fa fb fc):=
 GE.of (uG (g6 hu o).opr (g6 hu o').opr ha hb hc hm) λY H A Z S w S' er so e Q hq=>j9 er so e Q hq
def vA {a b c:Hh}{o o':COp}{pos:Ju}{fa fb fc:FE}(hu:X.A.units+fE < cLine)(ha:GE X a fa)(hb:GE X b fb)(hc:GE X c fc)(hm:lastMarks [o.py,o'.py] [b,c]=false):GT X (.Compare a [o.py,o'.py] [b,c] pos) (oz (fI o o' fa fb fc)):=
 GT.of (uH (g6 hu o).opr (g6 hu o').opr ha hb hc hm) λY H A Z S k S' er so e Q hq=>by
  unfold oz at e;split at e
  ·rename_i k' S'' h0;cases e;show j9 er so h0 (λx H'=>∃k,x=.bl k/\Q k H') λv H' #[A',z1,z2,z3]=>?_
   cases z3;exact#[_,rfl,hq _ _ #[rfl,A',z1,z2]]
  ·cases e
abbrev gA (f:FE):FT:=λZ S=>match f Z S with
 | some (w,S')=>(eE S' w).map λk=>(k,S')
 | none=>td
def cy {e:Hh}{f:FE}(h:GE X e f)(he:∀whole,isTrue e X.env whole=(do let v <- whole; standAt e.pos; holding [v] (truthy v))):GT X e (gA f):=by
 intro J s Y H Q I ⟨A,Z,S,k,S',er,so,e1,hq⟩;unfold gA at e1;split at e1
 ·rename_i w S1 h1;rw[GD]at e1;obtain⟨k',ek,e2⟩:=e1;cases e2;show isTrue_plain (bm (h J s Y H (EndV X.w X.K A H _ w) I #[A,Z,S,w,_,er,so,h1,λ_ _ z=>z]) λv s1 #[x,H1,I1,r1,A1,e1,o1,z1]=>?_) (he _)
  exact Ft I1 o1 z1 r1 ek λs' I'=>#[H1,I',hq _ _ #[rfl,A1,e1,o1]]
 ·cases e1
abbrev vB (f g:FT):FT:=λZ S=>match f Z S with
 | some (true,S1)=>g Z S1
 | some (false,S1)=>gV (false,S1)
 | none=>td
abbrev Dw (f g:FT):FT:=λZ S=>match f Z S with
 | some (true,S1)=>gV (true,S1)
 | some (false,S1)=>g Z S1
 | none=>td
abbrev yM (f:FT):FT:=λZ S=>match f Z S with
 | some (k,S1)=>gV (!k,S1)
 | none=>td
def vC {f g:FT}{Y:L2.St}{H:Hp}{A:Gy GP}{Z:Fm}{S:aa}{k:Hi}{S':aa}(er:EnvRel X.K A H Z Y)(so:StoreOk X.w X.K A H S)(e:vB f g Z S=gV (k,S'))(Q:Hi->Hp->Prop)(hq:∀b H',EndB X A H S' k b H'->Q b H') :
  CS (tT X f) (tT X g) Y H Q:=by
 unfold vB at e;split at e
 ·rename_i S1 h1;show#[A,Z,S,true,S1,er,so,h1,λb H1 #[z0,A1,z1,z2]=>?_]
  subst z0;rw[Hf rfl];exact#[A1,Z,S1,k,S',er.mono z1,z2,e,λb H' q=>hq b H' (q.after z1)]
 ·rename_i S1 h1;cases e;show#[A,Z,S,false,_,er,so,h1,λb H1 #[z0,A1,z1,z2]=>?_]
  subst z0;rw[Hl He];exact hq _ _ #[rfl,A1,z1,z2]
 ·cases e
def yN {f g:FT}{Y:L2.St}{H:Hp}{A:Gy GP}{Z:Fm}{S:aa}{k:Hi}{S':aa}(er:EnvRel X.K A H Z Y)(so:StoreOk X.w X.K A H S)(e:Dw f g Z S=gV (k,S'))(Q:Hi->Hp->Prop)(hq:∀b H',EndB X A H S' k b H'->Q b H') :
  F4 (tT X f) (tT X g) Y H Q:=by
 unfold Dw at e;split at e
 ·rename_i S1 h1;cases e;show#[A,Z,S,true,_,er,so,h1,λb H1 #[z0,A1,z1,z2]=>?_]
  subst z0;rw[Hf rfl];exact hq _ _ #[rfl,A1,z1,z2]
 ·rename_i S1 h1;show#[A,Z,S,false,S1,er,so,h1,λb H1 #[z0,A1,z1,z2]=>?_]
  subst z0;rw[Hl He];exact#[A1,Z,S1,k,S',er.mono z1,z2,e,λb H' q=>hq b H' (q.after z1)]
 ·cases e
def yO {a:Hh}{pos:Ju}{f:FT}(h:GT X a f):GW X (.BoolOp .And [a] pos) f:=xP h
def BF {a:Hh}{pos:Ju}{f:FT}(h:GT X a f):GW X (.BoolOp .Or [a] pos) f:=AN h
def BG {a b:Hh}{r:Gy Hh}{pos:Ju}{f g:FT}(h:GT X a f)(h2:GW X (.BoolOp .And (b::r) pos) g):GW X (.BoolOp .And (a::b::r) pos) (vB f g):=
 GW.of (AO h h2) λY H A Z S k S' er so e Q hq=>vC er so e Q hq
def Dx {a b:Hh}{r:Gy Hh}{pos:Ju}{f g:FT}(h:GT X a f)(h2:GW X (.BoolOp .Or (b::r) pos) g):GW X (.BoolOp .Or (a::b::r) pos) (Dw f g):=
 GW.of (CT h h2) λY H A Z S k S' er so e Q hq=>yN er so e Q hq
def BH {a:Hh}{pos:Ju}{f:FT}(h:GT X a f):GT X (.UnaryOp .Not a pos) (yM f):=
 GT.of (AQ h) λY H A Z S k S' er so e Q hq=>by
  unfold yM at e;split at e
  ·rename_i k1 S1 h1;cases e;show#[A,Z,S,k1,_,er,so,h1,λb H1 #[z0,A1,z1,z2]=>?_]
   subst z0;exact hq _ _ #[rfl,A1,z1,z2]
  ·cases e
abbrev rF (f g:FE):FE:=λZ S=>match f Z S with
 | some (.bl true,S1)=>g Z S1
 | some (.bl false,S1)=>gV (.bl false,S1)
 | _=>td
abbrev yP (f g:FE):FE:=λZ S=>match f Z S with
 | some (.bl true,S1)=>gV (.bl true,S1)
 | some (.bl false,S1)=>g Z S1
 | _=>td
abbrev rG (f:FE):FE:=λZ S=>match f Z S with
 | some (.bl k,S1)=>gV (.bl (!k),S1)
 | _=>td
def BI {a:Hh}{op:Pd}{pos:Ju}{f:FE}(h:GE X a f):GE X (.BoolOp op [a] pos) f:=AR h
def BJ {a b:Hh}{r:Gy Hh}{pos:Ju}{f g:FE}(h:GE X a f)(h2:GE X (.BoolOp .And (b::r) pos) g):GE X (.BoolOp .And (a::b::r) pos) (rF f g):=
 GE.of (AS h h2) λY H A Z S w S' er so e Q hq=>by
  unfold rF at e;split at e
  ·rename_i S1 h1;show#[A,Z,S,_,S1,er,so,h1,λv H1 #[A1,z1,z2,z3]=>?_]
   cases z3;show#[true,rfl,?_];rw[Hf rfl];exact#[A1,Z,S1,w,S',er.mono z1,z2,e,λb H' q=>hq b H' (q.after z1)]
  ·rename_i S1 h1;cases e;show#[A,Z,S,_,_,er,so,h1,λv H1 #[A1,z1,z2,z3]=>?_]
   cases z3;show#[false,rfl,?_];rw[Hl He];exact hq _ _ #[A1,z1,z2,.bl]
  ·cases e
def Dy {a b:Hh}{r:Gy Hh}{pos:Ju}{f g:FE}(h:GE X a f)(h2:GE X (.BoolOp .Or (b::r) pos) g):GE X (.BoolOp .Or (a::b::r) pos) (yP f g):=
 GE.of (CW h h2) λY H A Z S w S' er so e Q hq=>by
  unfold yP at e;split at e
  ·rename_i S1 h1;cases e;show#[A,Z,S,_,_,er,so,h1,λv H1 #[A1,z1,z2,z3]=>?_]
   cases z3;show#[true,rfl,?_];rw[Hf rfl];exact hq _ _ #[A1,z1,z2,.bl]
  ·rename_i S1 h1;show#[A,Z,S,_,S1,er,so,h1,λv H1 #[A1,z1,z2,z3]=>?_]
   cases z3;show#[false,rfl,?_];rw[Hl He];exact#[A1,Z,S1,w,S',er.mono z1,z2,e,λb H' q=>hq b H' (q.after z1)]
  ·cases e
def BK {a:Hh}{pos:Ju}{f:FE}(h:GE X a f):GE X (.UnaryOp .Not a pos) (rG f):=
 GE.of (AT h) λY H A Z S w S' er so e Q hq=>by
  unfold rG at e;split at e
  ·rename_i k1 S1 h1;cases e;show#[A,Z,S,_,_,er,so,h1,λb H1 #[A1,z1,z2,z3]=>?_]
   cases z3;exact#[_,rfl,hq _ _ #[A1,z1,z2,.bl]]
  ·cases e
abbrev yQ (c:FT)(f g:FE):FE:=λZ S=>match c Z S with
 | some (true,S1)=>f Z S1
 | some (false,S1)=>g Z S1
 | none=>td
def BL {c a b:Hh}{pos:Ju}{fc:FT}{f g:FE}(hc:GT X c fc)(ha:GE X a f)(hb:GE X b g):GE X (.IfExp c a b pos) (yQ fc f g):=
 GE.of (uA hc ha hb) λY H A Z S w S' er so e Q hq=>by
  unfold yQ at e;split at e
  ·rename_i S1 h1;show#[A,Z,S,_,S1,er,so,h1,λb H1 #[z0,A1,z1,z2]=>?_]
   subst z0;rw[Hf rfl];exact#[A1,Z,S1,w,S',er.mono z1,z2,e,λb H' q=>hq b H' (q.after z1)]
  ·rename_i S1 h1;show#[A,Z,S,_,S1,er,so,h1,λb H1 #[z0,A1,z1,z2]=>?_]
   subst z0;rw[Hl He];exact#[A1,Z,S1,w,S',er.mono z1,z2,e,λb H' q=>hq b H' (q.after z1)]
  ·cases e
abbrev ib:FA:=λ_ S=>gV ([],S)
abbrev dw (f:FE)(g:FA):FA:=λZ S=>match f Z S with
 | some (w,S1)=>match g Z S1 with
  | some (ws,S2)=>gV (w::ws,S2)
  | none=>td
 | none=>td
def BM:GA X [] ib:=GA.of uJ λY H A Z S ws S' er so e Q hq=>by cases e; exact hq _ _ #[A,.refl,so,.nil]
def yR {e:Hh}{es:Gy Hh}{f:FE}{g:FA}(h:GE X e f)(h2:GA X es g)(hs:starEach (e::es) X.env=(false,eval e X.env)::starEach es X.env):GA X (e::es) (dw f g):=
 GA.of (mq h h2 hs) λY H A Z S ws S' er so e Q hq=>by
  unfold dw at e;split at e
  ·rename_i w S1 h1;split at e
   ·rename_i ws2 S2 h2;cases e;show#[A,Z,S,w,S1,er,so,h1,λv H1 #[A1,z1,z2,z3]=>?_]
    show#[A1,Z,S1,ws2,_,er.mono z1,z2,h2,λvs H2 #[A2,y1,y2,y3]=>?_]
    exact hq _ _ #[A2,z1.trans y1,y2,.cons (z3.mono y1) y3]
   ·cases e
  ·cases e
abbrev vD (f:FA):FE:=λZ S=>match f Z S with
 | some (ws,S1)=>pZ S1 ws
 | none=>td
abbrev vE (f:FA):FE:=λZ S=>match f Z S with
 | some (ws,S1)=>la S1 ws
 | none=>td
def vF {es:Gy Hh}{k:GJ}{pos:Ju}{f:FA}(h:GA X es f):GE X (.Tuple es k pos) (vD f):=
 GE.of (Bn h) λY H A Z S w S' er so e Q hq=>by
  unfold vD at e;split at e
  ·rename_i ws S1 h1;obtain⟨hl,rfl,rfl⟩:=qZ e;show#[A,Z,S,ws,_,er,so,h1,λvs H1 #[A1,z1,z2,z3]=>#[by rw[<- z3.length]; exact hl,λp hp=>?_]]
   exact hq _ _ (EndV.after z1 (.tup z2 z3 hp))
  ·cases e
def vG {es:Gy Hh}{pos:Ju}{f:FA}(h:GA X es f):GE X (.List es pos) (vE f):=
 GE.of (Bo h) λY H A Z S w S' er so e Q hq=>by
  unfold vE at e;split at e
  ·rename_i ws S1 h1;obtain⟨hl,rfl,rfl⟩:=jA e;show#[A,Z,S,ws,_,er,so,h1,λvs H1 #[A1,z1,z2,z3]=>#[by rw[<- z3.length]; exact hl,λp hp=>?_]]
   exact hq _ _ (EndV.after z1 (.lst z2 z3 hp))
  ·cases e
abbrev ji (g:Gy W->aa->GH (W×aa))(f:FA):FE:=λZ S=>match f Z S with
 | some (ws,S1)=>g ws S1
 | none=>td
def LCall.callr {v:GC}{g:Gy W->aa->GH (W×aa)}(h:LCall X v g):CallR X v (rCall X g):=by
 intro J s Y H vs us Q I rv ⟨A,S,ws,w,S',so,rl,e,hq⟩;exact bm (h J s Y H A S ws vs us w S' I so rl rv e) λu' s' #[v',H',A',I',r',e1,o1,z1]=>#[v',H',I',r',hq v' H' #[A',e1,o1,z1]]
def lN {g:Gy W->aa->GH (W×aa)}{f:FA}{Y:L2.St}{H:Hp}{A:Gy GP}{Z:Fm}{S:aa}{w:W}{S':aa}(er:EnvRel X.K A H Z Y)(so:StoreOk X.w X.K A H S)(e:ji g f Z S=gV (w,S'))(Q:VK)(hq:∀v H',EndV X.w X.K A H S' w v H'->Q v H') :
  tA X f Y H λvs H1=>rCall X g vs H1 Q:=by
 unfold ji at e;split at e
 ·rename_i ws S1 h1;exact#[A,Z,S,ws,S1,er,so,h1,λvs H1 #[A1,z1,z2,z3]=>#[A1,S1,ws,w,S',z2,z3,e,λv H' q=>hq v H' (q.after z1)]]
 ·cases e
def oA {id:Ir}{x:Hc}{e:Hh}{es:Gy Hh}{p pos:Ju}{f:FA}{g:Gy W->aa->GH (W×aa)}(hc:LCall X (.builtin id) g)(hg:Gl X x)(hm:X.mg x=td)(hv:bootBuiltins x=gV (.builtin id))(ha:GA X (e::es) f)
  (hn:x≠"__name__") (hdb:(x==("__debug__" : Hc))=false) (hs:starEach (e::es) X.env=(false,eval e X.env)::starEach es X.env) (hpl:(backTo pos (starEach es X.env)).any (·.1)=false):GE X (.Call (.Name x p) (e::es) [] pos) (ji g f):=
 GE.of (nL hc.callr hg hm hv ha hn hdb hs hpl) λY H A Z S w S' er so e Q hq=>lN er so e Q hq
def rH {id:Ir}{x:Hc}{e:Hh}{es:Gy Hh}{p pos:Ju}{f:FA}{g:Gy W->aa->GH (W×aa)}(hc:LCall X (.type id) g)(hg:Gl X x)(hm:X.mg x=td)(hv:bootBuiltins x=gV (.type id))(ha:GA X (e::es) f)
  (hn:x≠"__name__") (hdb:(x==("__debug__" : Hc))=false) (hs:starEach (e::es) X.env=(false,eval e X.env)::starEach es X.env) (hpl:(backTo pos (starEach es X.env)).any (·.1)=false):GE X (.Call (.Name x p) (e::es) [] pos) (ji g f):=
 GE.of (sI hc.callr hg hm hv ha hn hdb hs hpl) λY H A Z S w S' er so e Q hq=>lN er so e Q hq
end
abbrev tyOk (T:Ir)(S:aa):W->Hi
 | .str _=>T == "str"
 | .ref i=>(T == "list" && (gN S i).isSome)||(T == "dict" && (jx S i).isSome)
 | _=>false
abbrev CJ (T:Ir)(g:W->Gy W->aa->GH (W×aa))(fo:FE)(f:FA):FE:=λZ S=>match fo Z S with
 | some (x,S1)=>if tyOk T S1 x then match f Z S1 with
  | some (ws,S2)=>g x ws S2
  | none=>td
  else td
 | none=>td
abbrev Fw (fa fb:FE):FE:=yK jy fa fb
noncomputable abbrev FO:=Fm->aa->GH (GH G1×aa)
abbrev BN:FO:=λ_ S=>gV (td,S)
abbrev rJ (f:FE):FO:=λZ S=>match f Z S with
 | some (.int i,S1)=>gV (gV i,S1)
 | _=>td
abbrev Dz (fa:FE)(fl fh:FO):FE:=λZ S=>match fa Z S with
 | some (x,S1)=>match fl Z S1 with
  | some (lo,S2)=>match fh Z S2 with
   | some (hi,S3)=>mE x lo hi S3
   | none=>td
  | none=>td
 | none=>td
section
variable{X:Cx}
inductive rMeth (X:Cx)(g:W->Gy W->aa->GH (W×aa))(a:V)(vs:Gy V)(H:Hp)(Q:VK):Prop
 | mk (A:Gy GP) (S:aa) (x:W) (ws:Gy W) (w:W) (S':aa) (so:StoreOk X.w X.K A H S) (rx:Rel X.K A H x a) (rl:RelL X.K A H ws vs) (e:g x ws S=gV (w,S')) (q:∀v H',EndV X.w X.K A H S' w v H'->Q v H'):rMeth X g a vs H Q
def tyOk.is {J:Gy (GP×IJ)}{Y:L2.St}{s:GF}{A:Gy GP}{H:Hp}{S:aa}{T:Ir}{x:W}{a:V}{v:GC}(I:Inv X J Y H s)(so:StoreOk X.w X.K A H S)(r:Rel X.K A H x a)(rv:RelV a v)(h:tyOk T S x=true) :
  s.TypeIs v T/\∀b,v=.ref b->∃ob,s.heap.get? b=gV ob/\ob.dict=td:=by
 cases r with
 | str=>exact uR I rv (show Fn X.K T (.str _) H from eq_of_beq h)
 | ref ea=>
  simp only[tyOk,ID,GK]at h;rcases h with⟨h1,h2⟩|⟨h1,h2⟩
  ·obtain⟨xs,hx⟩:=HW.mp h2;obtain⟨vs,h3,_⟩:=ce so hx ea;exact uR I rv (show Fn X.K T (.ref _) H from .inl #[eq_of_beq h1,vs,h3])
  ·obtain⟨U,hx⟩:=HW.mp h2;obtain⟨xs,rd,_⟩:=fG so hx ea;obtain⟨_,_,_,o,es,ep,q1,q2,q3,q4⟩:=cr I rd;have e:=eq_of_beq h1;subst e;obtain rfl:v=HM _:=rv;exact#[#[o,q1,q2.1],λb e=>by cases e; exact#[o,q1,q2.2.1]]
 | _=>cases h
def lO {o e:Hh}{es:Gy Hh}{name:Hc}{apos cpos:Ju}{T id:Ir}{g:W->Gy W->aa->GH (W×aa)}{fo:FE}{f:FA}(pa:PlainAttrs T)(slot:Slot T name id)(hty:typeOf (.builtin id)=pure (.type "method_descriptor"))(hm:je X id g)
  (ho:GE X o fo) (ha:GA X (e::es) f) (hbase:attributeBase o name X.env (eval o X.env)=eval o X.env)
  (hfew:((backTo cpos (starEach (e::es) X.env)).all (λx=>!x.1)&&(backToKw cpos (keywordEach [] X.env)).all (λx=>x.1.isSome)
   && decide ((e::es).length+([]:Gy NZ).length+(if ([]:Gy NZ).isEmpty then 0 else 1) < 30))=true)
  (hline:(apos.endLine==cpos.line)=true) (hs:starEach (e::es) X.env=(false,eval e X.env)::starEach es X.env) (hplain:(backTo cpos (starEach es X.env)).any (·.1)=false) :
  GE X (.Call (.Attribute o name apos) (e::es) [] cpos) (CJ T g fo f):=by
 intro J s Y H Q I ⟨A,Z,S,w,S',er,so,e,hq⟩;unfold CJ at e;split at e
 ·rename_i x S1 h1;split at e
  ·rename_i ht;split at e
   ·rename_i ws S2 h2;show wpAny_Call_method_late hbase hfew hline rfl (bm (ho J s Y H (EndV X.w X.K A H S1 x) I #[A,Z,S,_,_,er,so,h1,λ_ _ z=>z]) λv s1 #[a,H1,I1,r1,A1,e1,o1,z1]=>?_)
    obtain⟨t1,t2⟩:=tyOk.is I1 o1 z1 r1 ht;show#[T,id,pa,slot,hty,t1,t2,?_];have hA:=ha cpos J s1 Y H1 (EndA X A1 H1 S2 ws) I1 #[A1,Z,S1,ws,S2,er.mono e1,o1,h2,λ_ _ z=>z]
    rw[hs]at hA ⊢;show Calls.callWith_builtin (by show(false||(backTo cpos (starEach es X.env)).any (·.1))=false; rw[hplain] <;> rfl) (Calls.evalArgs_plain ?_)
    show bm hA λus s2 #[vs,H2,I2,r2,A2,e2,o2,z2]=>?_
    show bm (hm J s2 Y H2 A2 S2 x a v ws vs us w S' I2 o2 (z1.mono e2) r1 z2 r2 e) λu' s' #[v',H',A',I',r',e3,o3,z3]=>?_
    exact#[v',H',I',r',hq v' H' #[A',(e1.trans e2).trans e3,o3,z3]]
   ·cases e
  ·cases e
 ·cases e
def LIx.ixr {g:W->W->aa->GH (W×aa)}(h:LIx X g):IxR X (rOp X g):=by
 intro value slice J s Y H a b u v Q I ru rv ⟨A,S,x,y,w,S',so,rx,ry,e,hq⟩ hs;exact bm (h value slice J s Y H A S x y a b u v w S' I so rx ru ry rv e hs) λu' s' #[v',H',A',I',r',e1,o1,z1]=>#[v',H',I',r',hq v' H' #[A',e1,o1,z1]]
def DA {a b:Hh}{pos:Ju}{fa fb:FE}(hu:X.A.units+10 < cLine)(ha:GE X a fa)(hb:GE X b fb)(hs:mw b):GE X (.Subscript a b pos) (Fw fa fb):=
 GE.of (Dl (Fu hu).ixr ha hb hs) λY H A Z S w S' er so e Q hq=>by
  obtain⟨x,S1,y,S2,h1,h2,h3⟩:=EJ e;exact fH er so h1 h2 λa b H2 A2 e2 o2 r1 r2=>#[A2,S2,x,y,w,S',o2,r1,r2,h3,λv H' z=>hq v H' (z.after e2)]
inductive tO (X:Cx)(f:FO)(Y:L2.St)(H:Hp)(Q:GH G1->Hp->Prop):Prop
 | mk (A:Gy GP) (Z:Fm) (S:aa) (k:GH G1) (S':aa) (er:EnvRel X.K A H Z Y) (so:StoreOk X.w X.K A H S) (e:f Z S=gV (k,S')) (q:∀H' A',Ext X.K A H A' H'->StoreOk X.w X.K A' H' S'->Q k H'):tO X f Y H Q
noncomputable abbrev GO (X:Cx)(e:GH Hh)(f:FO):Prop:=PO X e (tO X f)
def yS:GO X td BN:=λJ s Y H Q I #[A,Z,S,k,S',er,so,e,hq]=>by
 cases e;exact yc J s Y H Q I (hq H A .refl so)
def yT {e:Hh}{f:FE}(h:GE X e f):GO X (gV e) (rJ f):=λJ s Y H Q I #[A,Z,S,k,S',er,so,e,hq]=>by
 unfold rJ at e;split at e
 ·rename_i i S1 h1;cases e;show yd h J s Y H Q I #[A,Z,S,_,_,er,so,h1,λv H1 #[A1,z1,z2,z3]=>?_]
  cases z3;exact#[i,rfl,hq H1 A1 z1 z2]
 ·cases e
inductive rSl (X:Cx)(g:W->GH G1->GH G1->aa->GH (W×aa))(a:V)(lo hi:GH G1)(H:Hp)(Q:VK):Prop
 | mk (A:Gy GP) (S:aa) (x w:W) (S':aa) (so:StoreOk X.w X.K A H S) (rx:Rel X.K A H x a) (e:g x lo hi S=gV (w,S')) (q:∀v H',EndV X.w X.K A H S' w v H'->Q v H'):rSl X g a lo hi H Q
def LSl.slr {g:W->GH G1->GH G1->aa->GH (W×aa)}(h:LSl X g):Dk X (rSl X g):=by
 intro J s Y H a v vl vu lo hi sl Q I rv hs pl pu ⟨A,S,x,w,S',so,rx,e,hq⟩;obtain⟨T,id,h1,h2,h3⟩:=h J s Y H A S x a v vl vu lo hi sl w S' I so rx rv hs pl pu e;exact#[T,id,h1,h2,bm h3 λu' s' #[v',H',A',I',r',e1,o1,z1]=>#[v',H',I',r',hq v' H' #[A',e1,o1,z1]]]
def DB {a:Hh}{lo hi:GH Hh}{p2 pos:Ju}{fa:FE}{fl fh:FO}(ha:GE X a fa)(hl:GO X lo fl)(hh:GO X hi fh):GE X (.Subscript a (.Slice lo hi td p2) pos) (Dz fa fl fh):=
 GE.of (uP Gp.slr ha hl hh) λY H A Z S w S' er so e Q hq=>by
  unfold Dz at e;split at e
  ·rename_i x S1 h1;split at e
   ·rename_i l S2 h2;split at e
    ·rename_i h S3 h3;show#[A,Z,S,x,S1,er,so,h1,λv H1 #[A1,z1,z2,z3]=>?_]
     show#[A1,Z,S1,l,S2,er.mono z1,z2,h2,λH2 A2 y1 y2=>?_]
     show#[A2,Z,S2,h,S3,er.mono (z1.trans y1),y2,h3,λH3 A3 x1 x2=>?_]
     exact#[A3,S3,x,w,S',x2,(z3.mono y1).mono x1,e,λv H' q=>hq v H' (q.after ((z1.trans y1).trans x1))]
    ·cases e
   ·cases e
  ·cases e
noncomputable abbrev FF:=Gy W->aa->GH (W×aa)
inductive spF (wd:HD)(K:GZ)(n:GJ)(g:FF)(vs:Gy V)(H:Hp)(Q:VK)(E:XK):Prop
 | mk (A:Gy GP) (S:aa) (ws:Gy W) (w:W) (S':aa) (so:StoreOk wd K A H S) (rl:RelL K A H ws vs) (hl:ws.length=n) (e:g ws S=gV (w,S')) (q:∀v H',EndV wd K A H S' w v H'->Q v H'):spF wd K n g vs H Q E
abbrev oB (n:GJ)(g:FF)(f:FA):FE:=λZ S=>match f Z S with
 | some (ws,S1)=>if ws.length=n then g ws S1 else td
 | none=>td
def oD {n:GJ}{g:FF}{f:FA}{Y:L2.St}{H:Hp}{A:Gy GP}{Z:Fm}{S:aa}{w:W}{S':aa}{E:XK}(er:EnvRel X.K A H Z Y)(so:StoreOk X.w X.K A H S)(e:oB n g f Z S=gV (w,S'))(Q:VK)(hq:∀v H',EndV X.w X.K A H S' w v H'->Q v H') :
  uL (spF X.w X.K n g) [] E (tA X f) Y H Q:=by
 unfold oB at e;split at e
 ·rename_i ws S1 h1;split at e
  ·rename_i hl;show#[A,Z,S,ws,S1,er,so,h1,λvs H1 #[A1,z1,z2,z3]=>?_]
   change spF X.w X.K n g (vs++[]) H1 Q E;rw[Iv];exact#[A1,S1,ws,w,S',z2,z3,hl,e,λv H' q=>hq v H' (q.after z1)]
  ·cases e
 ·cases e
def BO {k n:GJ}{fa:GP}{fd:Jp}{ps:Gy Hc}{g:FF}{x:Hc}{e:Hh}{es:Gy Hh}{p pos:Ju}{f:FA}(F:FnOk X.prog X.w X.K X.mg X.base ur k fa fd ps (spF X.w X.K n g))(hr:Room k X.A)(hg:Gl X x)(hm:X.mg x=gV (.ref fa))(hk:Iw X.K (.ref fa)=true)
  (hb:Binds X.K fd ps []) (ha:GA X (e::es) f) (hdb:(x==("__debug__" : Hc))=false) (he:starEach (e::es) X.env=(false,eval e X.env)::starEach es X.env) (hpl:(backTo pos (starEach es X.env)).any (·.1)=false) :
  GE X (.Call (.Name x p) (e::es) [] pos) (oB n g f):=
 GE.of (xZ F hr hg hm hk hb .nil Ad ha hdb he hpl) λY H A Z S w S' er so e Q hq=>oD er so e Q hq
def yU {k n:GJ}{fa:GP}{fd:Jp}{ps:Gy Hc}{g:FF}{x:Hc}{p pos:Ju}(F:FnOk X.prog X.w X.K X.mg X.base ur k fa fd ps (spF X.w X.K n g))(hr:Room k X.A)(hg:Gl X x)(hm:X.mg x=gV (.ref fa))(hk:Iw X.K (.ref fa)=true)
  (hb:Binds X.K fd ps []) (hdb:(x==("__debug__" : Hc))=false):GE X (.Call (.Name x p) [] [] pos) (oB n g ib):=
 GE.of (uN F hr hg hm hk hb .nil Ad hdb) λY H A Z S w S' er so e Q hq=>by
  obtain⟨A1,S1,ws,w1,S1',a1,a2,a3,a4,a5⟩:=oD (f:=ib) (E:=E0) er so e Q hq |> λ#[A,Z,S,ws,S',b1,b2,b3,b4]=>b4 [] H (by cases b3; exact#[A,.refl,b2,.nil])
  exact#[A1,S1,ws,w1,S1',a1,a2,a3,a4,a5]
def yV:GSs X [] (λZ S=>gV (.nx Z,S)):=GSs.of xQ λY H A Z S o S' er so e D hd=>by cases e; exact hd.nx _ _ #[Z,A,rfl,.refl,so,er]
abbrev yW (f g:FS):FS:=λZ S=>match f Z S with
 | some (.nx Z',S1)=>g Z' S1
 | some (.rt w,S1)=>gV (.rt w,S1)
 | some (.bk Z',S1)=>gV (.bk Z',S1)
 | some (.ct Z',S1)=>gV (.ct Z',S1)
 | none=>td
def vH {st:JN}{sts:Gy JN}{f g:FS}(h:GS X st f)(h2:GSs X sts g):GSs X (st::sts) (yW f g):=GSs.of (uC h h2) λY H A Z S o S' er so e D hd=>by
 unfold yW at e;split at e
 ·rename_i Z1 S1 h1;show#[A,Z,S,_,_,er,so,h1,#[λY' H' #[Z',A',e1,e2,e3,e4]=>?_,λv H' #[w,A',e1,_,_,_]=>(by cases e1),λv H' #[w,A',e1,_,_,_]=>(by cases e1),λv H' #[w,A',e1,_,_,_]=>(by cases e1)]]
  cases e1;exact#[A',_,S1,o,S',e4,e3,e,(EndS.after e2).trans hd]
 ·rename_i w S1 h1;cases e;exact#[A,Z,S,_,_,er,so,h1,#[λY' H' #[w,A',e1,_,_,_]=>(by cases e1),hd.rt,hd.bk,hd.ct]]
 ·rename_i w S1 h1;cases e;exact#[A,Z,S,_,_,er,so,h1,#[λY' H' #[w,A',e1,_,_,_]=>(by cases e1),hd.rt,hd.bk,hd.ct]]
 ·rename_i w S1 h1;cases e;exact#[A,Z,S,_,_,er,so,h1,#[λY' H' #[w,A',e1,_,_,_]=>(by cases e1),hd.rt,hd.bk,hd.ct]]
 ·cases e
abbrev yX (f:FE):FS:=λZ S=>match f Z S with
 | some (_,S1)=>gV (.nx Z,S1)
 | none=>td
def DC {e:Hh}{pos:Ju}{f:FE}(h:GE X e f)(hs:swapsWith e td pos.line X.env=pure false):GS X (.Expr e pos) (yX f):=GS.of (xS h hs) λY H A Z S o S' er so e D hd=>by
 unfold yX at e;split at e
 ·rename_i w S1 h1;cases e;exact#[A,Z,S,w,_,er,so,h1,λv H1 #[A1,z1,z2,z3]=>hd.nx _ _ #[Z,A1,rfl,z1,z2,er.mono z1]]
 ·cases e
abbrev vI:FS:=λZ S=>gV (.nx Z,S)
def BP {x:Hc}{j:GJ}{pos pos':Ju}:GS X (.Expr (.Constant (.str x) j pos) pos') vI:=GS.of AU λY H A Z S o S' er so e D hd=>by cases e; exact hd.nx _ _ #[Z,A,rfl,.refl,so,er]
def yY {pos:Ju}:GS X (.Pass pos) vI:=GS.of xR λY H A Z S o S' er so e D hd=>by cases e; exact hd.nx _ _ #[Z,A,rfl,.refl,so,er]
abbrev yZ (f:FE):FS:=λZ S=>match f Z S with
 | some (w,S1)=>gV (.rt w,S1)
 | none=>td
def BQ {e:Hh}{pos:Ju}{f:FE}(h:GE X e f):GS X (.Return (gV e) pos) (yZ f):=GS.of (AV h) λY H A Z S o S' er so e D hd=>by
 unfold yZ at e;split at e
 ·rename_i w S1 h1;cases e;exact#[A,Z,S,w,_,er,so,h1,λv H1 #[A1,z1,z2,z3]=>hd.rt _ _ #[w,A1,rfl,z1,z2,z3]]
 ·cases e
abbrev y4 (c:FT)(f g:FS):FS:=λZ S=>match c Z S with
 | some (true,S1)=>f Z S1
 | some (false,S1)=>g Z S1
 | none=>td
def DD {c:Hh}{a b:Gy JN}{pos:Ju}{fc:FT}{f g:FS}(hc:GT X c fc)(ha:GSs X a f)(hb:GSs X b g):GS X (.If c a b pos) (y4 fc f g):=GS.of (CZ hc ha hb) λY H A Z S o S' er so e D hd=>by
 unfold y4 at e;split at e
 ·rename_i S1 h1;show#[A,Z,S,_,S1,er,so,h1,λb H1 #[z0,A1,z1,z2]=>?_]
  subst z0;rw[Hf rfl];exact#[A1,Z,S1,o,S',er.mono z1,z2,e,(EndS.after z1).trans hd]
 ·rename_i S1 h1;show#[A,Z,S,_,S1,er,so,h1,λb H1 #[z0,A1,z1,z2]=>?_]
  subst z0;rw[Hl He];exact#[A1,Z,S1,o,S',er.mono z1,z2,e,(EndS.after z1).trans hd]
 ·cases e
noncomputable abbrev FG:=W->Fm->aa->GH (Fm×aa)
inductive tG (X:Cx)(f:FG)(v:V)(Y:L2.St)(H:Hp)(Q:L2.St->Hp->Prop):Prop
 | mk (A:Gy GP) (Z:Fm) (S:aa) (w:W) (Z':Fm) (S':aa) (er:EnvRel X.K A H Z Y) (so:StoreOk X.w X.K A H S) (r:Rel X.K A H w v) (e:f w Z S=gV (Z',S')) (q:∀Y' H' A',Ext X.K A H A' H'->StoreOk X.w X.K A' H' S'->EnvRel X.K A' H' Z' Y'->Q Y' H'):tG X f v Y H Q
noncomputable abbrev GG (X:Cx)(tg:Hh)(f:FG):Prop:=PG X tg (tG X f)
abbrev Ah (i:GJ):FG:=λw Z S=>gV (Z.set i (gV w),S)
def rK {i:GJ}{x:Hc}{pos:Ju}(hN:X.N.Nodup)(hi:X.N[i]?=gV x)(hx:xN X.env.scope x)(hf:X.fn x=true\/X.env.scope.names.lookup x=gV .local):GG X (.Name x pos) (Ah i):=by
 intro J s Y H v u Q I r ⟨A,Z,S,w,Z',S',er,so,rw',e,hq⟩;cases e;exact qS hN hi hx hf J s Y H v u Q I r (hq _ _ A .refl so (er.set rw' i))
abbrev cf:Gy GJ->Gy W->Fm->GH Fm
 | [],[],Z=>gV Z
 | i::is,w::ws,Z=>cf is ws (Z.set i (gV w))
 | _,_,_=>td
abbrev CK (is:Gy GJ):FG:=λw Z S=>match w with
 | .tup ws=>(cf is ws Z).map λZ'=>(Z',S)
 | _=>td
def tD:∀ {ts:Gy Hh} {is:Gy GJ},(∀x∈ts,∃y p,x=.Name y p)->LK (λ(t:Hh) (i:GJ)=>∃x p,t=Mw x p/\X.N[i]?=gV x/\xN X.env.scope x/\(X.fn x=true\/X.env.scope.names.lookup x=gV .local)) ts is->X.N.Nodup->
  C0 X ts (λvs Y H Q=>∃A Z ws Z' S,EnvRel X.K A H Z Y/\StoreOk X.w X.K A H S/\RelL X.K A H ws vs/\cf is ws Z=gV Z'/\∀Y',EnvRel X.K A H Z' Y'->Q Y' H):=by
 intro ts
 induction ts with
 | nil=>
  intro is _ h hN;cases h;intro J s Y H vs us Q I r ⟨A,Z,ws,Z',S,er,so,rl,e,hq⟩;cases rl with
  | nil=>cases e; exact xT J s Y H [] us Q I r #[rfl,hq _ er]
  | cons _ _=>cases e
 | cons t ts ih=>
  intro is hs h hN;cases h with
  | cons h1 h2=>
   obtain⟨x,p,rfl,hi,hl,hf⟩:=h1;have:=ih (λy hy=>hs y (HC _ hy)) h2 hN
   intro J s Y H vs us Q I r ⟨A,Z,ws,Z',S,er,so,rl,e,hq⟩;cases rl with
   | nil=>cases e
   | cons r1 r2=>
    show uD (qS hN hi hl hf) this rfl J s Y H _ us Q I r #[_,_,rfl,?_];exact#[A,_,_,Z',S,er.set r1 _,so,r2,e,hq]
def BR {ts:Gy Hh}{is:Gy GJ}{k:GJ}{pos:Ju}(hc:X.calm=true)(hs:∀x∈ts,∃y p,x=.Name y p)(h:LK (λ(t:Hh) (i:GJ)=>∃x p,t=Mw x p/\X.N[i]?=gV x/\xN X.env.scope x/\(X.fn x=true\/X.env.scope.names.lookup x=gV .local)) ts is)(hN:X.N.Nodup)
  (hn:(assignEach ts X.env).length=ts.length) (hst:(assignEach ts X.env).findIdx? (·.1)=td):GG X (.Tuple ts k pos) (CK is):=by
 intro J s Y H v u Q I r ⟨A,Z,S,w,Z',S',er,so,rw',e,hq⟩;unfold CK at e;split at e
 ·rw[GD]at e;obtain⟨Z1,e1,e2⟩:=e;cases e2;cases rw' with
  | tup h1 r1=>
   have hl:∀(is:Gy GJ) (ws:Gy W) (Z Z':Fm),cf is ws Z=gV Z'->is.length=ws.length:=by
    intro is
    induction is with
    | nil=>intro ws Z Z' e; cases ws <;> first|rfl|cases e
    | cons i is ih=>intro ws Z Z' e; cases ws <;> first|cases e|(simp; exact ih _ _ _ e)
   exact AZ hc (tD hs h hN) hn hst J s Y H _ u Q I r #[_,_,rfl,h1,by rw[<- r1.length,<- hl _ _ _ _ e1,<- Lw h],A,Z,_,_,_,er,so,r1,e1,λY' z=>hq _ _ A .refl so z]
 ·cases e
abbrev y6 (fo fi:FE):FG:=λw Z S=>match fo Z S with
 | some (o,S1)=>match fi Z S1 with
  | some (i,S2)=>match hX o i w S2 with
   | some S3=>gV (Z,S3)
   | none=>td
  | none=>td
 | none=>td
inductive rSet (X:Cx)(g:W->W->W->aa->GH aa)(ao ai av:V)(H:Hp)(Q:Hp->Prop):Prop
 | mk (A:Gy GP) (S:aa) (o i w:W) (S':aa) (so:StoreOk X.w X.K A H S) (r1:Rel X.K A H o ao) (r2:Rel X.K A H i ai) (r3:Rel X.K A H w av) (e:g o i w S=gV S') (q:∀H' A',Ext X.K A H A' H'->StoreOk X.w X.K A' H' S'->Q H'):rSet X g ao ai av H Q
def LSet.pset {g:W->W->W->aa->GH aa}(h:LSet X g):AY X (rSet X g):=by
 intro J s Y H ao ai av uo ui uv Q I ro ri rv ⟨A,S,o,i,w,S',so,r1,r2,r3,e,hq⟩;exact bm (h J s Y H A S o i w ao ai av uo ui uv S' I so r1 ro r2 ri r3 rv e) λ_ s' #[H',A',I',e1,o1]=>#[H',I',hq H' A' e1 o1]
def BS {o i:Hh}{pos:Ju}{fo fi:FE}(hu:X.A.units+10 < cLine)(ho:GE X o fo)(hi:GE X i fi)(ha:∀v,assign (.Subscript o i pos) X.env v=(do
   let ov <- holding [v] (eval o X.env)
   let iv <- holding [v,ov] (eval i X.env)
   standAt pos
   holding [v,ov,iv] (setItem ov iv v)
   release [v,ov,iv] [])):GG X (.Subscript o i pos) (y6 fo fi):=by
 intro J s Y H v u Q I r ⟨A,Z,S,w,Z',S',er,so,rw',e,hq⟩;unfold y6 at e;split at e
 ·rename_i o' S1 h1;split at e
  ·rename_i i' S2 h2;split at e
   ·rename_i S3 h3;cases e;show A6 ho hi (Ds hu).pset ha J s Y H v u Q I r ?_;show#[A,Z,S,o',S1,er,so,h1,λa H1 #[A1,e1,o1,r1]=>?_]
    show#[A1,Z,S1,i',S2,er.mono e1,o1,h2,λb H2 #[A2,e2,o2,r2]=>?_]
    exact#[A2,S2,o',i',w,_,o2,r1.mono e2,r2,rw'.mono (e1.trans e2),h3,λH' A' z1 z2=>hq Y H' A' ((e1.trans e2).trans z1) z2 (er.mono ((e1.trans e2).trans z1))]
   ·cases e
  ·cases e
 ·cases e
abbrev ke (f:FE)(g:FG):FS:=λZ S=>match f Z S with
 | some (w,S1)=>match g w Z S1 with
  | some (Z',S2)=>gV (.nx Z',S2)
  | none=>td
 | none=>td
def qf {tg e:Hh}{pos:Ju}{f:FE}{g:FG}(h:GE X e f)(hg:GG X tg g)(hs:swapsWithSole [tg] e pos.line X.env=pure false)(hw:swappedStores [tg] e X.env=pure td)(h1:(assignEach [tg] X.env).map (·.2)=[assign tg X.env]) :
  GS X (.Assign [tg] e pos) (ke f g):=GS.of (A7 h hg hs hw h1) λY H A Z S o S' er so e D hd=>by
 unfold ke at e;split at e
 ·rename_i w S1 h1;split at e
  ·rename_i Z1 S2 h2;cases e;show#[A,Z,S,w,S1,er,so,h1,λv H1 #[A1,z1,z2,z3]=>?_]
   exact#[A1,Z,S1,w,Z1,_,er.mono z1,z2,z3,h2,λY' H' A' y1 y2 y3=>hd.nx _ _ #[Z1,A',rfl,z1.trans y1,y2,y3]]
  ·cases e
 ·cases e
abbrev y8 (i j:GJ)(f:FA):FS:=λZ S=>match f Z S with
 | some ([x,y],S1)=>gV (.nx ((Z.set i (gV x)).set j (gV y)),S1)
 | _=>td
def BU {i j:GJ}{x y:Hc}{a b:Hh}{f:FA}{px py pt pos:Ju}{kt k2:GJ}{pt2:Ju}(hc:X.calm=true)(hN:X.N.Nodup)(hi:X.N[i]?=gV x)(hj:X.N[j]?=gV y)(hij:i≠j)
  (hx:X.env.scope.names.lookup x=gV .local) (hy:X.env.scope.names.lookup y=gV .local) (ha:GA X [a,b] f)
  (hw:swappedStores [.Tuple [.Name x px,.Name y py] kt pt] (.Tuple [a,b] k2 pt2) X.env=pure (gV [x,y]))
  (hs:swapsWithSole [.Tuple [.Name x px,.Name y py] kt pt] (.Tuple [a,b] k2 pt2) pos.line X.env=pure false) :
  GS X (.Assign [.Tuple [.Name x px,.Name y py] kt pt] (.Tuple [a,b] k2 pt2) pos) (y8 i j f):=GS.of (Ba hc hN hi hj hij hx hy ha hw hs) λY H A Z S o S' er so e D hd=>by
 unfold y8 at e;split at e
 ·rename_i x y S1 h1;cases e;show#[A,Z,S,_,_,er,so,h1,λvs H1 #[A1,z1,z2,z3]=>?_]
  cases z3 with
  | cons r1 t=>
   cases t with
   | cons r2 t=>
    cases t;exact#[_,_,rfl,hd.nx _ _ #[_,A1,rfl,z1,z2,((er.mono z1).set r1 i).set r2 j]]
 ·cases e
abbrev mV (c:FT)(b:FS):GJ->FS
 | 0,_,_=>td
 | n+1,Z,S=>match c Z S with
  | some (true,S1)=>match b Z S1 with
   | some (.nx Z',S2)=>mV c b n Z' S2
   | some (.ct Z',S2)=>mV c b n Z' S2
   | some (.bk Z',S2)=>gV (.nx Z',S2)
   | some (.rt w,S2)=>gV (.rt w,S2)
   | none=>td
  | some (false,S1)=>gV (.nx Z,S1)
  | none=>td
def vJ {c:Hh}{body:Gy JN}{pos:Ju}{fc:FT}{fb:FS}(n:GJ)(hp:Mv (model X.prog X.w) X.A X.env X.xe)(hc:GT X c fc)(hb:GSs X body fb):GS X (.While c body [] pos) (mV fc fb n):=GS.of (uE hp hc hb) λY H A Z S o S' er so e D hd=>by
 show#[λm Y1 H1=>∃A1 Z1 S1,Ext X.K A H A1 H1/\EnvRel X.K A1 H1 Z1 Y1/\StoreOk X.w X.K A1 H1 S1/\mV fc fb m Z1 S1=gV (o,S'),#[n,A,Z,S,.refl,er,so,e],?_]
 rintro m Y1 H1 ⟨A1,Z1,S1,e1,er1,so1,w1⟩;cases m with
 | zero=>cases w1
 | succ m=>
  dsimp only[mV]at w1;split at w1
  ·rename_i S2 h1;show#[A1,Z1,S1,_,S2,er1,so1,h1,λb H2 #[z0,A2,z1,z2]=>?_]
   subst z0;rw[Hf rfl];show#[λY3 H3=>∃A3 Z3 S3,Ext X.K A H A3 H3/\EnvRel X.K A3 H3 Z3 Y3/\StoreOk X.w X.K A3 H3 S3/\mV fc fb m Z3 S3=gV (o,S'),λY' H' h=>#[m,Jn _,h],?_]
   split at w1
   ·rename_i Z3 S3 h3;show#[A2,Z1,S2,_,S3,er1.mono z1,z2,h3,#[λY' H' #[Z',A',y0,y1,y2,y3]=>?_,λv H' #[w,A',y0,_,_,_]=>(by cases y0),λv H' #[w,A',y0,_,_,_]=>(by cases y0),λv H' #[w,A',y0,_,_,_]=>(by cases y0)]]
    cases y0;exact#[A',_,S3,(e1.trans z1).trans y1,y3,y2,w1]
   ·rename_i Z3 S3 h3;show#[A2,Z1,S2,_,S3,er1.mono z1,z2,h3,#[λv H' #[w,A',y0,_,_,_]=>(by cases y0),λv H' #[w,A',y0,_,_,_]=>(by cases y0),λv H' #[w,A',y0,_,_,_]=>(by cases y0),λY' H' #[Z',A',y0,y1,y2,y3]=>?_]]
    cases y0;exact#[A',_,S3,(e1.trans z1).trans y1,y3,y2,w1]
   ·rename_i Z3 S3 h3;cases w1;show#[A2,Z1,S2,_,_,er1.mono z1,z2,h3,#[λv H' #[w,A',y0,_,_,_]=>(by cases y0),λv H' #[w,A',y0,_,_,_]=>(by cases y0),λY' H' #[Z',A',y0,y1,y2,y3]=>?_,λv H' #[w,A',y0,_,_,_]=>(by cases y0)]]
    cases y0;exact hd.nx _ _ #[_,A',rfl,(e1.trans z1).trans y1,y2,y3]
   ·rename_i w3 S3 h3;cases w1;show#[A2,Z1,S2,_,_,er1.mono z1,z2,h3,#[λv H' #[w,A',y0,_,_,_]=>(by cases y0),λv H' #[w,A',y0,y1,y2,y3]=>?_,λv H' #[w,A',y0,_,_,_]=>(by cases y0),λv H' #[w,A',y0,_,_,_]=>(by cases y0)]]
    cases y0;exact hd.rt _ _ #[_,A',rfl,(e1.trans z1).trans y1,y2,y3]
   ·cases w1
  ·rename_i S2 h1;cases w1;show#[A1,Z1,S1,_,_,er1,so1,h1,λb H2 #[z0,A2,z1,z2]=>?_]
   subst z0;rw[Hl He];exact hd.nx _ _ #[_,A2,rfl,e1.trans z1,z2,er1.mono z1]
  ·cases w1
end
def iL {tx:OP}{A:Hz}{E:GC->GF->Prop}{s:GF}{β:Type}{m:GJ}(f:GJ->β->OQ (ForInStep β))(I:GJ->β->GF->Prop)(Q:β->GF->Prop)
  (turn:∀i b s,i < m->I i b s->wpAny tx A (f i b) (λr s'=>match r with|.yield b'=>I (i+1) b' s'|.done b'=>Q b' s') E s)
  (fin:∀b s,I m b s->Q b s) (b:β) (h:I 0 b s):wpAny tx A (forIn [0:m] b f) Q E s:=by
 rw[Std.Legacy.Range.forIn_eq_forIn_range'];simp only[Std.Legacy.Range.size,Nn,Nat.add_sub_cancel,Nat.div_one];show LD _ (λcj b s'=>∃i,i<=m/\cj=OY i (m - i)/\I i b s') _ ?_ ?_ _ _ #[0,IH _,by simp,h]
 ·rintro x cj b s' ⟨i,hi,hr,hI⟩;have hlt:i < m:=by
   rcases No i m with h|h
   ·exact h
   ·rw[Nat.sub_eq_zero_of_le h]at hr; simp at hr
  obtain⟨rfl,hrest⟩ : x=i/\cj=OY (i+1) (m - (i+1)):=by
   have e:m - i=(m - (i+1))+1:=∅
   rw[e,NG]at hr;injection hr with h1 h2
   exact#[h1,h2]
  show IP (turn x b s' hlt hI) (λr s2 hr2=>?_) λ_ _ e=>e
  cases r with
  | yield b'=>exact#[x+1,hlt,hrest,hr2]
  | done b'=>exact hr2
 ·rintro b s' ⟨i,hi,hr,hI⟩;have:i=m:=by
   rcases No i m with h|h
   ·have e:m - i=(m - (i+1))+1:=∅
    rw[e,NG]at hr; cases hr
   ·omega
  exact fin b s' (this ▸ hI)
open SeqAt in
def lg (l:GP)(items:HE GC)(n:GJ)(dd:GH GP)(sl:HE (GH GC))(x:GC)(e:GC->Hi)(j:GJ)(hj:j < items.size)
  (hit:e items[j]=true) (hno:∀m (hm:m < items.size),m < j->e items[m]=false) :
  Meets (LP.«tuple.index» #[[.ref l,x],[]])
   (λA R s=>s.heap.get? l=gV { cls:=.type "tuple",dict:=dd,data:=.seq items n,slots:=sl }/\(∀y,y∈items->EqAt A.in1 s y x (e y))/\R (.ok (.ret (.int j s.toks))) { s with toks:=s.toks+1 }):=
 .of_wp λprog w A R s h=>by
  obtain⟨hp,g,d,tk,os⟩:=s; obtain⟨hl,he,h⟩:=h
  wp_walk using Ks hl,iL _ (λi b s'=>b.1=td/\s'=#[hp,g,d,tk,os]/\i<=j) _
  case turn=>
   rintro i b s' hi ⟨hb,rfl,hij⟩;have hi2:i < items.size:=∅
   rw[Kh hi2];show GB (he _ (Array.getElem_mem hi2) prog w _ _ ?_)
   by_cases ej:i=j
   ·subst ej;rw[hit]
    wp_walk
    exact#[_,rfl,h]
   ·rw[hno i hi2 ∅]
    wp_walk
    exact#[rfl,rfl,∅]
  case fin=>
   rintro b s' ⟨hb,rfl,hij⟩;rw[JY]at hij;omega
  case h=>exact#[rfl,rfl,IH _]
abbrev kg (w x:W)(S:aa):GH (W×aa):=match dc S w with
 | some ys=>if (aV x&&ys.all aV)&&decide (ys.length<=1000000)then(ys.findIdx? λz=>nH z x).map λj=>(.int (j:GJ),S)else td
 | none=>td
abbrev y9 (w:W)(xs:Gy W)(S:aa):GH (W×aa):=match xs with
 | [x]=>kg w x S
 | _=>td
section
variable{X:Cx}
def ic {A:Gy GP}{H:Hp}{x:W}{v:V}(rx:Rel X.K A H x v)(fx:aV x=true):∀ {ws:Gy W} {vs:Gy V} {us:Gy GC},RelL X.K A H ws vs->Vals vs us->ws.all aV=true->∀(j:GJ) (h:j < us.length) (h':j < ws.length),nG v us[j]=nH ws[j] x
 | _,_,_,.nil,.nil,_,j,h,_=>absurd h (Nat.not_lt_zero _)
 | _,_,_,.cons r t,.cons q p,f,j,h,h'=>by
  rw[HN,GK]at f;cases j with
  | zero=>exact(pY q (fF r f.1)).trans (re r rx f.1 fx)
  | succ j=>exact ic rx fx t p f.2 j (LS h) (LS h')
def oE (id:Ir)(hid:(id = "tuple.index")\/(id = "list.index")):je X id (λw xs S=>match w with|.tup _=>if id = "tuple.index" then y9 w xs S else td|.ref _=>if id = "list.index" then y9 w xs S else td|_=>td):=by
 intro J s Y H A S x a u xs vs us w S' I so rx ru rl rv ek;have key:y9 x xs S=gV (w,S')->∃(b:V) (y:W) (v:GC) (ys:Gy W) (j:GJ),vs=[b]/\us=[v]/\xs=[y]/\Rel X.K A H y b/\RelV b v/\aV y=true/\ys.all aV=true/\ys.length<=1000000/\dc S x=gV ys/\(ys.findIdx? λz=>nH z y)=gV j/\w=.int (j:GJ)/\S'=S:=λe=>by
  clear ek
  match xs,rl,e with
  | [],_,e=>cases e
  | _::_::_,_,e=>cases e
  | [y],rl,e=>
   replace e:kg x y S=gV (w,S'):=e;unfold kg at e;split at e
   ·rename_i ys hy;split at e
    ·rename_i hf;rw[GD]at e;obtain⟨j,hj,e⟩:=e;cases e;rw[GK,GK,Hm]at hf;cases rl with
     | cons r t=>cases t; cases rv with
      | cons q p=>cases p; exact#[_,y,_,ys,j,rfl,rfl,rfl,r,q,hf.1.1,hf.1.2,hf.2,hy,hj,rfl,rfl]
    ·cases e
   ·cases e
 have e:=ek;clear ek;cases rx with
 | tup hq r1=>
  dsimp only at e;split at e
  ·rename_i hi;subst hi;obtain⟨b,y,v,ys,j,rfl,rfl,rfl,ry,rb,fy,fs,hl0,hs,hj,rfl,rfl⟩:=key e;cases hs;cases ru;obtain⟨its,r2,⟨⟨cls,dd,data,sl⟩,eo,hc,n,hd⟩,hz⟩:=I.tuple hq;dsimp only at hc hd;subst hc hd;have hl:its.length=_:=r2.length.symm.trans r1.length.symm;obtain⟨hj1,hj2,hj3⟩:=IR.mp hj;show Ku PySem.F.slot_tuple_index #[_,eo,rfl] PySem.F.entry_tuple_index (PySem.F.args_tuple_index_2 _ _) (lg _ its.toArray n dd sl v (nG b) j (by rw[G6,hl]; exact hj1) ?_ λm hm h=>?_) #[eo,λz hz=>dN rb (fF ry fy) r2 (fU r1 fs) z (by simpa using hz),#[.int _,H,A,I.tok _,#[_,rfl],.refl,so,.int]]
   ·exact(ic ry fy r1 r2 fs j (by rw[hl]; exact hj1) hj1).trans hj2
   ·have hm':m < its.length:=by simpa using hm
    exact(ic ry fy r1 r2 fs m hm' (by rw[<- hl]; exact hm')).trans (by simpa using hj3 m h)
  ·cases e
 | ref ea=>
  dsimp only at e;split at e
  ·rename_i hi;subst hi;obtain⟨b,y,v,ys,j,rfl,rfl,rfl,ry,rb,fy,fs,hl0,hs,hj,rfl,rfl⟩:=key e;obtain⟨ws',hq,r1⟩:=ce so hs ea;cases ru;obtain⟨its,r2,p,hz⟩:=I.list hq;obtain⟨⟨cls,dd,data,sl⟩,n,eo,hc,hdn,hd⟩:=p;dsimp only at hc hd hdn;subst hc hd hdn;have hl:its.length=ys.length:=r2.length.symm.trans r1.length.symm;obtain⟨hj1,hj2,hj3⟩:=IR.mp hj;show Ku LH #[_,eo,rfl] PySem.F.entry_list_index (PySem.F.args_list_index_2 _ _) (SeqAt.list_indexAt _ its.toArray n td sl v (nG b) j (by rw[G6,hl]; exact hj1) ∅ ?_ λm hm h=>?_) #[eo,λz hz=>dN rb (fF ry fy) r2 (fU r1 fs) z (by simpa using hz),#[.int _,H,A,I.tok _,#[_,rfl],.refl,so,.int]]
   ·exact(ic ry fy r1 r2 fs j (by rw[hl]; exact hj1) hj1).trans hj2
   ·have hm':m < its.length:=by simpa using hm
    exact(ic ry fy r1 r2 fs m hm' (by rw[<- hl]; exact hm')).trans (by simpa using hj3 m h)
  ·cases e
 | _=>cases e
abbrev rL (w:W)(xs:Gy W)(S:aa):GH (W×aa):=match w with
 | .ref _=>y9 w xs S
 | _=>td
def mW:je X "list.index" rL:=by
 intro J s Y H A S x a u xs vs us w S' I so rx ru rl rv e;show oE "list.index" (.inr rfl) J s Y H A S x a u xs vs us w S' I so rx ru rl rv ?_;cases x with
 | ref i=>exact e
 | _=>cases e
end
inductive MI where
 | its (ws:Gy W)
 | live (r:GJ)
 | zl (r q:GJ)
abbrev DE (xs ys:Gy W):Gy W:=G3 (λx y=>.tup [x,y]) xs ys
abbrev MI.at (S:aa)(i:GJ):MI->GH (GH W)
 | .its ws=>gV ws[i]?
 | .live r=>match gN S r with
  | some xs=>gV xs[i]?
  | none=>td
 | .zl r q=>match gN S r,gN S q with
  | some xs,gV ys=>gV (DE xs ys)[i]?
  | _,_=>td
abbrev MI.len (S:aa):MI->GH GJ
 | .its ws=>gV ws.length
 | .live r=>(gN S r).map (·.length)
 | .zl r q=>match gN S r,gN S q with
  | some xs,gV ys=>gV (DE xs ys).length
  | _,_=>td
noncomputable abbrev FI:=Fm->aa->GH (MI×aa)
structure MIt (wd:HD)(K:GZ)(mi:MI)(tv:It)(A0:Gy GP)(H0:Hp):Prop where
 go:∀A H S i w,Ext K A0 H0 A H->StoreOk wd K A H S->mi.at S i=gV (gV w)->tv.go i H/\∀x H',tv.yld i H x H'->Ext K A H A H'/\StoreOk wd K A H' S/\Rel K A H' w x
 stop:∀A H S i,Ext K A0 H0 A H->StoreOk wd K A H S->mi.at S i=gV td->tv.stop i H
inductive tI (X:Cx)(f:FI)(Y:L2.St)(H:Hp)(R:It->Hp->Prop):Prop
 | mk (A:Gy GP) (Z:Fm) (S:aa) (mi:MI) (S':aa) (er:EnvRel X.K A H Z Y) (so:StoreOk X.w X.K A H S) (e:f Z S=gV (mi,S')) (q:∀tv H' A',Ext X.K A H A' H'->StoreOk X.w X.K A' H' S'->MIt X.w X.K mi tv A' H'->R tv H'):tI X f Y H R
noncomputable abbrev GI (X:Cx)(tg iter:Hh)(f:FI):Prop:=PI X tg iter (tI X f)
abbrev zb (f:FE):FI:=λZ S=>match f Z S with
 | some (.tup ws,S1)=>gV (.its ws,S1)
 | some (.ref r,S1)=>match gN S1 r with
  | some _=>gV (.live r,S1)
  | none=>td
 | _=>td
abbrev cQ (lo:G1)(n:GJ):Gy W:=(GL n).map λ(k:GJ)=>.int (lo+(k:G1))
abbrev qg (f:FA):FI:=λZ S=>match f Z S with
 | some ([.int j],S1)=>if -(2 ^ 62)<=j/\j < 2 ^ 62 then gV (.its (cQ 0 j.toNat),S1)else td
 | _=>td
abbrev iRng2 (f:FA):FI:=λZ S=>match f Z S with
 | some ([.int i,.int j],S1)=>if -(2 ^ 62)<=i/\i < 2 ^ 62/\-(2 ^ 62)<=j/\j < 2 ^ 62 then gV (.its (cQ i (j - i).toNat),S1)else td
 | _=>td
abbrev fJ (mi:MI)(g:FG)(b:FS):GJ->GJ->FS
 | 0,i,Z,S=>match mi.at S i with
  | some td=>gV (.nx Z,S)
  | _=>td
 | n+1,i,Z,S=>match mi.at S i with
  | some (gV w)=>match g w Z S with
   | some (Z1,S1)=>match b Z1 S1 with
    | some (.nx Z2,S2)=>fJ mi g b n (i+1) Z2 S2
    | some (.ct Z2,S2)=>fJ mi g b n (i+1) Z2 S2
    | some (.bk Z2,S2)=>gV (.nx Z2,S2)
    | some (.rt w,S2)=>gV (.rt w,S2)
    | none=>td
   | none=>td
  | _=>td
abbrev vK (fi:FI)(g:FG)(b:FS):FS:=λZ S=>match fi Z S with
 | some (mi,S1)=>match mi.len S1 with
  | some n=>fJ mi g b n 0 Z S1
  | none=>td
 | none=>td
section
variable{X:Cx}
def zd {A:Gy GP}{H:Hp}{ws:Gy W}{a:GP}{vs:Gy V}(h:SqT X.K H a vs)(r:RelL X.K A H ws vs):MIt X.w X.K (.its ws) (CH X.K a) A H:=by
 show#[λA' H' S i w e so hi=>?_,λA' H' S i e so hi=>?_]
 ·simp only[MI.at,Hx]at hi;obtain⟨v,h1,h2⟩:=(r.mono e).get hi;show#[#[vs,v,e.tp _ _ h,h1],λx H2 #[z1,z2]=>?_]
  subst z1;have:=z2 vs (e.tp _ _ h);rw[h1]at this; cases this
  exact#[.refl,so,h2]
 ·simp only[MI.at,Hx]at hi;show#[vs,e.tp _ _ h,?_];rw[<- r.length];exact IW.mp hi
def ze {A:Gy GP}{H:Hp}{r:GJ}{a:GP}(ea:A[r]?=gV a):MIt X.w X.K (.live r) (E5 X.K a) A H:=by
 show#[λA' H' S i w e so hi=>?_,λA' H' S i e so hi=>?_]
 ·simp only[MI.at]at hi;split at hi
  ·rename_i xs hx;simp only[Hx]at hi;obtain⟨vs,h1,r1⟩:=ce so hx (e.ad _ _ ea);obtain⟨v,h2,h3⟩:=r1.get hi;show#[#[vs,v,h1,h2],λx H2 #[z1,z2]=>?_]
   subst z1;have:=z2 vs h1;rw[h2]at this; cases this
   exact#[.refl,so,h3]
  ·cases hi
 ·simp only[MI.at]at hi;split at hi
  ·rename_i xs hx;simp only[Hx]at hi;obtain⟨vs,h1,r1⟩:=ce so hx (e.ad _ _ ea);show#[vs,h1,?_];rw[<- r1.length];exact IW.mp hi
  ·cases hi
def dU {lo:G1}{n i:GJ}:(cQ lo n)[i]?=if i < n then gV (.int (lo+i))else td:=by
 unfold cQ;rw[GM]
 by_cases h:i < n
 ·rw[Hf h,IG h]; rfl
 ·rw[Hl h,IW.mpr (by simp; omega)]; rfl
def rM {A:Gy GP}{H:Hp}{lo:G1}{n:GJ}:MIt X.w X.K (.its (cQ lo n)) (C5 lo n) A H:=by
 show#[λA' H' S i w e so hi=>?_,λA' H' S i e so hi=>?_]
 ·simp only[MI.at,Hx]at hi;rw[dU]at hi;split at hi
  ·cases hi;show#[by assumption,λx H2 #[z1,z2]=>?_]
   subst z1 z2;exact#[.refl,so,.int]
  ·cases hi
 ·simp only[MI.at,Hx]at hi;rw[dU]at hi;split at hi
  ·cases hi
  ·change n<=i;omega
def oF {tg:Hh}{J:Gy (GP×IJ)}{Y:L2.St}{H1:Hp}{s1:GF}{R:It->Hp->Prop}{a:GP}{xs:Gy V}{v:GC}(I1:Inv X J Y H1 s1)(r1:RelV (.ref a) v)(hq:SqL X.K H1 a xs)(q:R (E5 X.K a) H1) :
  wpAny (model X.prog X.w) X.A (pyIter v) (EE X J Y tg R) X.xe s1:=by
 cases r1;obtain⟨its,rv,p,hz⟩:=I1.list hq;show Lr p.isList ?_;show#[s1.heap.objs.size,[s1.heap.objs.size],_,_,H1,rfl,I1.kept (t':=s1.toks) λb o e=>GN _ e,sD a _,#[_,Hb _ rfl,rfl,rfl],λb hb=>?_,q]
 have e:b=s1.heap.objs.size:=by simpa using hb
 subst e;exact I1.fpOk (GY _) (I1.hok.fresh (GY _))
def qh {tg:Hh}{J:Gy (GP×IJ)}{Y:L2.St}{H1:Hp}{s1:GF}{R:It->Hp->Prop}{a:GP}{xs:Gy V}{v:GC}(I1:Inv X J Y H1 s1)(r1:RelV (.ref a) v)(hq:SqT X.K H1 a xs)(q:R (CH X.K a) H1) :
  wpAny (model X.prog X.w) X.A (pyIter v) (EE X J Y tg R) X.xe s1:=by
 cases r1;obtain⟨its,rv,p,hz⟩:=I1.tuple hq;show M0 (show s1.heap.IsTuple a its.toArray from p) ?_
 show#[s1.heap.objs.size,[s1.heap.objs.size],_,_,H1,rfl,I1.kept (t':=s1.toks) λb o e=>GN _ e,pP a _,#[_,Hb _ rfl,rfl,rfl],λb hb=>?_,q]
 have e:b=s1.heap.objs.size:=by simpa using hb
 subst e;exact I1.fpOk (GY _) (I1.hok.fresh (GY _))
def zf {tg a:Hh}{f:FA}{p pos:Ju}(hg:Gl X "range")(hm:X.mg "range" = td)(ha:GA X [a] f)(hs:starEach [a] X.env=[(false,eval a X.env)]):GI X tg (.Call (.Name "range" p) [a] [] pos) (qg f):=by
 intro J s Y H R I ⟨A,Z,S,mi,S',er,so,e,hq⟩;unfold qg at e;split at e
 ·rename_i j S1 h1;split at e
  ·rename_i hj;cases e;show sE hg hm ha hs J s Y H R I #[A,Z,S,_,_,er,so,h1,λvs H1 #[A1,z1,z2,z3]=>?_]
   cases z3 with
   | cons r1 t=>
    cases t;cases r1;exact#[j,rfl,hj.1,hj.2,hq _ _ A1 z1 z2 rM]
  ·cases e
 ·cases e
def zh {tg a b:Hh}{f:FA}{p pos:Ju}(hg:Gl X "range")(hm:X.mg "range" = td)(ha:GA X [a,b] f)(hs:starEach [a,b] X.env=[(false,eval a X.env),(false,eval b X.env)])(hs2:starEach [b] X.env=[(false,eval b X.env)]):GI X tg (.Call (.Name "range" p) [a,b] [] pos) (iRng2 f):=by
 intro J s Y H R I ⟨A,Z,S,mi,S',er,so,e,hq⟩;unfold iRng2 at e;split at e
 ·rename_i i j S1 h1;split at e
  ·rename_i hj;cases e;show sF hg hm ha hs hs2 J s Y H R I #[A,Z,S,_,_,er,so,h1,λvs H1 #[A1,z1,z2,z3]=>?_]
   cases z3 with
   | cons r1 t=>
    cases t with
    | cons r2 t=>
     cases t;cases r1;cases r2;exact#[i,j,rfl,hj,hq _ _ A1 z1 z2 rM]
  ·cases e
 ·cases e
def BV {tg l:Hh}{f:FE}(h:GE X l f):GI X tg l (zb f):=by
 intro J s Y H R I ⟨A,Z,S,mi,S',er,so,e,hq⟩;unfold zb at e;split at e
 ·rename_i ws S1 h1;cases e;show bm (h J s Y H (EndV X.w X.K A H _ (.tup ws)) I #[A,Z,S,_,_,er,so,h1,λ_ _ z=>z]) λv s1 #[x,H1,I1,r1,A1,e1,o1,z1]=>?_
  cases z1 with
  | tup hq1 rl=>
   show qh I1 r1 hq1 (hq _ _ A1 e1 o1 (zd hq1 rl))
 ·rename_i r S1 h1;split at e
  ·rename_i ys hy;cases e;show bm (h J s Y H (EndV X.w X.K A H _ (.ref r)) I #[A,Z,S,_,_,er,so,h1,λ_ _ z=>z]) λv s1 #[x,H1,I1,r1,A1,e1,o1,z1]=>?_
   cases z1 with
   | ref ea=>
    obtain⟨vs,hl,_⟩:=ce o1 hy ea;exact oF I1 r1 hl (hq _ _ A1 e1 o1 (ze ea))
  ·cases e
 ·cases e
def BW {tg iter:Hh}{body:Gy JN}{pos:Ju}{fi:FI}{g:FG}{fb:FS}(hp:Mv (model X.prog X.w) X.A X.env X.xe)(hc:X.calm=true)(hi:GI X tg iter fi)(hg:GG X tg g)(hb:GSs X body fb)
  (hs:∀x,foldedSetIterable iter X.env x=pure x):GS X (.For tg iter body [] pos) (vK fi g fb):=GS.of (Bc hp hc hi hg hb hs) λY H A Z S o S' er so e D hd=>by
 unfold vK at e;split at e
 ·rename_i mi S1 h1;split at e
  ·rename_i n hn;show#[A,Z,S,mi,S1,er,so,h1,λtv H1 A1 z1 z2 mit=>?_]
   show#[λi m Y2 H2=>∃A2 Z2 S2,Ext X.K A1 H1 A2 H2/\EnvRel X.K A2 H2 Z2 Y2/\StoreOk X.w X.K A2 H2 S2/\fJ mi g fb m i Z2 S2=gV (o,S'),#[n,A1,Z,S1,.refl,er.mono z1,z2,e],?_]
   rintro i m Y2 H2 ⟨A2,Z2,S2,e2,er2,so2,w2⟩;cases m with
   | zero=>
    dsimp only[fJ]at w2;split at w2
    ·rename_i hs;cases w2;exact .inl #[mit.stop A2 H2 _ i e2 so2 hs,hd.nx _ _ #[_,A2,rfl,z1.trans e2,so2,er2]]
    ·cases w2
   | succ m=>
    dsimp only[fJ]at w2;split at w2
    ·rename_i w hw;obtain⟨go,yl⟩:=mit.go A2 H2 S2 i w e2 so2 hw;show .inr #[go,λY3 H3=>∃A3 Z3 S3,Ext X.K A1 H1 A3 H3/\EnvRel X.K A3 H3 Z3 Y3/\StoreOk X.w X.K A3 H3 S3/\fJ mi g fb m (i+1) Z3 S3=gV (o,S'),λY' H' h=>#[m,Jn _,h],λx H3 hy=>?_]
     obtain⟨x1,x2,x3⟩:=yl x H3 hy;split at w2
     ·rename_i Z3 S3 h3;show#[A2,Z2,S2,w,Z3,S3,er2.mono x1,x2,x3,h3,λY4 H4 A4 y1 y2 y3=>?_]
      have ex:Ext X.K A1 H1 A4 H4:=(e2.trans x1).trans y1;split at w2
      ·rename_i Z5 S5 h5;show#[A4,Z3,S3,_,S5,y3,y2,h5,#[λY' H' #[Z',A',u0,u1,u2,u3]=>?_,λv H' #[w,A',y0,_,_,_]=>(by cases y0),λv H' #[w,A',y0,_,_,_]=>(by cases y0),λv H' #[w,A',y0,_,_,_]=>(by cases y0)]]
       cases u0;exact#[A',_,S5,ex.trans u1,u3,u2,w2]
      ·rename_i Z5 S5 h5;show#[A4,Z3,S3,_,S5,y3,y2,h5,#[λv H' #[w,A',y0,_,_,_]=>(by cases y0),λv H' #[w,A',y0,_,_,_]=>(by cases y0),λv H' #[w,A',y0,_,_,_]=>(by cases y0),λY' H' #[Z',A',u0,u1,u2,u3]=>?_]]
       cases u0;exact#[A',_,S5,ex.trans u1,u3,u2,w2]
      ·rename_i Z5 S5 h5;cases w2;show#[A4,Z3,S3,_,_,y3,y2,h5,#[λv H' #[w,A',y0,_,_,_]=>(by cases y0),λv H' #[w,A',y0,_,_,_]=>(by cases y0),λY' H' #[Z',A',u0,u1,u2,u3]=>?_,λv H' #[w,A',y0,_,_,_]=>(by cases y0)]]
       cases u0;exact hd.nx _ _ #[_,A',rfl,(z1.trans ex).trans u1,u2,u3]
      ·rename_i w5 S5 h5;cases w2;show#[A4,Z3,S3,_,_,y3,y2,h5,#[λv H' #[w,A',y0,_,_,_]=>(by cases y0),λv H' #[w,A',u0,u1,u2,u3]=>?_,λv H' #[w,A',y0,_,_,_]=>(by cases y0),λv H' #[w,A',y0,_,_,_]=>(by cases y0)]]
       cases u0;exact hd.rt _ _ #[_,A',rfl,(z1.trans ex).trans u1,u2,u3]
      ·cases w2
     ·cases w2
    ·cases w2
  ·cases e
 ·cases e
end
section
variable{prog:Ht}{w:HD}{B:Hz}{E:GC->GF->Prop}{s:GF}
def zj {d:GP}{es:HE Jd}{ep:GJ}{Q:GC->GF->Prop}(hd:(d==sysModules)=false)(hm:RawD d es ep s.heap)(hfit:(es.size:G1) < 2 ^ 63)
  (h:Q (.int es.size (s.toks+1)) { s with toks:=s.toks+1+1 }):wpAny (model prog w) B (call (.builtin "len") [.ref d]) Q E s:=by
 have hT:=hm.type;obtain⟨o,ho,hc,hdat⟩:=id hm;show Lj kind_len plain_len entry_len (args_len1 _) ?_;unfold LP.«len»;show GB (m:=oneArg "len" _) (GU ?_);show GB (m:=callSpecial? (.ref d) (Jk "__len__")) (Ik (name:=Jk "__len__") hT F.slot_dict_len (Ix F.slot_dict_len hT F.entry_dict_len ?_ (F.args_dict_len_1 _)));change wpAny _ _ (dictSize d >>= _) _ _ s;unfold dictSize;show GB (GB (KH ho hdat (GU ?_)));change wpAny _ _ (On d >>= _) _ _ s;show GB (wpAny_pendingCount_other hd ?_);show wpAny_ret_mkInt ?_;rw[Nat.add_zero];change wpAny _ _ _ _ _ { s with toks:=s.toks+1 }
 show GB (IC (GU ?_));show GB (KW ?_);change wpAny _ _ (if ((es.size:GJ):G1) < 0 then _ else _) _ _ _
 rw[Hl ∅]
 change wpAny _ _ (if ((es.size:GJ):G1)>=2 ^ 63 then _ else _) _ _ _
 rw[Hl ∅]
 exact GB (NQ (GU #[_,rfl,h]))
end
section
variable{X:Cx}{J:Gy (GP×IJ)}{Y:L2.St}{H:Hp}{s:GF}{A:Gy GP}{S:aa}
def qi:LCall X (.builtin "len") qb:=by
 intro J s Y H A S xs vs us w S' I so rl rv e
 by_cases hd:∃i U,xs=[.ref i]/\jx S i=gV U
 ·obtain⟨i,U,rfl,hk⟩:=hd
  (dsimp only[qb]at e; simp only[hk]at e)
  cases e;cases rl with
  | cons r t=>
   cases t;cases rv with
   | cons ru rv2=>
    cases rv2;cases r with
    | ref ea=>
     obtain⟨xs,rd,kr⟩:=fG so hk ea;have d:=cr I rd;obtain⟨es,ep,raw,he⟩:=d.raw;obtain rfl:_=HM _:=ru;have hl:es.size=xs.length:=by rw[<- Hn,he,Gz]
     have hz:=d.1;have hs:sizeLine=16777216:=HR;show zj d.2.1 raw ∅ #[.int U.length,H,A,I.tok _,#[_,by rw[kr.length,hl]],.refl,so,.int]
 ·have:qb xs S=p7 xs S:=by
   unfold qb;split
   ·rename_i i;split
    ·rename_i U hk;exact absurd #[i,U,rfl,hk] hd
    ·rfl
   ·rfl
  rw[this]at e;exact sR J s Y H A S xs vs us w S' I so rl rv e
abbrev F8 (S:aa):W->GH Ir
 | .non=>gV "NoneType"|.bl _=>gV "bool"|.int _=>gV "int"|.str _=>gV "str"|.tup _=>gV "tuple"
 | .ref i=>match gN S i with
  | some _=>gV "list"
  | none=>(jx S i).map λ_=>"dict"
abbrev rN:Gy Ir:=["bool","int","str","tuple","list","dict"]
abbrev BX (S:aa)(x:W)(c:Ir):GH Hi:=match F8 S x with
 | some t=>if rN.contains c then gV (t==c||(t == "bool" && c == "int"))else td
 | none=>td
def gR {K:GZ}{t c:Ir}(ht:t∈["NoneType","bool","int","str","tuple","list","dict"])(hc:c∈rN):PySem.W.kitOne K (.type t) (.type c)=gV (t==c||(t == "bool" && c == "int")):=by
 simp only[rN,Hj,IF,KI]at ht hc;rcases ht with rfl|rfl|rfl|rfl|rfl|rfl|rfl <;> rcases hc with rfl|rfl|rfl|rfl|rfl|rfl <;> rfl
def vL:CallR X (.builtin "isinstance") (λvs H Q=>∃A S x v c b,vs=[v,.ty c]/\StoreOk X.w X.K A H S/\Rel X.K A H x v/\BX S x c=gV b/\Q (.bl b) H):=by
 intro J s Y H vs us Q I rv ⟨A,S,x,v,c,b,e1,so,rx,e2,hq⟩;subst e1;cases rv with
 | cons r1 rv2=>cases rv2 with
  | cons r2 rv3=>
   cases rv3;obtain rfl:_=J7 c:=r2;unfold BX at e2;split at e2
   ·rename_i t ht;split at e2
    ·rename_i hc;cases e2;have hc':c∈rN:=by simpa using hc
     have fin:∀tk,EP X J Y Q (.bool (t==c||(t == "bool" && c == "int"))) { s with toks:=tk }:=λtk=>#[.bl _,H,I.tok _,rfl,hq]
     cases rx with
     | non=>cases ht; cases(show _=HZ from r1); exact Jz PySem.W.kitx_none I.kIn KT (gR (by simp) hc') (λz=>nomatch z) fin
     | bl=>cases ht; cases(show _=J6 _ from r1); exact Jz PySem.W.kitx_bool I.kIn KT (gR (by simp) hc') (λz=>nomatch z) fin
     | int=>cases ht; obtain⟨t',q⟩:=(show ∃t,_=KQ _ t from r1); cases q; exact Jz PySem.W.kitx_int I.kIn KT (gR (by simp) hc') (λz=>nomatch z) fin
     | str=>cases ht; obtain⟨t',q⟩:=(show ∃t,_=LB _ t from r1); cases q; exact Jz PySem.W.kitx_str I.kIn KT (gR (by simp) hc') (λz=>nomatch z) fin
     | tup h1 r1'=>
      cases ht;obtain⟨its,rv,⟨o,q1,q2,_⟩,hz⟩:=I.tuple h1;cases(show _=HM _ from r1)
      exact Jz PySem.W.kitx_tuple I.kIn #[o,q1,q2] (gR (by simp) hc') (λz=>nomatch z) fin
     | ref ea=>
      cases(show _=HM _ from r1)
      dsimp only[F8]at ht;split at ht
      ·rename_i ws hw;cases ht;obtain⟨vs,h1,_⟩:=ce so hw ea;obtain⟨its,rv,p,hz⟩:=I.list h1;obtain⟨o,q1,q2,_⟩:=p.isList;exact Jz PySem.W.kitx_list I.kIn #[o,q1,q2] (gR (by simp) hc') (λz=>nomatch z) fin
      ·rw[GD]at ht;obtain⟨U,hk,rfl⟩:=ht;obtain⟨xs,rd,kr⟩:=fG so hk ea;obtain⟨es,ep,⟨o,q1,q2,_⟩,he⟩:=(cr I rd).raw;exact Jz PySem.W.kitx_dict I.kIn #[o,q1,q2.1] (gR (by simp) hc') (λz=>nomatch z) fin
    ·cases e2
   ·cases e2
abbrev vM (c:Ir)(f:FE):FE:=λZ S=>match f Z S with
 | some (x,S1)=>(BX S1 x c).map λb=>(.bl b,S1)
 | none=>td
def BY {cn:Hc}{c:Ir}{e:Hh}{p p2 pos:Ju}{f:FE}(hg:Gl X "isinstance")(hm:X.mg "isinstance" = td)(hg2:Gl X cn)(hm2:X.mg cn=td)(hv2:bootBuiltins cn=gV (.type c))(hn2:cn≠"__name__")(hd2:(cn==("__debug__" : Hc))=false)
  (he:GE X e f) (hs:starEach [e,.Name cn p2] X.env=(false,eval e X.env)::starEach [.Name cn p2] X.env):GE X (.Call (.Name "isinstance" p) [e,.Name cn p2] [] pos) (vM c f):=
 GE.of (nL (vL) hg hm rfl (mq he (mq (xO (v:=.ty c) hg2 hm2 hv2 rfl hn2 hd2) uJ) hs) #v[] #v[] hs rfl) λY H A Z S w S' er so e Q hq=>by
  unfold vM at e;split at e
  ·rename_i x1 S1 h1;rw[GD]at e;obtain⟨b,e1,e2⟩:=e;cases e2;exact#[A,Z,S,x1,_,er,so,h1,λv H1 #[A1,z1,z2,z3]=>#[A1,_,x1,v,c,b,rfl,z2,z3,e1,hq _ _ #[A1,z1,z2,.bl]]]
  ·cases e
end
abbrev dt:Gy (T×W)->Gy W->GH (Gy (T×W))
 | U,[]=>gV U
 | U,k::v::ws=>match gz k with
  | some t=>dt (d4 U t v) ws
  | none=>td
 | _,[_]=>td
abbrev Ai:FE:=λ_ S=>gV (.ref S.length,S++[.dic []])
abbrev oG (f:FA):FE:=λZ S=>match f Z (S++[.dic []])with
 | some (ws,S1)=>match S1[S.length]? with
  | some (.dic [])=>match dt [] ws with
   | some U=>gV (.ref S.length,S1.set S.length (.dic U))
   | none=>td
  | _=>td
 | none=>td
section
variable (K:GZ) (A:Gy GP) (H:Hp)
inductive RelP:Gy W->Gy (V×V)->Prop
 | nil:RelP [] []
 | cons {k v:W} {a b:V} {ws:Gy W} {ps:Gy (V×V)}:Rel K A H k a->Rel K A H v b->RelP ws ps->RelP (k::v::ws) ((a,b)::ps)
end
def RelP.mono {K:GZ}{A A':Gy GP}{H H':Hp}(e:Ext K A H A' H'){ws:Gy W}{ps:Gy (V×V)}(h:RelP K A H ws ps):RelP K A' H' ws ps:=by
 induction h with
 | nil=>exact .nil
 | cons a b c ih=>exact .cons (a.mono e) (b.mono e) ih
section
variable{X:Cx}{J:Gy (GP×IJ)}{Y:L2.St}{H:Hp}{s:GF}{A:Gy GP}{S:aa}
abbrev Fx (X:Cx)(A:Gy GP)(H:Hp)(S':aa)(ws:Gy W):Gy (V×V)->Hp->Prop:=λps H'=>∃A',Ext X.K A H A' H'/\StoreOk X.w X.K A' H' S'/\RelP X.K A' H' ws ps
abbrev DF (X:Cx)(pos:Ju)(keys:Gy (GH Hh))(values:Gy Hh)(f:FA):Prop:=
 ∀(J:Gy (GP×IJ)) (s:GF) (Y:L2.St) (H:Hp) (A:Gy GP) (Z:Fm) (S:aa) (ws:Gy W) (S':aa),Inv X J Y H s->EnvRel X.K A H Z Y->StoreOk X.w X.K A H S->f Z S=gV (ws,S')->
  wpAny (model X.prog X.w) X.A (evalPairs (pairTrees keys values X.env pos)) (λvs s'=>∃ps H',Inv X J Y H' s'/\VV ps vs/\Fx X A H S' ws ps H') X.xe s
def zm {pos:Ju}:DF X pos [] [] ib:=λJ s Y H A Z S ws S' I er so e=>by
 cases e;exact pairTrees_nil_walk #[[],H,I,.nil,A,.refl,so,.nil]
def vN {pos:Ju}{k v:Hh}{ks:Gy (GH Hh)}{vs:Gy Hh}{fk fv:FE}{f:FA}(hk:GE X k fk)(hv:GE X v fv)(hr:DF X pos ks vs f):DF X pos (gV k::ks) (v::vs) (dw fk (dw fv f)):=λJ s Y H A Z S ws S' I er so e=>by
 unfold dw at e;split at e
 ·rename_i w1 S1 h1;split at e
  ·rename_i w2 S2 h2;cases e;split at h2
   ·rename_i w3 S3 h3;split at h2
    ·rename_i w4 S4 h4;cases h2;show pairTrees_cons_walk (bm (hk J s Y H (EndV X.w X.K A H S1 w1) I #[A,Z,S,_,_,er,so,h1,λ_ _ z=>z]) λu s1 #[x,H1,I1,r1,A1,e1,o1,z1]=>
      bm (hv J s1 Y H1 (EndV X.w X.K A1 H1 S3 w3) I1 #[A1,Z,S1,_,_,er.mono e1,o1,h3,λ_ _ z=>z]) λu2 s2 #[x2,H2,I2,r2,A2,e2,o2,z2]=>
      bm (hr J s2 Y H2 A2 Z S3 _ _ I2 (er.mono (e1.trans e2)) o2 h4) λvs' s3 #[ps,H3,I3,rel,A3,e3,o3,z3]=>?_)
     exact#[(x,x2)::ps,H3,I3,.cons #[r1,r2] rel,A3,e1.trans (e2.trans e3),o3,.cons (z1.mono (e2.trans e3)) (z2.mono e3) z3]
    ·cases h2
   ·cases h2
  ·cases e
 ·cases e
def lP {r:GJ}{d:GP}{E:GC->GF->Prop}(hu:X.A.units+10 < cLine):∀(vs:Gy (GC×GC)) (ps:Gy (V×V)) (ws:Gy W) (U U':Gy (T×W)) (s:GF) (H:Hp) (S:aa) (Q:PUnit->GF->Prop),
  Inv X J Y H s->StoreOk X.w X.K A H S->mL S r=gV U->A[r]?=gV d->RelP X.K A H ws ps->VV ps vs->dt U ws=gV U'->U.length+vs.length<=30->
  (∀s' H',Inv X J Y H' s'->Ext X.K A H A H'->StoreOk X.w X.K A H' (S.set r (.dic U'))->Q MX s')->
  wpAny (model X.prog X.w) X.A (forIn vs MX λ(x:GC×GC) (_:PUnit)=>(do dictSet d x.1 x.2; pure (IM MX):OQ (ForInStep PUnit))) Q E s
 | [],_,_,U,U',s,H,S,Q,I,so,hr,ea,rp,vv,e,hl,hq=>by
  cases vv;cases rp;cases e;rw[Mo];show GU (hq s H I .refl ?_);have hS:=hW hr;have:S.set r (.dic U)=S:=by
   apply Lu;intro j;rw[IS];split
   ·rename_i e; subst e
    split
    ·exact hS.symm
    ·rename_i h; exact absurd (G9.mp hS).1 h
   ·rfl
  rw[this]; exact so
 | (ku,vu)::vs,_,_,U,U',s,H,S,Q,I,so,hr,ea,rp,vv,e,hl,hq=>by
  cases vv with
  | cons hv vv2=>
   cases rp with
   | @cons wk wv va vb ws2 ps2 rk rv' rp2=>
    dsimp only[dt]at e;split at e
    ·rename_i t ht;rw[L1];obtain⟨xs,hH,kr⟩:=rn so hr ea;have dd0:=cr I (.inl hH);have dd:=dd0.dict I kr;obtain⟨bk,e1,e2,rkk⟩:=hG ht rk hv.1;have e2:ku=HM bk:=e2;subst e2;obtain⟨q1,q2,q3⟩:=dH ht;rw[HJ]at hl;have hz:xs.length<=sizeLine:=dd0.1;show GB (GB (wpAny_dictSet_heap (hsz:=hz) (show X.A.units+bf < cLine by unfold bf; omega) (iG I rkk q3) dd λh' dd' hs=>GU ?_))
     have kr':=kr.put q2 q3 rkk rv' hv.2;have hz':(storedH xs t bk vu).length<=sizeLine:=by
      rw[<- kr'.length];have h2:=cC U t wv;rw[HR];omega
     have dn:DicAt X.w d (storedH xs t bk vu) h':=.of hz' dd0.2.1 dd';obtain⟨so',ex⟩:=so.writeO (hW hr) rfl ea (u:=dO X.w d (storedH xs t bk vu)) (n:=.dic (d4 U t wv)) #[_,ba,kr'.mono (c9 (.ext hH))];have I':Inv X J Y (bH H d (dO X.w d (storedH xs t bk vu))) { s with heap:=h',toks:=s.toks+(cH X.prog X.w).draws t }:=mB I (by rw[hH]; exact KT) hs (let ⟨q,_,_,hq,_⟩:=dd'; #[q,hq]) dn.ok
     have hl':(S.set r (.dic (d4 U t wv)))[r]?=gV (.dic (d4 U t wv)):=by
      rw[IS,Hf rfl,Hf (G9.mp (hW hr)).1]
     show lP hu vs _ _ (d4 U t wv) U' _ _ _ Q I' so' (by unfold mL; rw[hl']) ea (rp2.mono ex) vv2 e (by have:=cC U t wv; omega) λs' H' I2 ex2 so2=>?_
     rw[List.set_set]at so2;exact hq s' H' I2 (ex.trans ex2) so2
    ·cases e
def zo {pos:Ju}:GE X (.Dict [] [] pos) Ai:=λJ s Y H Q I #[A,Z,S,w,S',er,so,e,hq]=>by
 cases e;have hn:=I.hok.fresh (GY s.heap.objs.size);have dn:DicAt X.w s.heap.objs.size [] (s.heap.push { cls:=.type "dict",data:=.dict #[] }):=#[IH _,Kj.mpr (Ne.symm (Ho I.big)),Mp,_,#[],0,Hb _ rfl,#[rfl,rfl,rfl],rfl,rfl];show wpAny_Dict_empty #[.ref s.heap.objs.size,_,I.laid (a:=s.heap.objs.size) (o:=dO X.w s.heap.objs.size []) (t':=s.toks) (λ_ _ q=>GN _ q) (GY _) dn.ok,rfl,hq _ _ #[A++[s.heap.objs.size],dP hn,so.pushO hn #[[],ba,.nil],.ref ?_]]
 rw[<- so.len]; simp
def zp {pos:Ju}{keys:Gy (GH Hh)}{values:Gy Hh}{f:FA}(hu:X.A.units+10 < cLine)(h:DF X pos keys values f)(hall:keys.all (·.isSome)=true)(hl:keys.length=values.length)(h0:keys≠[])(h15:keys.length<=15):GE X (.Dict keys values pos) (oG f):=by
 intro J s Y H Q I ⟨A,Z,S,w,S',er,so,e,hq⟩;unfold oG at e;split at e
 ·rename_i ws S1 h1;split at e
  ·rename_i hS1;split at e
   ·rename_i U hp;cases e;have hn:=I.hok.fresh (GY s.heap.objs.size);have dn:DicAt X.w s.heap.objs.size [] (s.heap.push { cls:=.type "dict",data:=.dict #[] }):=#[IH _,Kj.mpr (Ne.symm (Ho I.big)),Mp,_,#[],0,Hb _ rfl,#[rfl,rfl,rfl],rfl,rfl];have I1:=I.laid (a:=s.heap.objs.size) (o:=dO X.w s.heap.objs.size []) (h':=s.heap.push { cls:=.type "dict",data:=.dict #[] }) (t':=s.toks) (λ_ _ q=>GN _ q) (GY _) dn.ok
    have ex0:Ext X.K A H (A++[s.heap.objs.size]) (bH H s.heap.objs.size (dO X.w s.heap.objs.size [])):=dP hn;have so0:StoreOk X.w X.K (A++[s.heap.objs.size]) (bH H s.heap.objs.size (dO X.w s.heap.objs.size [])) (S++[.dic []]):=so.pushO hn #[[],ba,.nil];have hlen:=pairTrees_length keys values X.env pos hall hl;have hne:pairTrees keys values X.env pos≠[]:=λhe=>by
     rw[he]at hlen;exact h0 (JT.mp hlen.symm)
    rw[arm_eval_Dict,zip_pairTrees keys values X.env pos hall hl,dictDisplay_pairs _ hne ∅]
    show GB (KU (GB ?_));unfold subDict;show GB (OZ ?_);show GB (IC ?_);rw[Hf ∅]
    show GB (IP (wpAny_evalPairs_len (h J _ Y _ _ Z _ _ _ I1 (er.mono ex0) so0 h1)) (λvs s₁ h₁=>?_) λ_ _ e=>e)
    obtain⟨hvl,ps,H2,I2,vv,A2,ex2,so2,rp⟩:=h₁;show IC ?_;have ea:A2[S.length]?=gV s.heap.objs.size:=ex2.ad _ _ (by rw[<- so.len]; simp)
    show GB (lP hu vs ps ws [] U s₁ H2 S1 _ I2 so2 (by unfold mL; rw[hS1]) ea rp vv hp (by rw[IL]; omega) λs' H' I3 ex3 so3=>?_)
    exact GU (GU (GU #[.ref s.heap.objs.size,H',I3,rfl,hq _ _ #[A2,ex0.trans (ex2.trans ex3),so3,.ref ea]]))
   ·cases e
  ·cases e
 ·cases e
end
abbrev F9 (wd:HD)(a:GP)(o:IJ)(xs:Gy (T×GP×GC)):It:=
 #[λi H=>H a=gV (.frz o (dO wd a xs))/\i < xs.length,λi H x H'=>H'=H/\∃q,xs[i]?=gV q/\x=.ref q.2.1,λi H=>H a=gV (.frz o (dO wd a xs))/\xs.length<=i]
def tF {P:Ht}{w:HD}{K:GZ}{tg:Hh}(a it:GP){o:IJ}{es:HE Jd}{ep:GJ}{xs:Gy (T×GP×GC)}(hx:o.ExactDict)(hd:o.data=.dict es ep)(he:es.toList=xs.map (uW w)) :
  Turn P w K tg (F9 w a o xs) [it] it (λi h=>h.IsKeyIter it a i es.size ep) where
 mem:=by simp
 obj:=λi h st b hb=>by
  have e:b=it:=by simpa using hb
  subst e;obtain⟨o,e,c,d⟩:=st;exact#[o,e,λv z=>by rw[d]at z; cases z]
 keep:=λi h h' st k=>st.at λo e=>k it (by simp) o e
 item:=by
  intro X hP hw hK hc i J s Y H E I hf st hg;subst hP hw hK;obtain⟨hH,hi⟩:=hg;have ho:s.heap.get? a=gV o:=(show ObjOk X.prog X.w H s.heap a (.frz o (dO X.w a xs))from I.hok a _ hH).1
  have hl:es.size=xs.length:=by rw[<- Hn,he,Gz]
  have hi':i < es.size:=∅
  obtain⟨f0,f1,f2,f3,f4,f5⟩:=hf it (by simp)
  have hk:es[i].key=.ref (xs[i]).2.1:=by
   have:es.toList[i]?=gV (uW X.w xs[i]):=by rw[he,GM,G5 hi]; rfl
   rw[II,Kh hi']at this;have:=HV this;rw[this]; rfl
  show og st #[o,ho,hx,hd] hi' λh' st' sb=>?_
  have I1:Inv X J Y H { s with heap:=h' }:=I.turned (t':=s.toks) (λb o hb e=>(sb.2 b hb).trans e) f0 f1 f3 f4 f5
  obtain⟨o',e,c,d⟩:=id st';exact#[_,rfl,qT (s:={ s with heap:=h' }) e c d #v[] #[.ref (xs[i]).2.1,H,I1,hk,#[rfl,xs[i],G5 hi,rfl],st',λb hb=>(hf b hb).1]]
 done:=by
  intro X hP hw hK hc i J s Y H E I hf st hg;subst hP hw hK;obtain⟨hH,hi⟩:=hg;have ho:s.heap.get? a=gV o:=(show ObjOk X.prog X.w H s.heap a (.frz o (dO X.w a xs))from I.hok a _ hH).1
  have hl:es.size=xs.length:=by rw[<- Hn,he,Gz]
  obtain⟨f0,f1,f2,f3,f4,f5⟩:=hf it (by simp)
  exact rs (I.ok.hd hc) st #[o,ho,hx,hd] ∅ λh' eb=>#[rfl,I.turned (t':=s.toks) (λb o hb e=>eb b o hb e) f0 f1 f3 f4 f5]
 self:=λ_ _ _ _ _ st h=>Ml st h
abbrev eu (f:FE):FI:=λZ S=>match f Z S with
 | some (.tup ws,S1)=>gV (.its ws,S1)
 | some (.ref r,S1)=>match gN S1 r with
  | some _=>gV (.live r,S1)
  | none=>match jx S1 r with
   | some U=>gV (.its (U.map λp=>p.1.w),S1.set r (.frd U))
   | none=>td
 | _=>td
section
variable{X:Cx}{J:Gy (GP×IJ)}{Y:L2.St}{H:Hp}{s:GF}{A:Gy GP}{S:aa}
def vO {a:GP}{o:IJ}{U:Gy (T×W)}{xs:Gy (T×GP×GC)}(hH:H a=gV (.frz o (dO X.w a xs)))(kr:KRel X.K A H U xs):MIt X.w X.K (.its (U.map λp=>p.1.w)) (F9 X.w a o xs) A H:=by
 show#[λA' H' S i w e so hi=>?_,λA' H' S i e so hi=>?_]
 ·simp only[MI.at,Hx]at hi;obtain⟨v,h1,h2⟩:=((kr.mono e).keysL).get hi;rw[GM,GD]at h1;obtain⟨q,q1,q2⟩:=h1;show#[#[e.fz _ _ _ hH,(G9.mp q1).1],λx H2 #[z1,q',z2,z3]=>?_]
  subst z1 z3;rw[q1]at z2; cases z2
  exact#[.refl,so,by rw[q2]; exact h2]
 ·simp only[MI.at,Hx]at hi;show#[e.fz _ _ _ hH,?_];have:=IW.mp hi;rw[Gz,kr.length]at this;exact this
def zq {tg l:Hh}{f:FE}(h:GE X l f):GI X tg l (eu f):=by
 intro J s Y H R I ⟨A,Z,S,mi,S',er,so,e,hq⟩
 by_cases hd:∃r S1 U,f Z S=gV (.ref r,S1)/\gN S1 r=td/\jx S1 r=gV U
 ·obtain⟨r,S1,U,h1,h2,h3⟩:=hd;simp only[eu,h1,h2,h3]at e;cases e;show bm (h J s Y H (EndV X.w X.K A H S1 (.ref r)) I #[A,Z,S,_,_,er,so,h1,λ_ _ z=>z]) λv s1 #[x,H1,I1,r1,A1,e1,o1,z1]=>?_
  cases z1 with
  | @ref _ a ea=>
   obtain rfl:v=HM a:=r1;have fz:∃o xs H2,Inv X J Y H2 s1/\Ext X.K A1 H1 A1 H2/\StoreOk X.w X.K A1 H2 (S1.set r (.frd U))/\H2 a=gV (.frz o (dO X.w a xs))/\KRel X.K A1 H2 U xs:=by
    unfold jx at h3;split at h3
    ·rename_i k hk;cases h3;obtain⟨xs,hH,kr⟩:=o1.obj r _ a hk ea;have d:=cr I1 (.inl hH);obtain⟨_,_,_,o,es,ep,q1,q2,q3,q4⟩:=id d;obtain⟨so',ex⟩:=o1.writeO hk rfl ea (u:=.frz o (dO X.w a xs)) (n:=.frd U) #[o,xs,ba,kr.mono (c9 (.ext hH))];exact#[o,xs,_,mB (h':=s1.heap) (t':=s1.toks) (ob:=.frz o (dO X.w a xs)) I1 (by rw[hH]; exact KT) (Pk _ _) #[o,q1] #[q1,d.ok],ex,so',ba,kr.mono ex]
    ·rename_i k hk;cases h3;obtain⟨o,xs,hH,kr⟩:=o1.obj r _ a hk ea;have:S1.set r (.frd U)=S1:=by
      apply Lu;intro j;rw[IS];split
      ·rename_i e; subst e
       split
       ·exact hk.symm
       ·rename_i h; exact absurd (G9.mp hk).1 h
      ·rfl
     rw[this];exact#[o,xs,H1,I1,.refl,o1,hH,kr]
    ·cases h3
   obtain⟨o,xs,H2,I2,ex,so2,hH,kr⟩:=fz;have d:=cr I2 (.inr #[o,hH]);have ho:s1.heap.get? a=gV o:=(show ObjOk X.prog X.w H2 s1.heap a (.frz o (dO X.w a xs))from I2.hok a _ hH).1
   obtain⟨_,hsm,_,o',es,ep,q1,q2,q3,q4⟩:=id d;rw[ho]at q1;cases q1;show n8 hsm #[o,ho,q2,q3] ?_;show#[s1.heap.objs.size,[s1.heap.objs.size],_,_,H2,rfl,I2.kept (t':=s1.toks) λb o e=>GN _ e,tF a _ q2 q3 q4,#[_,Hb _ rfl,rfl,rfl],λb hb=>?_,hq _ _ A1 (e1.trans ex) so2 (vO hH kr)]
   have e:b=s1.heap.objs.size:=by simpa using hb
   subst e;exact I2.fpOk (GY _) (I2.hok.fresh (GY _))
 ·have:eu f Z S=zb f Z S:=by
   unfold eu zb;cases hf:f Z S with
   | none=>rfl
   | some p=>
    obtain⟨w,S1⟩:=p;cases w with
    | ref r=>
     cases h2:gN S1 r with
     | some _=>simp only[h2]
     | none=>
      cases h3:jx S1 r with
      | none=>simp only[h2,h3]
      | some U=>exact absurd #[r,S1,U,hf,h2,h3] hd
    | _=>rfl
  rw[this]at e;exact BV h J s Y H R I #[A,Z,S,mi,S',er,so,e,hq]
end
section
variable{tx:OP}{A:Hz}{E:GC->GF->Prop}{s:GF}
def oH {scope:JU}{g:GP}{cl:Gy (Hc×GP)}{qual:Hc}{outer:MO}{Q:MO->GF->Prop}
  (h:Q (newEnv scope s.heap.objs.size g (cellsFrom (s.heap.objs.size+1) scope.names cl) qual td .none (gV outer) builtinsNs) { s with heap:=pushCells (s.heap.push { cls:=.type "dict",data:=.dict #[] }) scope.names }) :
  wpAny tx A (newFunctionEnv scope g cl [] qual td .none (gV outer)) Q E s:=by
 simp only[newFunctionEnv,Option.isSome_some,JE];show GB (OZ ?_);show GB (wpAny_layCells _ (λname kind cells=>by cases hkc:kind==J1 <;> simp[hkc]) _ _ _ _ ?_)
 rw[show({ s with heap:=s.heap.push { cls:=.type "dict",data:=.dict #[] } }:GF).heap.objs.size=s.heap.objs.size+1 from KJ ..]
 rw[Mo];exact GB (GU (GU h))
def vP {names:Gy (Hc×Iz)}{h2:HP}:(pushCells (h2.push { cls:=.type "dict",data:=.dict #[] }) names).Ns h2.objs.size (λ_=>td):=
 Heap.Ns.keeps (h:=h2.push { cls:=.type "dict",data:=.dict #[] }) #[_,#[],0,Hb _ rfl,rfl,by simp[StrKeys],λ_=>rfl] (L7 names _)
def eI:∀(names:Gy (Hc×Iz)) (m:GJ) (acc:Gy (Hc×GP)) {x:Hc} {c:GP},(cellsFrom m names acc).lookup x=gV c->
  (acc.lookup x=gV c/\(x,J1)∉names)\/(m<=c/\(x,J1)∈names/\∀h:HP,h.objs.size=m->(pushCells h names).IsCell c td)
 | [],_,_,_,_,hm=>.inl #[hm,λz=>nomatch z]
 | (name,kind)::r,m,acc,x,c,hm=>by
  unfold cellsFrom at hm;split at hm
  ·rename_i hk;have hc:kind=.cell:=eq_of_beq hk;subst hc;rcases eI r _ _ hm with⟨z,zn⟩|⟨z1,z2,z3⟩
   ·rw[Ig]at z;split at z
    ·rename_i e;cases z;have:=eq_of_beq e;subst this;show .inr #[GY _,HU,λh e=>?_]
     subst e;exact(show(h.push { cls:=.type "cell",data:=.cell td }).IsCell h.objs.size td from#[_,Hb _ rfl,rfl]).keeps (L7 r _)
    ·rename_i e;show .inl #[z,λy=>?_]
     rcases Hj.mp y with y|y
     ·cases y; simp at e
     ·exact zn y
   ·show .inr #[Nat.le_of_succ_le z1,HC _ z2,λh e=>?_]
    exact z3 _ (by rw[KJ,e])
  ·rename_i hk;rcases eI r _ _ hm with⟨z,zn⟩|⟨z1,z2,z3⟩
   ·show .inl #[z,λy=>?_]
    rcases Hj.mp y with y|y
    ·cases y; exact hk rfl
    ·exact zn y
   ·show .inr #[z1,HC _ z2,λh e=>?_]
    unfold pushCells;rw[Hl hk];exact z3 h e
def iM:∀(names:Gy (Hc×Iz)) (m:GJ) (acc:Gy (Hc×GP)),(∀x c,acc.lookup x=gV c->c < m)->(∀x y c,acc.lookup x=gV c->acc.lookup y=gV c->x=y)->
  ∀x y c,(cellsFrom m names acc).lookup x=gV c->(cellsFrom m names acc).lookup y=gV c->x=y
 | [],_,_,_,h=>h
 | (name,kind)::r,m,acc,hl,h=>by
  unfold cellsFrom;split
  ·show iM r (m+1) _ (λx c e=>?_) λx y c e1 e2=>?_
   ·rw[Ig]at e;split at e
    ·cases e; exact Jn _
    ·exact KL (hl x c e)
   ·rw[Ig]at e1 e2;split at e1 <;> split at e2
    ·rename_i _ z1 _ z2;rw[eq_of_beq z1,eq_of_beq z2]
    ·cases e1;exact absurd (hl y _ e2) (Il _)
    ·cases e2;exact absurd (hl x _ e1) (Il _)
    ·exact h x y c e1 e2
  ·exact iM r m acc hl h
def iN:∀(names:Gy (Hc×Iz)) (m:GJ) (acc:Gy (Hc×GP)) {n:Hc},(n,J1)∈names\/(∃c,acc.lookup n=gV c)->∃c,(cellsFrom m names acc).lookup n=gV c
 | [],_,_,_,h=>h.elim (λz=>nomatch z) id
 | (name,kind)::r,m,acc,n,h=>by
  unfold cellsFrom;split
  ·show iN r (m+1) _ ?_;rw[Ig];split
   ·exact .inr #[_,rfl]
   ·rename_i e;rcases h with z|z
    ·rcases Hj.mp z with y|y
     ·cases y; simp at e
     ·exact .inl y
    ·exact .inr z
  ·rename_i hk;show iN r m acc ?_;rcases h with z|z
   ·rcases Hj.mp z with y|y
    ·cases y; exact absurd rfl hk
    ·exact .inl y
   ·exact .inr z
end
abbrev bA (mi:MI)(g:FG)(c:FT)(f:FE):GJ->GJ->Fm->aa->GH (Gy W×aa)
 | 0,i,_,S=>match mi.at S i with
  | some td=>gV ([],S)
  | _=>td
 | n+1,i,Z,S=>match mi.at S i with
  | some (gV w)=>match g w Z S with
   | some (Z1,S1)=>match c Z1 S1 with
    | some (true,S2)=>match f Z1 S2 with
     | some (y,S3)=>match bA mi g c f n (i+1) Z1 S3 with
      | some (ys,S4)=>gV (y::ys,S4)
      | none=>td
     | none=>td
    | some (false,S2)=>bA mi g c f n (i+1) Z1 S2
    | none=>td
   | none=>td
  | _=>td
abbrev d7 (cap:Gy (GH GJ))(Z:Fm):Fm:=cap.map λo=>match o with
 | some j=>(Z[j]?).join
 | none=>td
abbrev kh (fi:FI)(g:FG)(c:FT)(f:FE)(cap:Gy (GH GJ)):FE:=λZ S=>match fi Z S with
 | some (mi,S1)=>match mi.len S1 with
  | some n=>match bA mi g c f n 0 (d7 cap Z) S1 with
   | some (ys,S2)=>la S2 ys
   | none=>td
  | none=>td
 | none=>td
abbrev Aj:FT:=λ_ S=>gV (true,S)
abbrev kY (X:Cx)(scope:JU)(cl:Gy (Hc×GP))(C:GP)(N:Gy Hc)(s0:GF)(H0:Hp)(ex:Gy GP):Cx:=
 { X with env:=compEnvC scope (cellsFrom (C+1) scope.names cl) C X.env,N:=N,s₀:=s0,H₀:=H0,outer:=X.stack,stack:=X.stack,ex:=ex,fn:=λx=>scope.names.any λy=>y.1==x&&y.2==.cell,pn:=[],xe:=λ_ _=>Ip }
structure CompOk (X:Cx)(scope:JU)(cl:Gy (Hc×GP))(N:Gy Hc)(cap:Gy (GH GJ)):Prop where
 clos:closureFor scope X.env=pure cl
 kind:scope.kind=.function
 names:∀y∈scope.names,y.2=.local->scope.names.lookup y.1=gV .local
 sub:∀x c,cl.lookup x=gV c->X.env.cells.lookup x=gV c
 has:∀m x,((relabel scope X.env).names.lookup x=gV .cell\/(relabel scope X.env).names.lookup x=gV .free)->∃c,(cellsFrom m scope.names cl).lookup x=gV c
 len:cap.length=N.length
 cap:∀(i j:GJ) (x:Hc),cap[i]?=gV (gV j)->N[i]?=gV x->X.N[j]?=gV x/\(X.env.kindOf x=gV .cell\/X.env.kindOf x=gV .free)/\((relabel scope X.env).names.lookup x=gV .cell\/(relabel scope X.env).names.lookup x=gV .free)/\(x,J1)∉scope.names
def CompOk.of {X:Cx}{scope:JU}{cl:Gy (Hc×GP)}{N:Gy Hc}{cap:Gy (GH GJ)}(ck:CompOk X scope cl N cap){m:GJ}{x:Hc}{c:GP}(z:(cellsFrom m scope.names cl).lookup x=gV c):X.env.cells.lookup x=gV c\/m<=c:=
 (eI _ _ _ z).elim (λq=>.inl (ck.sub x c q.1)) λq=>.inr q.1
def gB {prog:Ht}{w:HD}{A:Hz}{R:Ny->GF->Prop}{s:GF}{elt target iter:Hh}{ifs:Gy Hh}{scope:JU}{pos:Ju}{it acc:GC}{env:MO}(I:GJ->GF->Prop)
    (turn:∀n s,I n s->wpAny (model prog w) A (pyNext it) (λr s₁=>match r with
      | none=>R (.ok .next) s₁
      | some v=>wpAny (model prog w) A (letOwnedTupleGo target it v) (λ_ s₁=>wpAny (model prog w) A (assign target env v) (λ_ s₂=>
          wpAny (model prog w) A (forIn ifs true λc r=>if r=true then do let ok <- isTrue c env (eval c env); pure (IM ok)else pure (IM r)) (λok s₃=>
            if ok=true then wpAny (model prog w) A (eval elt env) (λx s₄=>
              wpAny (model prog w) A (call (.builtin "list.append") [acc,x]) (λ_ s₅=>∃m,m < n/\I m s₅) (λ_ _=>Ip) s₄) (λ_ _=>Ip) s₃
            else ∃m,m < n/\I m s₃) (λ_ _=>Ip) s₂) (λ_ _=>Ip) s₁) (λ_ _=>Ip) s₁) (λ_ _=>Ip) s)
    (n:GJ) (h:I n s) :
    codeAny (model prog w) A (.compLoop (.ListComp elt [#[target,iter,ifs,0]] scope pos) 0 it acc env) R s:=by
  show codeAny_loop rfl I (λn s hI=>?_) n h
  change wpAny _ A ((compTurn (.ListComp elt [#[target,iter,ifs,0]] scope pos) 0 it acc env).onRaise (λx=>do noteFrame x env; theTreesLotGoes x)) _ _ s
  show wpAny_noted ?_;rw[compTurn_list];show GB (KU (GB (IP (turn n s hI) (λr s₁ h₁=>?_) λ_ _ h'=>h'.elim)))
  cases r with
  | none=>exact GU h₁
  | some v=>
    show GB (IP h₁ (λ_ s₁ h₁=>?_) λ_ _ h'=>h'.elim)
    show GB (IP h₁ (λ_ s₂ h₂=>GB (IP h₂ (λok s₃ h₃=>?_) λ_ _ h'=>h'.elim)) λ_ _ h'=>h'.elim)
    cases ok with
    | false=>exact GU #[rfl,h₃]
    | true=>
      exact GB (GB (IP h₃ (λx s₄ h₄=>GB (IP h₄ (λ_ s₅ h₅=>GU (GU #[rfl,h₅])) λ_ _ h'=>h'.elim)) λ_ _ h'=>h'.elim))
section
variable{X:Cx}{J:Gy (GP×IJ)}{Y:L2.St}{H:Hp}{s:GF}
def Inv.adopt {D:GP}{o:HO}(I:Inv X J Y H s)(hn:H D=td)(h1:D∈X.ex\/X.s₀.heap.objs.size<=D)(hL:D≠X.env.locals)(h2:∀x c,X.env.cells.lookup x=gV c->c≠D)(h3:∀p∈X.pn++J,p.1≠D)
  (new:ObjOk X.prog X.w (bH H D o) s.heap D o):Inv X J Y (bH H D o) s:=by
 have nit:∀b u,H b=gV u->b≠D:=λb u e z=>by rw[z,hn]at e; cases e
 have key:Inv X J Y (bH H D o) { s with heap:=s.heap,gens:=s.gens,drawn:=s.drawn,toks:=s.toks }:=by
  show I.step (g':=s.gens) (d':=s.drawn) (t':=s.toks) (h':=s.heap) (ch:=[D]) (λb hb=>?_) (λb o _ _ hc e _=>e) (λb o _ _ hc e _=>#[o.slots,e]) (λb o hc e n=>?_)
   (λb o hc e=>#[o,e]) (λb xs e=>?_) (λb o xs e=>?_) (λb ps e=>#[#[],?_]) (λm hm=>hm) (λb u e=>?_) I.bare
  ·have e:b=D:=by simpa using hb
   subst e;exact#[h1,hL,h2,h3]
  ·rw[aG (λz=>hc (by simp[z]))]; exact n
  ·rw[aG (nit b _ e)]; exact e
  ·rw[aG (nit b _ e)]; exact e
  ·rw[aG (nit b _ e),e]; simp
  ·by_cases hb:b=D
   ·subst hb; rw[ba]at e; cases e; exact new
   ·rw[aG hb]at e;show(I.hok b u e).stay (λc v hc q=>q) (λc q=>?_) λc xs q=>?_
    ·rw[aG (nit c _ q)]; exact q
    ·rw[aG (nit c _ q)]; exact q
 exact key
def BZ {scope:JU}{cl:Gy (Hc×GP)}{N:Gy Hc}{cap:Gy (GH GJ)}{C:GP}{s0:GF}{ex:Gy GP}(I:Inv X J Y H s)(ck:CompOk X scope cl N cap)(hs:s.heap.objs.size<=s0.heap.objs.size)(hC:s0.heap.objs.size<=C)(hlt:∀x c,X.env.cells.lookup x=gV c->c < C+1)
  (hk:∀b o,s.heap.get? b=gV o->s0.heap.get? b=gV o) (hex:∀b∈ex,(b < C)/\(∀x c,X.env.cells.lookup x=gV c->c≠b)/\(∀o,X.base.get? b≠gV o)/\b∉pO X.stack) :
  (kY X scope cl C N s0 H ex).Ok where
 mod:=I.ok.mod
 kind:=ck.kind
 glob:=I.ok.glob
 blt:=I.ok.blt
 above:=hC
 inj:=iM scope.names (C+1) cl (λx c h=>hlt x c (ck.sub x c h)) λx y c h1 h2=>I.ok.inj x y c (ck.sub x c h1) (ck.sub y c h2)
 has:=λx h=>ck.has _ x h
 cab:=λx c h hc=>by
  obtain⟨⟨y,k⟩,hy,e⟩:=NH.mp h;rw[GK]at e;have e1:y=x:=eq_of_beq e.1;have e2:k=.cell:=eq_of_beq e.2;subst e1 e2;rcases eI _ _ _ hc with q|q
  ·exact absurd hy q.2
  ·exact HB hC (HB (JV _) q.1)
 hd:=I.ok.hd
 frames:=I.ok.frames
 stk:=.inl rfl
 exf:=λb hb=>#[Ho (hex b hb).1,λx c h=>(ck.of h).elim (λq=>(hex b hb).2.1 x c q) λq z=>absurd (Hq (KL (hex b hb).1) q) (z ▸ Il _)]
 bs:=λb o e=>#[hk b o (I.bk b o e),(I.bs b o e).2]
 bsz:=HB (HB I.ok.bsz I.sz) hs
 noex:=λb o e hb=>(hex b hb).2.2.1 o e
 exfs:=λb hb=>(hex b hb).2.2.2
 funs:=I.stack.of_keeps λb o e _=>#[o,hk b o e,rfl]
 frf:=I.stkFree
structure BlockOk (X:Cx)(scope:JU)(cl:Gy (Hc×GP))(N:Gy Hc)(tg elt:Hh)(ifs:Gy Hh)(g:FG)(c:FT)(f:FE):Prop where
 tgt:∀C s0 H0 ex,GG (kY X scope cl C N s0 H0 ex) tg g
 tst:∀C s0 H0 ex J s Y H Q,Inv (kY X scope cl C N s0 H0 ex) J Y H s->tT (kY X scope cl C N s0 H0 ex) c Y H Q->
  wpAny (model X.prog X.w) X.A (forIn ifs true λc r=>if r=true then do let ok <- isTrue c (compEnvC scope (cellsFrom (C+1) scope.names cl) C X.env) (eval c (compEnvC scope (cellsFrom (C+1) scope.names cl) C X.env)); pure (IM ok)else pure (IM r)) (TP (kY X scope cl C N s0 H0 ex) J Y Q) (λ_ _=>Ip) s
 elt:∀C s0 H0 ex,GE (kY X scope cl C N s0 H0 ex) elt f
def mX {prog:Ht}{w:HD}{B:Hz}{s:GF}{E:GC->GF->Prop}{Q:GC->GF->Prop}{D:GP}{its:Gy GC}{n:GJ}{u:GC}(e:s.heap.get? D=gV { cls:=.type "list",data:=.seq its.toArray n })(hz:its.length < sizeLine)
  (h:∀h' n',h'.get? D=gV { cls:=.type "list",data:=.seq (its++[u]).toArray n' }->(∀b o,b≠D->s.heap.get? b=gV o->h'.get? b=gV o)->Q .none { s with heap:=h' }) :
  wpAny (model prog w) B (call (.builtin "list.append") [.ref D,u]) Q E s:=by
 show Ku F.slot_list_append #[_,e,rfl] F.entry_list_append (F.args_list_append_2 _ _) (Nd D its.toArray n u (by rw[G6]; omega)) #[e,?_]
 have q:=NC e (λa=>a.push u)
 have e2:its.toArray.push u=(its++[u]).toArray:=by simp
 rw[e2]at q;exact h _ _ q (λb o hb ho=>(Ic s.heap (IA λa=>a.push u) (Ne.symm hb)).trans ho)
def lQ {scope:JU}{cl:Gy (Hc×GP)}{N:Gy Hc}{cap:Gy (GH GJ)}{tg elt iter:Hh}{ifs:Gy Hh}{g:FG}{c:FT}{f:FE}{pos:Ju}{A:Gy GP}{Z:Fm}{S S':aa}{mi:MI}{n:GJ}{ws:Gy W}{E:GC->GF->Prop}
  {it:GP} {fp:Gy GP} {tn:GJ->HP->Prop} {tv:It} {RR:GC->GP->Ny->GF->Prop}
  (I:Inv X J Y H s) (hc:X.calm=true) (er:EnvRel X.K A H Z Y) (so:StoreOk X.w X.K A H S) (ck:CompOk X scope cl N cap) (bk:BlockOk X scope cl N tg elt ifs g c f)
  (T:Turn X.prog X.w X.K tg tv fp it tn) (t0:tn 0 s.heap) (hfp:∀b∈fp,iB X J H b) (mit:MIt X.w X.K mi tv A H) (e:bA mi g c f n 0 (d7 cap Z) S=gV (ws,S')) (hz:ws.length<=sizeLine)
  (fin:∀D C s' H' A' vs m,s'.heap.Ns C m->H' D=td->D≠C->C≠X.env.locals->C∉X.fs->H' C=td->X.s₀.heap.objs.size<=C->(∀x c,X.env.cells.lookup x=gV c->c≠C)->(∀p∈X.pn++J,p.1≠C)->
   Inv X J Y (bH H' D (.lst vs)) s'->Ext X.K A H A' H'->StoreOk X.w X.K A' H' S'->RelL X.K A' H' ws vs->RR (.ref D) C (.ok .next) s') :
  wpAny (model X.prog X.w) X.A (newList []) (λacc s₃=>wpAny (model X.prog X.w) X.A (newFunctionEnv scope X.env.globals cl [] X.env.qual td .none (gV X.env)) (λcenv s₄=>
   codeAny (model X.prog X.w) X.A (.compStart (.ListComp elt [#[tg,iter,ifs,0]] scope pos) 0 (.ref it) acc { cenv with scope:=relabel scope X.env }) (RR acc cenv.locals) s₄) E s₃) E s:=by
 show HQ (oH ?_);dsimp only;generalize hH2:s.heap.push { cls:=.type "list",dict:=td,data:=.seq ([]:Gy GC).toArray }=h2;obtain⟨h₁,hh₁⟩ : ∃h₁,h₁=pushCells (h2.push { cls:=.type "dict",data:=.dict #[] }) scope.names:=#[_,rfl];rw[<- hh₁];have hns₁:=vP (names:=scope.names) (h2:=h2);rw[<- hh₁]at hns₁;have hCs:h2.objs.size=s.heap.objs.size+1:=by rw[<- hH2,KJ]
 have k2:∀b o,s.heap.get? b=gV o->h2.get? b=gV o:=λb o z=>hH2 ▸ GN _ z
 have lt2:∀b o,h2.get? b=gV o->b < h2.objs.size:=λb o z=>Hd z
 have k1:∀b o,h2.get? b=gV o->h₁.get? b=gV o:=λb o z=>hh₁ ▸ L7 _ _ b o (GN _ z)
 have hD2:h2.get? s.heap.objs.size=gV { cls:=.type "list",data:=.seq ([]:Gy GC).toArray }:=hH2 ▸ Hb _ rfl;have hDC:s.heap.objs.size≠h2.objs.size:=by rw[hCs]; omega
 have fresh:∀a,s.heap.objs.size<=a->H a=td:=λa ha=>I.hok.fresh ha
 have cellLt:∀x c,X.env.cells.lookup x=gV c->c < s.heap.objs.size:=λx c z=>let ⟨_,q⟩:=I.cell x c z; q.lt
 have fpLt:∀b∈fp,b < s.heap.objs.size:=λb hb=>let ⟨_,q,_⟩:=T.obj 0 s.heap t0 b hb; Hd q
 have stkLt:∀b∈pO X.stack,b < s.heap.objs.size:=λb hb=>let ⟨_,o,q,_⟩:=I.stack.mem hb; Hd q
 have baseLt:∀b o,X.base.get? b=gV o->b < s.heap.objs.size:=λb o z=>Hd (I.bk b o z)
 have fpStk:∀b∈fp,b∉pO X.stack:=λb hb z=>by
  rcases Hj.mp (I.stkSub b z)with q|q
  ·exact(hfp b hb).2.1 q
  ·exact(hfp b hb).2.2.1 q
 have fpBase:∀b∈fp,∀o,X.base.get? b≠gV o:=λb hb o z=>by
  rcases(hfp b hb).2.2.2.1 with q|q
  ·exact I.ok.noex b o z q
  ·exact absurd (Hq (Hd (I.ok.bs b o z).1) q) (Il _)
 have ltD:∀ {b:GP},b < s.heap.objs.size->b < h2.objs.size:=λhb=>by rw[hCs]; exact KL hb
 have ltC:∀ {b:GP},b < s.heap.objs.size->b≠h2.objs.size:=λhb=>Ho (ltD hb)
 have ownNe:∀ {b c:GP},b<=s.heap.objs.size->h2.objs.size+1<=c->c≠b:=λhb hc=>JC (Lg hb (Hq (by rw[hCs]; omega:s.heap.objs.size < h2.objs.size+1) hc))
 let s3:GF:={ s with heap:=h2 }
 have ok':(kY X scope cl h2.objs.size N s3 H (fp++[s.heap.objs.size])).Ok:=by
  show BZ I ck (show s.heap.objs.size<=h2.objs.size by rw[hCs]; omega) (GY _) (λx c z=>KL (ltD (cellLt x c z))) k2 λb hb=>?_
  rcases HF.mp hb with hb|hb
  ·exact#[ltD (fpLt b hb),(hfp b hb).2.2.2.2.1,fpBase b hb,fpStk b hb]
  ·have eb:b=s.heap.objs.size:=by simpa using hb
   subst eb;exact#[(by rw[hCs]; exact Jn _),λx c z=>Ho (cellLt x c z),λo z=>Il _ (baseLt _ o z),λz=>Il _ (stkLt _ z)]
 obtain⟨m0,hn0,hl0⟩:=I.loc;have I0:Inv (kY X scope cl h2.objs.size N s3 H (fp++[s.heap.objs.size])) [] (cap.map λo=>match o with|some j=>(Y[j]?).join|none=>td) H { s3 with heap:=h₁ }:=by
  show#[ok',rfl,I.bare,Un.kept k1,#[_,hns₁,λi x v e1 e2 e3=>?_],λx cc z=>?_,fresh _ (show s.heap.objs.size<=h2.objs.size by rw[hCs]; exact JV _),λx cc z=>(ck.of z).elim (I.freeC x cc) λq=>fresh _ (show s.heap.objs.size<=cc by omega),λp hp=>absurd hp (by simp[kY]),(I.hok.kept k2).kept k1,by rw[Gz]; exact ck.len]
  ·rw[GM]at e2;cases q:cap[i]? with
   | none=>rw[q]at e2; cases e2
   | some oj=>
    rw[q]at e2;cases oj with
    | none=>cases e2
    | some j=>
     obtain⟨z1,z2,z3,z4⟩:=ck.cap i j x q e1;have e2':(Y[j]?).join=gV v:=by simpa using e2
     have e2'':Y[j]?=gV (gV v):=by
      cases r:Y[j]? with
      | none=>rw[r]at e2'; cases e2'
      | some y=>rw[r]at e2'; exact congrArg gV e2'
     obtain⟨u,ru,lk⟩:=hl0 j x v z1 e2'' (by
      rcases z2 with z|z
      ·exact .inr (.inl z)
      ·exact .inr (.inr z))
     show#[u,ru,?_];rcases lk with⟨zk,_⟩|⟨_,cc,zc,zi⟩
     ·rcases z2 with z|z <;> (rw[zk]at z; cases z)
     ·obtain⟨c2,hc2⟩:=ck.has (h2.objs.size+1) x z3;have:=(eI _ _ _ hc2).elim (λq=>ck.sub x c2 q.1) λq=>absurd q.2.1 z4
      rw[zc]at this; cases this
      show .inr #[z3,cc,hc2,?_];obtain⟨o,ho,hd⟩:=zi;exact#[o,k1 _ _ (k2 _ _ ho),hd]
  ·rcases eI _ _ _ z with q|q
   ·obtain⟨v,o,ho,hd⟩:=I.cell x cc (ck.sub x cc q.1);exact#[v,o,k1 _ _ (k2 _ _ ho),hd]
   ·exact#[td,hh₁ ▸ q.2.2 _ (KJ ..)]
 have er0:EnvRel X.K A H (d7 cap Z) (cap.map λo=>match o with|some j=>(Y[j]?).join|none=>td):=by
  show#[by simp[d7],λi w q=>?_]
  unfold d7 at q;rw[GM]at q ⊢;cases r:cap[i]? with
  | none=>rw[r]at q; cases q
  | some oj=>
   rw[r]at q;cases oj with
   | none=>cases q
   | some j=>
    have q':(Z[j]?).join=gV w:=by simpa using q
    have q'':Z[j]?=gV (gV w):=by
     cases z:Z[j]? with
     | none=>rw[z]at q'; cases q'
     | some y=>rw[z]at q'; exact congrArg gV q'
    obtain⟨v,z1,z2⟩:=er.2 j w q'';exact#[v,by simp[z1],z2]
 have t1:tn 0 h₁:=T.keep 0 s.heap h₁ t0 λb hb o z=>k1 b o (k2 b o z)
 have fpOk':∀ {H':Hp} {pp:Gy (GP×IJ)},(∀b∈fp,H' b=td)->(∀p∈pp,p.1=s.heap.objs.size)->∀b∈fp,iB (kY X scope cl h2.objs.size N s3 H (fp++[s.heap.objs.size])) pp H' b:=λhn hp b hb=>
  #[hn b hb,ltC (fpLt b hb),fpStk b hb,.inl (Ja _ hb),λx cc z=>(ck.of z).elim (λq=>(hfp b hb).2.2.2.2.1 x cc q) (ownNe (Kb (fpLt b hb))),λp hpp=>by
   rw[hp p (by simpa [kY]using hpp)]
   exact(Ho (fpLt b hb)).symm]
 have DinEx:s.heap.objs.size∈fp++[s.heap.objs.size]:=Hw _ (by simp)
 have cellD:∀x c,(cellsFrom (h2.objs.size+1) scope.names cl).lookup x=gV c->c≠s.heap.objs.size:=λx cc z=>(ck.of z).elim (λq=>Ho (cellLt x cc q)) (ownNe (GY _))
 have fpD:∀b∈fp,b≠s.heap.objs.size:=λb hb=>Ho (fpLt b hb)
 have theEnd:∀s' Y' H' A' vs its nn,Inv (kY X scope cl h2.objs.size N s3 H (fp++[s.heap.objs.size])) [] Y' H' s'->s'.heap.get? s.heap.objs.size=gV { cls:=.type "list",data:=.seq its nn }->∀(hits:∃l:Gy GC,its=l.toArray/\Vals vs l),H' s.heap.objs.size=td->Ext X.K A H A' H'->StoreOk X.w X.K A' H' S'->RelL X.K A' H' ws vs->
   RR (.ref s.heap.objs.size) h2.objs.size (.ok .next) s':=by
  intro s' Y' H' A' vs its nn I' hD hits hDn ex so' rl;obtain⟨l,rfl,rv⟩:=hits;obtain⟨m,hn,_⟩:=id I'.loc;have un:Un (pO X.stack) (fp++[s.heap.objs.size]) H H' s.heap s'.heap:=(Un.kept k2).trans I'.base;have hch:∀b∈fp++[s.heap.objs.size],(b∈X.ex\/X.s₀.heap.objs.size<=b)/\b≠X.env.locals/\(∀x c,X.env.cells.lookup x=gV c->c≠b)/\∀p∈X.pn++J,p.1≠b:=λb hb=>by
   rcases HF.mp hb with hb|hb
   ·exact#[(hfp b hb).2.2.2.1,(hfp b hb).2.1,(hfp b hb).2.2.2.2.1,(hfp b hb).2.2.2.2.2]
   ·have eb:b=s.heap.objs.size:=by simpa using hb
    subst eb;exact#[.inr I.sz,(Ho I.lt).symm,λx cc z=>Ho (cellLt x cc z),λp hp=>Ho (Hd (I.pin p hp).1)]
  have I2:Inv X J Y H' s':=I.call' (show s'.os=s.os from I'.os) un I'.hok I'.bare hch
  have I3:Inv X J Y (bH H' s.heap.objs.size (.lst vs)) s':=Inv.adopt I2 hDn (hch _ DinEx).1 (hch _ DinEx).2.1 (hch _ DinEx).2.2.1 (hch _ DinEx).2.2.2 #[by rw[<- rl.length]; exact hz,l,nn,rv,hD]
  have hCle:s.heap.objs.size<=h2.objs.size:=by rw[hCs]; exact JV _
  exact fin _ _ s' H' A' vs m hn hDn hDC (JC (Hq I.lt hCle)) (I.nofs hCle) I'.free (HB I.sz hCle) (λx cc z=>Ho (Hq (cellLt x cc z) hCle))
   (λp hp=>Ho (Hq (Hd (I.pin p hp).1) hCle)) I3 ex so' rl
 have loop:∀s4:GF,s4={ s3 with heap:=h₁ }->
   codeAny (model X.prog X.w) X.A (.compLoop (.ListComp elt [#[tg,iter,ifs,0]] scope pos) 0 (.ref it) (.ref s.heap.objs.size) (compEnvC scope (cellsFrom (h2.objs.size+1) scope.names cl) h2.objs.size X.env)) (RR (.ref s.heap.objs.size) h2.objs.size) s4:=by
  rintro s4 rfl;show gB (λk s5=>∃i Y5 H5 A5 Z5 S5 done its nn vs ys,Inv (kY X scope cl h2.objs.size N s3 H (fp++[s.heap.objs.size])) [] Y5 H5 s5/\tn i s5.heap/\(∀b∈fp,H5 b=td)/\s5.heap.get? s.heap.objs.size=gV { cls:=.type "list",data:=.seq (its:Gy GC).toArray nn }/\H5 s.heap.objs.size=td/\Vals vs its/\
   Ext X.K A H A5 H5/\EnvRel X.K A5 H5 Z5 Y5/\StoreOk X.w X.K A5 H5 S5/\RelL X.K A5 H5 done vs/\ws=done++ys/\bA mi g c f k i Z5 S5=gV (ys,S')) ?_ n
   #[0,_,H,A,_,S,[],[],0,[],ws,I0,t1,λb hb=>(hfp b hb).1,k1 _ _ hD2,fresh _ (GY _),.nil,.refl,er0,so,.nil,rfl,e]
  rintro k s5 ⟨i,Y5,H5,A5,Z5,S5,done,its,nn,vs,ys,I5,t5,f5,d5,n5,v5,e5,er5,so5,rl5,hw5,w5⟩;have pinD:Inv (kY X scope cl h2.objs.size N s3 H (fp++[s.heap.objs.size])) [(s.heap.objs.size,{ cls:=.type "list",data:=.seq its.toArray nn })] Y5 H5 s5:=I5.pins_of λp hp=>by
   have hp':p=(s.heap.objs.size,{ cls:=.type "list",data:=.seq its.toArray nn }):=by simpa using hp
   subst hp';exact#[d5,n5,hDC,λz=>Il _ (stkLt _ z),λv z=>by cases z]
  have oneD:∀p∈[(s.heap.objs.size,({ cls:=.type "list",data:=.seq its.toArray nn }:IJ))],p.1=s.heap.objs.size:=λp hp=>by
   have hp':p=(s.heap.objs.size,{ cls:=.type "list",data:=.seq its.toArray nn }):=by simpa using hp
   rw[hp']
  cases k with
  | zero=>
   dsimp only[bA]at w5;split at w5
   ·rename_i hst;cases w5;rw[Iv]at hw5;subst hw5;show bm (T.done (kY X scope cl h2.objs.size N s3 H (fp++[s.heap.objs.size])) rfl rfl rfl hc i _ s5 Y5 H5 _ pinD (fpOk' f5 oneD) t5 (mit.stop A5 H5 _ i e5 so5 hst)) λr s6 #[hr,I6]=>?_
    subst hr;have p6:=I6.pin _ (Hw _ (G8.mpr rfl));exact theEnd s6 Y5 H5 A5 vs _ nn (I6.pins_of λp hp=>absurd hp (by simp)) p6.1 #[its,rfl,v5] n5 e5 so5 rl5
   ·cases w5
  | succ k=>
   dsimp only[bA]at w5;split at w5
   ·rename_i w hw;obtain⟨go,yl⟩:=mit.go A5 H5 S5 i w e5 so5 hw;show bm (T.item (kY X scope cl h2.objs.size N s3 H (fp++[s.heap.objs.size])) rfl rfl rfl hc i _ s5 Y5 H5 _ pinD (fpOk' f5 oneD) t5 go) λr s6 #[u,hr,h6]=>?_
    subst hr;show bm h6 λ_ s7 #[x,H7,I7,r7,y7,t7,f7]=>?_
    obtain⟨x1,x2,x3⟩:=yl x H7 y7;have I7':=I7.pinned (fpOk' f7 oneD) (T.obj _ _ t7);split at w5
    ·rename_i Z8 S8 h8;show bm (bk.tgt _ _ _ _ _ s7 Y5 H7 x u (λY' H'=>∃A',Ext X.K A5 H5 A' H'/\StoreOk X.w X.K A' H' S8/\EnvRel X.K A' H' Z8 Y') I7' r7 #[A5,Z5,S5,w,Z8,S8,er5.mono x1,x2,x3,h8,λY' H' A' q1 q2 q3=>#[A',x1.trans q1,q2,q3]]) λ_ s8 #[Y8,H8,I8,A8,e58,so8,er8]=>?_
     have e8:Ext X.K A H A8 H8:=e5.trans e58;have pD:∀ {Y':L2.St} {H':Hp} {s':GF},Inv (kY X scope cl h2.objs.size N s3 H (fp++[s.heap.objs.size])) ([(s.heap.objs.size,{ cls:=.type "list",data:=.seq its.toArray nn })]++iC fp s7.heap) Y' H' s'->s'.heap.get? s.heap.objs.size=gV { cls:=.type "list",data:=.seq its.toArray nn }/\H' s.heap.objs.size=td:=λI'=>
      let q:=I'.pin _ (Hw _ (Ja _ (G8.mpr rfl)))
      #[q.1,q.2.1]
     have pF:∀ {Y':L2.St} {H':Hp} {s':GF},Inv (kY X scope cl h2.objs.size N s3 H (fp++[s.heap.objs.size])) ([(s.heap.objs.size,{ cls:=.type "list",data:=.seq its.toArray nn })]++iC fp s7.heap) Y' H' s'->(∀b∈fp,H' b=td)/\∀b∈fp,∀o,s7.heap.get? b=gV o->s'.heap.get? b=gV o:=λI'=>
      #[λb hb=>by
       obtain⟨o,eo,_⟩:=T.obj _ _ t7 b hb;exact(I'.pin (b,o) (Hw _ (Hw _ (eT hb eo)))).2.1,
       λb hb o eo=>(I'.pin (b,o) (Hw _ (Hw _ (eT hb eo)))).1]
     split at w5
     ·rename_i S9 h9;show bm (bk.tst _ _ _ _ _ s8 Y8 H8 (λb H'=>b=true/\∃A',Ext X.K A8 H8 A' H'/\StoreOk X.w X.K A' H' S9) I8 #[A8,Z8,S8,true,S9,er8,so8,h9,λb H' #[z0,A',z1,z2]=>#[z0,A',z1,z2]]) λb s9 #[H9,I9,z0,A9,e9,so9]=>?_
      subst z0;rw[Hf rfl];split at w5
      ·rename_i y S10 h10;split at w5
       ·rename_i ys' S4 h11;cases w5;show bm (bk.elt _ _ _ _ _ s9 Y8 H9 (EndV X.w X.K A9 H9 S10 y) I9 #[A9,Z8,S9,y,S10,er8.mono e9,so9,h10,λ_ _ z=>z]) λu10 s10 #[v10,H10,I10,r10,A10,e10,so10,rl10]=>?_
        obtain⟨d10,n10⟩:=pD I10;obtain⟨f10,k10⟩:=pF I10;have hlen:its.length < sizeLine:=by
         have l1:=v5.length;have l2:=rl5.length;rw[hw5,GQ,HJ]at hz;omega
        show mX d10 hlen λh' n' hd' hk'=>?_
        have Ib:Inv (kY X scope cl h2.objs.size N s3 H (fp++[s.heap.objs.size])) [] Y8 H10 { s10 with heap:=h' }:=by
         have Ia:Inv (kY X scope cl h2.objs.size N s3 H (fp++[s.heap.objs.size])) [] Y8 H10 s10:=I10.pins_of λp hp=>absurd hp (by simp)
         exact Ia.turned (t':=s10.toks) (it:=s.heap.objs.size) hk' n10 hDC (.inl DinEx) cellD (λp hp=>absurd hp (by simp[kY]))
        show#[k,Jn k,i+1,Y8,H10,A10,Z8,S10,done++[y],its++[u10],n',vs++[v10],ys',Ib,?_,f10,hd',n10,v5.append #v[r10],(e8.trans e9).trans e10,(er8.mono e9).mono e10,so10,?_,?_,h11]
        ·exact T.keep (i+1) s7.heap h' t7 λb hb o eo=>hk' b o (fpD b hb) (k10 b hb o eo)
        ·exact(rl5.mono ((e58.trans e9).trans e10)).append #v[rl10]
        ·rw[hw5,J4]; rfl
       ·cases w5
      ·cases w5
     ·rename_i S9 h9;show bm (bk.tst _ _ _ _ _ s8 Y8 H8 (λb H'=>b=false/\∃A',Ext X.K A8 H8 A' H'/\StoreOk X.w X.K A' H' S9) I8 #[A8,Z8,S8,false,S9,er8,so8,h9,λb H' #[z0,A',z1,z2]=>#[z0,A',z1,z2]]) λb s9 #[H9,I9,z0,A9,e9,so9]=>?_
      subst z0;rw[Hl He];obtain⟨d9,n9⟩:=pD I9;obtain⟨f9,k9⟩:=pF I9;show#[k,Jn k,i+1,Y8,H9,A9,Z8,S9,done,its,nn,vs,ys,I9.pins_of λp hp=>absurd hp (by simp),T.keep (i+1) s7.heap _ t7 k9,f9,d9,n9,v5,e8.trans e9,er8.mono e9,so9,rl5.mono (e58.trans e9),hw5,w5]
     ·cases w5
    ·cases w5
   ·cases w5
 exact codeAny_compStart_list (loop _ rfl) (T.self X.A 0 _ _ _ t1 (loop _ rfl))
def oI {fi:FI}{g:FG}{c:FT}{f:FE}{cap:Gy (GH GJ)}{Z:Fm}{S:aa}{w:W}{S':aa}(e:kh fi g c f cap Z S=gV (w,S')) :
  ∃mi S1 n ys S2,fi Z S=gV (mi,S1)/\mi.len S1=gV n/\bA mi g c f n 0 (d7 cap Z) S1=gV (ys,S2)/\ys.length<=sizeLine/\w=.ref S2.length/\S'=S2++[.lst ys]:=by
 unfold kh at e;split at e
 ·rename_i mi S1 h1;split at e
  ·rename_i n h2;split at e
   ·rename_i ys S2 h3;obtain⟨h4,h5,h6⟩:=jA e;exact#[mi,S1,n,ys,S2,h1,h2,h3,h4,h5,h6]
   ·cases e
  ·cases e
 ·cases e
def zr {scope:JU}{N:Gy Hc}{cap:Gy (GH GJ)}{tg elt iter:Hh}{ifs:Gy Hh}{fi:FI}{g:FG}{c:FT}{f:FE}{pos:Ju}(hc:X.calm=true)(hi:GI X tg iter fi)(hck:X.Ok->∃cl,CompOk X scope cl N cap/\BlockOk X scope cl N tg elt ifs g c f)
  (hs:∀x,foldedSetIterable iter X.env x=pure x):GE X (.ListComp elt [#[tg,iter,ifs,0]] scope pos) (kh fi g c f cap):=by
 intro J s Y H Q I ⟨A,Z,S,w,S',er,so,e,hq⟩;obtain⟨mi,S1,n,ys,S2,h1,h2,h3,h4,rfl,rfl⟩:=oI e;obtain⟨cl,ck,bk⟩:=hck I.ok;rw[eval_ListComp];show LA (use:=td) rfl hs ck.clos ck.kind ck.names (bm (hi J s Y H (λtv H'=>∃A',Ext X.K A H A' H'/\StoreOk X.w X.K A' H' S1/\MIt X.w X.K mi tv A' H') I #[A,Z,S,mi,S1,er,so,h1,λtv H' A' z1 z2 z3=>#[A',z1,z2,z3]]) λv s1 q1=>bm q1 λitv s2 q2=>?_)
 obtain⟨it,fp,tn,tv,H2,rfl,I2,T,t0,hfp,A2,e2,so2,mit⟩:=q2;show lQ (RR:=λacc C=>compPost (model X.prog X.w) X.A X.xe td (EP X J Y Q) acc C) I2 hc (er.mono e2) so2 ck bk T t0 hfp mit h3 h4 ?_
 intro D C s' H' A' vs m hn hDn hDC hCL hCf hCn hCs hCc hCp I3 ex so3 rl;show#[m,hn,λh' hs'=>?_]
 have I4:Inv X J Y (bH H' D (.lst vs)) { s' with heap:=h' }:=I3.turned (t':=s'.toks) (it:=C) (λb o hb eo=>hs'.extBut b o hb eo) (by rw[aG (Ne.symm hDC)]; exact hCn) hCL (.inr hCs) hCc hCp
 exact#[.ref D,_,I4,rfl,hq _ _ (EndV.after (e2.trans ex) (.lst so3 rl hDn))]
def qj {scope:JU}{N:Gy Hc}{cap:Gy (GH GJ)}{tg elt iter:Hh}{ifs:Gy Hh}{fi:FI}{g:FG}{c:FT}{f:FE}{pos py spos:Ju}{y:Hc}{i:GJ}(hc:X.calm=true)(hi:GI X tg iter fi)(hck:X.Ok->∃cl,CompOk X scope cl N cap/\BlockOk X scope cl N tg elt ifs g c f)
  (hs:∀x,foldedSetIterable iter X.env x=pure x) (hsw:swapsWith (.ListComp elt [#[tg,iter,ifs,0]] scope pos) (gV (.Name y py)) spos.line X.env=pure true) (hN:X.N.Nodup) (hy:X.N[i]?=gV y) (hl:X.env.scope.names.lookup y=gV .local) :
  GS X (.Assign [.Name y py] (.ListComp elt [#[tg,iter,ifs,0]] scope pos) spos) (ke (kh fi g c f cap) (Ah i)):=by
 intro J s Y H Dd I ⟨A,Z,S,o,S',er,so,e,hd⟩;unfold ke at e;split at e
 ·rename_i w S0 h0;simp only[Ah]at e;cases e;obtain⟨mi,S1,n,ys,S2,h1,h2,h3,h4,rfl,rfl⟩:=oI h0;obtain⟨cl,ck,bk⟩:=hck I.ok;rw[exec_Assign_Name_used _ _ _ _ hsw];show GB (KU (GB ?_));change wpAny _ X.A (do let _ <- comprehension (.ListComp elt [⟨tg,iter,ifs,0⟩] scope pos) scope X.env _ (newList []) false (eval iter X.env) (gV (assign (.Name y py) X.env))) _ _ s
  show GB (IP (LA (use:=gV (assign (.Name y py) X.env)) (Q:=λ_ s'=>SP X J Dd .next s') rfl hs ck.clos ck.kind ck.names
   (bm (hi J s Y H (λtv H'=>∃A',Ext X.K A H A' H'/\StoreOk X.w X.K A' H' S1/\MIt X.w X.K mi tv A' H') I #[A,Z,S,mi,S1,er,so,h1,λtv H' A' z1 z2 z3=>#[A',z1,z2,z3]]) λv s1 q1=>bm q1 λitv s2 q2=>?_)) (λ_ s' hq=>GU (GU hq)) λ_ _ e=>e)
  obtain⟨it,fp,tn,tv,H2,rfl,I2,T,t0,hfp,A2,e2,so2,mit⟩:=q2;show lQ (RR:=λacc C=>compPost (model X.prog X.w) X.A X.xe (gV (assign (.Name y py) X.env)) (λ_ s'=>SP X J Dd .next s') acc C) I2 hc (er.mono e2) so2 ck bk T t0 hfp mit h3 h4 ?_
  intro D C s' H' A' vs m hn hDn hDC hCL hCf hCn hCs hCc hCp I3 ex so3 rl;obtain⟨oC,esC,epC,hoC,hdC,hrC⟩:=id hn;have I3':Inv X (J++[(C,oC)]) Y (bH H' D (.lst vs)) s':=I3.pins_of λp hp=>by
   rcases HF.mp hp with hp|hp
   ·exact I3.pin p (Hw _ hp)
   ·have hp':p=(C,oC):=by simpa using hp
    subst hp';exact#[hoC,by rw[aG (Ne.symm hDC)]; exact hCn,hCL,hCf,λv z=>by rw[hdC]at z; cases z]
  change wpAny _ X.A (assign (.Name y py) X.env (.ref D)) _ _ _;show M5 (gX I3' hN hy (.inl hl) (v:=.ref D) rfl (λs4 I4=>?_) (.inr hl))
  have pC:=I4.pin (C,oC) (Hw _ (Hw _ (G8.mpr rfl)));show#[m,#[oC,esC,epC,pC.1,hdC,hrC],λh' hs'=>?_]
  have I5:Inv X J (Y.set i (gV (.ref D))) (bH H' D (.lst vs)) s4:=I4.pins_of λp hp=>I4.pin p (Hw _ (Ja _ hp))
  have I6:Inv X J (Y.set i (gV (.ref D))) (bH H' D (.lst vs)) { s4 with heap:=h' }:=I5.turned (t':=s4.toks) (it:=C) (λb o hb eo=>hs'.extBut b o hb eo) (by rw[aG (Ne.symm hDC)]; exact hCn) hCL (.inr hCs) hCc hCp
  obtain⟨Af,f1,f2,f3⟩:=EndV.after (e2.trans ex) (EndV.lst so3 rl hDn);exact#[_,_,I6,hd.nx _ _ #[_,Af,rfl,f1,f2,(er.mono f1).set f3 i]]
 ·cases e
end
open PySem.Builtin.SmallTypes (nextOf)
section
variable{prog:Ht}{w:HD}
structure Zit (prog:Ht)(w:HD)(it:GP)(T:GJ->HP->Prop)(C:HP->Prop)(i:GJ)(Uq:GH (GC->Prop)):Prop where
 keep:∀j h h',T j h->(∀o,h.get? it=gV o->h'.get? it=gV o)->T j h'
 next:∀V,Uq=gV V->∀(B:Hz) (s:GF) (Q:GC->GF->Prop) (E:GC->GF->Prop),T i s.heap->C s.heap->(∀u h' tk,V u->T (i+1) h'->JB it s.heap h'->Q u { s with heap:=h',toks:=tk })->wpAny (model prog w) B (nextOf (.ref it)) Q E s
 stop:Uq=td->∀(B:Hz) (s:GF) (Q:GC->GF->Prop) (E:GC->GF->Prop),B.handled=td->T i s.heap->C s.heap->(∀h' e,Mj it s.heap h'->(∃o,h'.get? e=gV o/\o.cls=.type "StopIteration")->E (.ref e) { s with heap:=h' })->wpAny (model prog w) B (nextOf (.ref it)) Q E s
variable{B:Hz}{E:GC->GF->Prop}{s:GF}{z p q i1 i2:GP}{T1 T2:GJ->HP->Prop}{C1 C2:HP->Prop}{i:GJ}{a b:GC}
abbrev Zc (z q i1 i2:GP)(C:HP->Prop):Prop:=∀h h',C h->(∀c o,c≠z->c≠q->c≠i1->c≠i2->h.get? c=gV o->h'.get? c=gV o)->C h'
end
end Mi
namespace Mi
open PySem PySem.Spec PyProof.Rows L2
open PySem.Builtin.SmallTypes (nextOf)
abbrev qk (prog:Ht)(w:HD)(v:GC)(o:IJ)(C:HP->Prop):Prop:=∀(B:Hz) (s:GF) (Q:GC->GF->Prop) (E:GC->GF->Prop),C s.heap->Q (.ref s.heap.objs.size) { s with heap:=s.heap.push o }->wpAny (model prog w) B (pyIter v) Q E s
end Mi
namespace Mi
open PySem PySem.Spec PyProof.Rows L2
open PySem.Builtin.SmallTypes (nextOf)
section
variable{prog:Ht}{w:HD}{A:Hz}{E:GC->GF->Prop}{s:GF}
def DH {it t:GP}{i:GJ}{items:HE GC}{x:GC}{Q:GC->GF->Prop}(hit:s.heap.IsTupleIter it t i)(ht:s.heap.IsTuple t items)(hx:items[i]?=gV x)
  (hQ:∀h',h'.IsTupleIter it t (i+1)->JB it s.heap h'->Q x { s with heap:=h' }):wpAny (model prog w) A (nextOf (.ref it)) Q E s:=by
 obtain⟨o,ho,hc,hd⟩:=id hit;obtain⟨ot,hot,_,nt,hdt⟩:=ht;unfold Ll;show GB (Ik (name:=Jk "__next__") hit.typeIs F.slot_tuple_iterator_next (Ix F.slot_tuple_iterator_next hit.typeIs F.entry_tuple_iterator_next ?_ (F.args_tuple_iterator_next_1 _)));change wpAny _ _ (field (.ref it) 0 >>= _) _ _ s;show GB (Jb ho hd (x:=.ref t) rfl ?_);change wpAny _ _ (if (HM t==HZ)=true then _ else _) _ _ s
 rw[Hl (show ¬ ((HM t==HZ)=true)from He)]
 change wpAny _ _ (field (.ref it) 1 >>= _) _ _ s;show GB (Jb ho hd (x:=.int i 0) rfl (GB (J9 hot hdt ?_)));simp only[G0,hx];show GB (Ld ho hd (by simp) (GU #[x,rfl,GU (hQ _ #[_,Jt _ ho (Mf (Kv hd _)),(Nk ..).trans hc,?_] (Kl ..))]))
 rw[Kv hd]; simp[rawInt]
def DI {it t:GP}{i:GJ}{items:HE GC}{Q:GC->GF->Prop}(hh:A.handled=td)(hit:s.heap.IsTupleIter it t i)(ht:s.heap.IsTuple t items)(hx:items[i]?=td)
  (hE:∀h' e,Mj it s.heap h'->(∃o,h'.get? e=gV o/\o.cls=.type "StopIteration")->E (.ref e) { s with heap:=h' }):wpAny (model prog w) A (nextOf (.ref it)) Q E s:=by
 obtain⟨o,ho,hc,hd⟩:=id hit;obtain⟨ot,hot,_,nt,hdt⟩:=ht;unfold Ll;show GB (Ik (name:=Jk "__next__") hit.typeIs F.slot_tuple_iterator_next (Ix F.slot_tuple_iterator_next hit.typeIs F.entry_tuple_iterator_next ?_ (F.args_tuple_iterator_next_1 _)));change wpAny _ _ (field (.ref it) 0 >>= _) _ _ s;show GB (Jb ho hd (x:=.ref t) rfl ?_);change wpAny _ _ (if (HM t==HZ)=true then _ else _) _ _ s
 rw[Hl (show ¬ ((HM t==HZ)=true)from He)]
 change wpAny _ _ (field (.ref it) 1 >>= _) _ _ s;show GB (Jb ho hd (x:=.int i 0) rfl (GB (J9 hot hdt ?_)));simp only[G0,hx];show GB (MQ (GB (Ld ho hd (by simp) ?_)))
 change wpAny _ _ (newExc (.type "StopIteration") [] >>= _) _ _ _;show GB ?_;simp only[newExc,newTuple];show GB (HQ ?_ (by size_fits))
 show GB (m:=firstArgMember _ _) (Mk (a:=HZ) (by first|rfl|(simp only[firstArgMember]; rfl)) (HQ ?_ (by size_fits)))
 simp only[raiseNew];show GB (Oz ?_)
 first|rw[show A.in1.handled=td from hh]|rw[hh]
 exact GB (GU (OX (hE _ _ (((Kl ..).extBut.push _).push _) #[_,Hb _ rfl,rfl])))
end
inductive Zs where|tup (a:GP)|lst (a:GP)|txt (x:Hc)
abbrev Zs.T (it:GP):Zs->GJ->HP->Prop
 | .tup a,i,h=>h.IsTupleIter it a i
 | .lst a,i,h=>h.IsListIter it a i
 | .txt x,i,h=>∃t,h.IsStrIter it "str_ascii_iterator" x t i\/h.IsStrIter it "str_iterator" x t i
abbrev Zs.at (K:GZ)(H:Hp)(i:GJ)(v:V):Zs->Prop
 | .tup a=>∃xs,SqT K H a xs/\xs[i]?=gV v
 | .lst a=>∃xs,SqL K H a xs/\xs[i]?=gV v
 | .txt x=>∃c,x.cps[i]?=gV c/\v=.str #[[c].toArray]
abbrev Zs.out (K:GZ)(H:Hp)(i:GJ):Zs->Prop
 | .tup a=>∃xs,SqT K H a xs/\xs.length<=i
 | .lst a=>∃xs,SqL K H a xs/\xs.length<=i
 | .txt x=>x.cps.size<=i
def Zs.keep {S:Zs}{it:GP}{j:GJ}{h h':HP}(t:S.T it j h)(k:∀o,h.get? it=gV o->h'.get? it=gV o):S.T it j h':=by
 cases S with
 | tup a=>exact t.at k
 | lst a=>exact t.at k
 | txt x=>
  obtain⟨tk,t⟩:=t;exact#[tk,t.imp (λ#[o,e,r]=>#[o,k _ e,r]) λ#[o,e,r]=>#[o,k _ e,r]]
section
variable{X:Cx}{J:Gy (GP×IJ)}{Y:L2.St}{H:Hp}{s:GF}
def vQ (I:Inv X J Y H s){a b:GP}{o:IJ}(h:X.K.lookup a=gV o)(f:iB X J H b):a≠b:=λz=>by
 subst z;have hb:=I.ok.mod.kin a o h;rcases f.2.2.2.1 with q|q
 ·exact I.ok.noex a o hb q
 ·exact absurd (Hq (Hd (I.ok.bs a o hb).1) q) (Il _)
end
end Mi
namespace Mi
open PySem PySem.Spec PyProof.Rows L2
open PySem.Builtin.SmallTypes (nextOf)
section
variable{X:Cx}{J:Gy (GP×IJ)}{Y:L2.St}{H:Hp}{s:GF}{h':HP}
def vR {a b:GP}{u:HO}(h:Rd H a u)(f:H b=td):a≠b:=λz=>by
 subst z;rcases h with h|⟨o,h⟩ <;> (rw[f]at h; cases h)
def Inv.turnedL {t':GJ}{ch:Gy GP}(I:Inv X J Y H s)(k:∀b o,b∉ch->s.heap.get? b=gV o->h'.get? b=gV o)(hf:∀b∈ch,iB X J H b):Inv X J Y H { s with heap:=h',toks:=t' }:=by
 have nit:∀b u,H b=gV u->b∉ch:=λb u e z=>by have:=(hf b z).1; rw[e]at this; cases this
 show I.step (g':=s.gens) (d':=s.drawn) (ch:=ch) (λb hb=>?_) (λb o _ _ hc e _=>k b o hc e) (λb o _ _ hc e _=>#[o.slots,k b o hc e]) (λ_ _ _ _ n=>n) (λb o hc e=>#[o,k b o hc e]) (λ_ _ e=>e) (λ_ _ _ e=>e) (λb ps e=>#[#[],by rw[e]; simp]) (λm hm=>?_) (λb u e=>?_) I.bare
 ·obtain⟨_,f1,_,f3,f4,f5⟩:=hf b hb;exact#[f3,f1,f4,f5]
 ·obtain⟨o,es,ep,ho,r⟩:=hm;exact#[o,es,ep,k _ o (λz=>(hf _ z).2.1 rfl) ho,r]
 ·show(I.hok b u e).stay (λc v hc q=>k c v ?_ q) (λ_ q=>q) λ_ _ q=>q
  rcases hc with z|z
  ·rw[z]; exact nit b u e
  ·exact nit c _ z
def Zs.zit {S:Zs}{it z q i1 i2:GP}{i:GJ}{Uq:GH V}(I:Inv X J Y H s)(hf:∀b∈[z,q,i1,i2],iB X J H b)(g:match Uq with|some v=>S.at X.K H i v|none=>S.out X.K H i) :
  ∃C,Zit X.prog X.w it (S.T it) C i (Uq.map λv u=>RelV v u)/\C s.heap/\Zc z q i1 i2 C:=by
 have zc:∀(a:GP) (P:HP->Prop),(∀h h',P h->(∀o,h.get? a=gV o->h'.get? a=gV o)->P h')->(∀b∈[z,q,i1,i2],a≠b)->Zc z q i1 i2 P:=λa P hP hn h h' p k=>
  hP h h' p λo e=>k a o (hn z (by simp)) (hn q (by simp)) (hn i1 (by simp)) (hn i2 (by simp)) e
 have sep:∀ {a:GP} {u:HO} {o:IJ} {b:GP},(Rd H a u\/X.K.lookup a=gV o)->b∈[z,q,i1,i2]->a≠b:=λh hb=>h.elim (λr=>vR r (hf _ hb).1) λr=>vQ I r (hf _ hb)
 cases S with
 | tup a=>
  obtain⟨xs,hq,hx⟩ : ∃xs,SqT X.K H a xs/\(match Uq with|some v=>xs[i]?=gV v|none=>xs.length<=i):=by
   cases Uq <;> exact g
  obtain⟨its,rv,p,_⟩:=I.tuple hq;have hne:∀b∈[z,q,i1,i2],a≠b:=λb hb=>by
   rcases hq with r|⟨o,_,_,r,_⟩
   ·exact vR r (hf b hb).1
   ·exact vQ I r (hf b hb)
  show#[λh=>h.IsTuple a its.toArray,#[λj h h' t k=>Zs.keep (S:=.tup a) t k,λV hV B s2 Q E t c hQ=>?_,λhU B s2 Q E hh t c hE=>?_],p,zc a _ (λh h' #[o,e,r] k=>#[o,k _ e,r]) hne]
  ·cases Uq with
   | none=>cases hV
   | some v=>
    cases hV;obtain⟨u,hu,ru⟩:=rv.get hx;exact DH t c (x:=u) (by simpa using hu) λh' t' sb=>hQ u h' s2.toks ru t' sb
  ·cases Uq with
   | some v=>cases hU
   | none=>
    have:=L2.Vals.length rv;have hx':xs.length<=i:=hx;exact DI hh t c (by simp; omega) hE
 | lst a=>
  obtain⟨xs,hq,hx⟩ : ∃xs,SqL X.K H a xs/\(match Uq with|some v=>xs[i]?=gV v|none=>xs.length<=i):=by
   cases Uq <;> exact g
  obtain⟨its,rv,p,_⟩:=I.list hq;have hne:∀b∈[z,q,i1,i2],a≠b:=λb hb=>by
   rcases hq with r|⟨o,_,_,r,_⟩
   ·exact vR r (hf b hb).1
   ·exact vQ I r (hf b hb)
  show#[λh=>h.IsList a its.toArray,#[λj h h' t k=>Zs.keep (S:=.lst a) t k,λV hV B s2 Q E t c hQ=>?_,λhU B s2 Q E hh t c hE=>?_],p.isList,zc a _ (λh h' #[o,e,r] k=>#[o,k _ e,r]) hne]
  ·cases Uq with
   | none=>cases hV
   | some v=>
    cases hV;obtain⟨u,hu,ru⟩:=rv.get hx;exact wpAny_nextOf_list_item t c (x:=u) (by simpa using hu) λh' t' sb=>hQ u h' s2.toks ru t' sb
  ·cases Uq with
   | some v=>cases hU
   | none=>
    have:=L2.Vals.length rv;have hx':xs.length<=i:=hx;exact wpAny_nextOf_list_end hh t c (by simp; omega) hE
 | txt x=>
  show#[λ_=>N1,#[λj h h' t k=>Zs.keep (S:=.txt x) t k,λV hV B s2 Q E t _ hQ=>?_,λhU B s2 Q E hh t _ hE=>?_],trivial,λ_ _ _ _=>trivial]
  ·cases Uq with
   | none=>cases hV
   | some v=>
    cases hV;obtain⟨c,hc,rfl⟩ : ∃c,x.cps[i]?=gV c/\v=.str #[[c].toArray]:=g;obtain⟨tk,t|t⟩:=t
    ·exact wpAny_nextOf_ascii_item t hc λh' t' sb=>hQ _ h' _ #[_,rfl] #[tk,.inl t'] sb
    ·exact wpAny_nextOf_wide_item t hc λh' t' sb=>hQ _ h' _ #[_,rfl] #[tk,.inr t'] sb
  ·cases Uq with
   | some v=>cases hU
   | none=>
    have hx:x.cps[i]?=td:=by simpa using(show x.cps.size<=i from g)
    obtain⟨tk,t|t⟩:=t
    ·exact wpAny_nextOf_ascii_end hh t hx hE
    ·exact wpAny_nextOf_wide_end hh t hx hE
end
abbrev Zs.is (K:GZ)(H:Hp)(i:GJ)(v:V):Zs->Prop
 | .tup a=>∀xs,SqT K H a xs->xs[i]?=gV v
 | .lst a=>∀xs,SqL K H a xs->xs[i]?=gV v
 | .txt x=>∃c,x.cps[i]?=gV c/\v=.str #[[c].toArray]
def Zs.at_is {S:Zs}{X:Cx}{J:Gy (GP×IJ)}{Y:L2.St}{H:Hp}{s:GF}{i:GJ}{v:V}(I:Inv X J Y H s)(h:S.at X.K H i v):S.is X.K H i v:=by
 cases S with
 | tup a=>obtain⟨xs,hq,hx⟩:=h; exact λys hy=>by rw[I.tuple_inj hy hq]; exact hx
 | lst a=>obtain⟨xs,hq,hx⟩:=h; exact λys hy=>by rw[I.list_inj hy hq]; exact hx
 | txt x=>exact h
end Mi
namespace Mi
open PySem PySem.Spec PyProof.Rows L2
abbrev EK:W->GH (Gy W)
 | .tup xs=>gV xs
 | .str x=>gV (x.cps.toList.map λc=>.str #[[c].toArray])
 | _=>td
section
variable{X:Cx}{J:Gy (GP×IJ)}{Y:L2.St}{H:Hp}{s:GF}{A:Gy GP}
abbrev ZRel (K:GZ)(A:Gy GP)(H:Hp)(xs:Gy W):Zs->Prop
 | .tup a=>∃vs,SqT K H a vs/\RelL K A H xs vs
 | .lst a=>Ip
 | .txt x=>xs=x.cps.toList.map λc=>.str #[[c].toArray]
def ZRel.mono {K:GZ}{A A':Gy GP}{H H':Hp}{xs:Gy W}{S:Zs}(e:Ext K A H A' H')(h:ZRel K A H xs S):ZRel K A' H' xs S:=by
 cases S with
 | tup a=>obtain⟨vs,h1,h2⟩:=h; exact#[vs,e.tp _ _ h1,h2.mono e]
 | lst a=>exact h
 | txt x=>exact h
def ZRel.at {K:GZ}{xs:Gy W}{S:Zs}{i:GJ}{w:W}(h:ZRel K A H xs S)(hi:xs[i]?=gV w):∃v,S.at K H i v/\Rel K A H w v:=by
 cases S with
 | tup a=>obtain⟨vs,h1,h2⟩:=h; obtain⟨v,h3,h4⟩:=h2.get hi; exact#[v,#[vs,h1,h3],h4]
 | lst a=>exact h.elim
 | txt x=>
  have h:xs=x.cps.toList.map λc=>.str #[[c].toArray]:=h
  subst h;rw[GM,GD]at hi;obtain⟨c,hc,rfl⟩:=hi;exact#[.str #[[c].toArray],#[c,by rw[<- II]; exact hc,rfl],.str]
def ZRel.is {K:GZ}{xs:Gy W}{S:Zs}{i:GJ}{w:W}{v:V}(h:ZRel K A H xs S)(hi:xs[i]?=gV w)(z:S.is K H i v):Rel K A H w v:=by
 obtain⟨v',h1,h2⟩:=h.at hi;cases S with
 | tup a=>
  obtain⟨vs,q,e⟩:=h1;have:=z vs q;rw[e]at this; cases this
  exact h2
 | lst a=>exact h.elim
 | txt x=>
  obtain⟨c,e,rfl⟩:=h1;obtain⟨c',e',rfl⟩:=z;rw[e]at e'; cases e'
  exact h2
def ZRel.out {K:GZ}{xs:Gy W}{S:Zs}{i:GJ}(h:ZRel K A H xs S)(hi:xs.length<=i):S.out K H i:=by
 cases S with
 | tup a=>obtain⟨vs,h1,h2⟩:=h; exact#[vs,h1,by rw[<- h2.length]; exact hi]
 | lst a=>exact h.elim
 | txt x=>
  have h:xs=x.cps.toList.map λc=>.str #[[c].toArray]:=h
  subst h;change x.cps.size<=i
  simpa using hi
def zt {x:W}{v:V}{u:GC}{xs:Gy W}(I:Inv X J Y H s)(r:Rel X.K A H x v)(ru:RelV v u)(e:EK x=gV xs) :
  ∃(S:Zs) (o:IJ) (C:HP->Prop),ZRel X.K A H xs S/\qk X.prog X.w u o C/\C s.heap/\(∀h o,C h->C (h.push o))/\o.isFreed=false/\∀it h,h.get? it=gV o->S.T it 0 h:=by
 cases r with
 | @tup ws a vs hq rl=>
  cases e;obtain⟨its,rv,p,_⟩:=I.tuple hq;obtain rfl:u=HM a:=ru;exact#[.tup a,{ cls:=.type "tuple_iterator",data:=.fields [.ref a,.int 0 0].toArray },λh=>h.IsTuple a its.toArray,#[vs,hq,rl],λB s Q E c hQ=>M0 c hQ,p,λh o #[ot,e,r]=>#[ot,GN _ e,r],rfl,λit h e=>#[_,e,rfl,rfl]]
 | @str x=>
  cases e;obtain⟨t,rfl⟩:=ru;cases ha:x.cps.all (· < 128)with
  | false=>exact#[.txt x,{ cls:=.type "str_iterator",data:=.fields [.str x t,.int 0 0].toArray },λ_=>N1,rfl,λB s Q E _ hQ=>wpAny_pyIter_wide ha hQ,trivial,λ_ _ _=>trivial,rfl,λit h e=>#[t,.inr #[_,e,rfl,rfl]]]
  | true=>exact#[.txt x,{ cls:=.type "str_ascii_iterator",data:=.fields [.str x t,.int 0 0].toArray },λ_=>N1,rfl,λB s Q E _ hQ=>wpAny_pyIter_ascii ha hQ,trivial,λ_ _ _=>trivial,rfl,λit h e=>#[t,.inl #[_,e,rfl,rfl]]]
 | _=>cases e
end
open PySem.Builtin.SmallTypes (nextOf)
section
variable{prog:Ht}{w:HD}{B:Hz}{E:GC->GF->Prop}{s:GF}{e it:GP}{T:GJ->HP->Prop}{C:HP->Prop}{i:GJ}{old:GC}
structure EnAt (h0 h:HP)(e it:GP)(fs:HE GC)(T:HP->Prop):Prop where
 here:h.get? e=gV { cls:=.type "enumerate",dict:=td,data:=.fields fs,slots:=#[] }
 turn:T h
 kept:∀b o,b≠e->b≠it->h0.get? b=gV o->h.get? b=gV o
def EnAt.put {h0:HP}{fs:HE GC}{T:HP->Prop}{k:GJ}{v:GC}{Q:Unit->GF->Prop}(x:EnAt h0 s.heap e it fs T)(hne:e≠it)(kT:∀h h',T h->(∀o,h.get? it=gV o->h'.get? it=gV o)->T h')(hk:k < fs.size)
  (q:∀h',EnAt h0 h' e it (fs.setIfInBounds k v) T->JB e s.heap h'->Q () { s with heap:=h' }):wpAny (model prog w) B (setField (.ref e) k v) Q E s:=
 wpAny_setField_rec x.here hk λh' y sb=>q h' #[y,kT _ _ x.turn λo z=>sb.extBut _ _ (Ne.symm hne) z,λb o h1 h2 z=>sb.extBut b o h1 (x.kept b o h1 h2 z)] sb
def lR {Uq:GH (GC->Prop)}{Q:GC->GF->Prop}(Zz:Zit prog w it T C i Uq)(hh:B.handled=td)(he:Pe s.heap e it (i:G1) old)(t:T i s.heap)(c:C s.heap)(hne:e≠it)
  (hI:∀V,Uq=gV V->∀u h' tk tk0,V u->IsEnumOut h' e it ((i:G1)+1) u s.heap.objs.size->T (i+1) h'->h'.get? s.heap.objs.size=gV { cls:=.type "tuple",data:=.seq [.int i tk0,u].toArray }->
   (∀b o,b≠e->b≠it->s.heap.get? b=gV o->h'.get? b=gV o)->Q (.ref s.heap.objs.size) { s with heap:=h',toks:=tk })
  (hE:Uq=td->∀h' x,Mj it s.heap h'->(∃o,h'.get? x=gV o/\o.cls=.type "StopIteration")->E (.ref x) { s with heap:=h' }) :
  wpAny (model prog w) B (LP.«enumerate.__next__» #[[.ref e],[]]) (λfin s'=>∃v,fin=.done (.ret v)/\Q v s') E s:=by
 obtain⟨hp,g,d,tk,os⟩:=s;change wpAny _ _ (field (.ref e) 2 >>= _) _ _ _;show GB (Jb he rfl (x:=.ref it) rfl (GB ?_));cases Uq with
 | none=>exact Zz.stop rfl _ _ _ _ hh t c λh' x a b=>hE rfl h' x a b
 | some V=>
  show Zz.next V rfl _ _ _ _ t c λu ha tka hu ta sba=>?_
  have kT:=Zz.keep (i+1);have xa:EnAt hp ha e it [.none,.bool false,.ref it,rawInt i,.none,old].toArray (T (i+1)):=#[(sba.2 e hne).trans he,ta,λb o _ h2 z=>sba.extBut b o h2 z]
  have za:ha.objs.size=hp.objs.size:=sba.1;clear sba ta;change wpAny _ _ (field (.ref e) 3 >>= _) _ _ #[ha,g,d,tka,os];show GB (Jb xa.here rfl (x:=rawInt i) rfl ?_);change wpAny _ _ (field (.ref e) 4 >>= _) _ _ #[ha,g,d,tka,os];show GB (Jb xa.here rfl (x:=.none) rfl ?_);change wpAny _ _ (mkInt i >>= _) _ _ #[ha,g,d,tka,os];show GB (NQ (GB (xa.put (s:=#[ha,g,d,tka+1,os]) hne kT (by simp) λhb xb sb1=>GB (xb.put (s:=#[hb,g,d,tka+1,os]) hne kT (by simp) λhc xc sb2=>GB (Of ?_)))))
  have zc:hc.objs.size=hp.objs.size:=by rw[sb2.1,<- za]; exact sb1.1
  have hel:hp.objs.size≠e:=JC (Hd he);have new:=Hb hc (o:={ cls:=.type "tuple",data:=.seq [.int i tka,u].toArray }) rfl;have xd:EnAt hp (hc.push { cls:=.type "tuple",data:=.seq [.int i tka,u].toArray }) e it [.none,.bool false,.ref it,rawInt ((i:G1)+1),.none,old].toArray (T (i+1)):=#[GN _ xc.here,kT _ _ xc.turn λo z=>GN _ z,λb o h1 h2 z=>GN _ (xc.kept b o h1 h2 z)]
  rw[zc]at new;change wpAny _ _ (Ko (.ref e) >>= _) _ _ #[hc.push _,g,d,tka+1,os];rw[zc];generalize hc.push { cls:=.type "tuple",data:=.seq [.int i tka,u].toArray }=hd at new xd ⊢;clear zc sb2 xc sb1 xb hb xa za;show GB ?_;unfold Ko;show GB (Jb xd.here rfl (x:=.none) rfl (GU ?_));simp only[JE];show GB (MQ (GB (Jb xd.here rfl (x:=old) rfl (GB (xd.put (s:=#[hd,g,d,tka+1,os]) hne kT (by simp) λh1 x1 s1=>GB ?_)))))
  unfold MA;show GB (x1.put (s:=#[h1,g,d,tka+1,os]) hne kT (by simp) λh2 x2 s2=>x2.put (s:=#[h2,g,d,tka+1,os]) hne kT (by simp) λh3 x3 s3=>GB (KW (GU #[_,rfl,hI V rfl u h3 (tka+1) tka hu x3.here x3.turn ?_ x3.kept])))
  exact s3.extBut _ _ hel (s2.extBut _ _ hel (s1.extBut _ _ hel new))
variable{v:GC}{o:IJ}
def oJ (h1:qk prog w v o C) :
  MeetsIn prog w (LP.«enumerate.__new__» #[[.type "enumerate",v],[]]) (λ_ R s=>C s.heap/\R (.ok (.ret (.ref (s.heap.push o).objs.size))) { s with heap:=(s.heap.push o).push { cls:=.type "enumerate",data:=.fields [.none,.bool false,.ref s.heap.objs.size,rawInt 0,.none,.none].toArray } }):=
 .of_wp λA R s h=>by
  obtain⟨hp,g,d,tk,os⟩:=s;obtain⟨c,h⟩:=h;have hsub:=sub_enumerate;have d1:∀(B:Hz) (Q:GC->GF->Prop) (E:GC->GF->Prop),Q (.ref hp.objs.size) #[hp.push o,g,d,tk,os]->wpAny (model prog w) B (pyIter v) Q E #[hp,g,d,tk,os]:=λB Q E q=>h1 B #[hp,g,d,tk,os] Q E c q
  wp_walk
  show wpAny_stack_any λst=>GU ?_
  split
  ·rename_i c _ _ _ _ _;cases(c==J7 "enumerate")
   ·wp_walk using d1 _ _ _
    exact#[_,rfl,h]
   ·wp_walk using d1 _ _ _
    exact#[_,rfl,h]
  ·wp_walk using d1 _ _ _
   exact#[_,rfl,h]
def tH {Q:GC->GF->Prop}(h1:qk prog w v o C)(c:C s.heap)(n1:o.isFreed=false)
  (h:∀h',Pe h' (s.heap.objs.size+1) s.heap.objs.size 0 .none->h'.get? s.heap.objs.size=gV o->(∀b o,s.heap.get? b=gV o->h'.get? b=gV o)->Q (.ref (s.heap.objs.size+1)) { s with heap:=h' }) :
  wpAny (model prog w) B (call (.type "enumerate") [v]) Q E s:=by
 show callType_newIn F.called_enumerate #v[] (F.typeCall_enumerate_1 _) (F.newCall_enumerate_1 _) (λobj=>F.args_object_init_2 obj _) F.entry_enumerate_new (oJ h1) #[c,?_]
 have hz:(s.heap.push o).objs.size=s.heap.objs.size+1:=KJ ..;change _/\_;rw[hz];have he:Pe ((s.heap.push o).push { cls:=.type "enumerate",data:=.fields [.none,.bool false,.ref s.heap.objs.size,rawInt 0,.none,.none].toArray }) (s.heap.objs.size+1) s.heap.objs.size 0 .none:=by
  have:=Hb (s.heap.push o) (o:={ cls:=.type "enumerate",data:=.fields [.none,.bool false,.ref s.heap.objs.size,rawInt 0,.none,.none].toArray }) rfl;rw[hz]at this; exact this
 exact#[#[_,he,rfl],h _ he (GN _ (Hb _ n1)) λb o x=>GN _ (GN _ x)]
end
abbrev Ga (K:GZ)(S1:Zs):It:=
 #[λi H=>∃x,S1.at K H i x,λi H v H'=>∃p x,S1.is K H i x/\v=.ref p/\H p=td/\H'=bH H p (.tup [.int i,x]),λi H=>S1.out K H i]
def tJ {P:Ht}{w:HD}{K:GZ}{els:Gy Hh}{k0:GJ}{tp:Ju}{S1:Zs}{z i1:GP}(D:z≠i1) :
  Turn P w K (.Tuple els k0 tp) (Ga K S1) [z,i1] z (λi h=>(∃old,Pe h z i1 i old)/\S1.T i1 i h) where
 mem:=by simp
 obj:=λi h #[#[old,a],d] b' hb=>by
  have it:∀ {S:Zs} {it:GP},S.T it i h->∃o,h.get? it=gV o/\∀v,o.data≠.cell v:=λ{S it} t=>by
   cases S with
   | tup a=>obtain⟨o,e,_,d⟩:=t; exact#[o,e,λv z=>by rw[d]at z; cases z]
   | lst a=>obtain⟨o,e,_,d⟩:=t; exact#[o,e,λv z=>by rw[d]at z; cases z]
   | txt x=>obtain⟨tk,⟨o,e,_,d⟩|⟨o,e,_,d⟩⟩:=t <;> exact#[o,e,λv z=>by rw[d]at z; cases z]
  simp only[Hj,IF,KI]at hb;rcases hb with rfl|rfl
  ·exact#[_,a,λv z=>by cases z]
  ·exact it d
 keep:=λi h h' #[#[old,a],d] k=>#[#[old,k z (by simp) _ a],Zs.keep d (k i1 (by simp))]
 item:=by
  intro X hP hw hK hc i J s Y H E I hf st hg;subst hP hw hK;obtain⟨x,g1⟩:=hg;obtain⟨⟨old,a⟩,d⟩:=st;have hf4:∀b∈[z,z,i1,i1],iB X J H b:=λb hb=>hf b (by simp only[Hj,IF,KI]at hb ⊢; rcases hb with h|h|h|h <;> simp[h])
  obtain⟨C1,Zq,c1,k1⟩:=Zs.zit (it:=i1) (Uq:=gV x) I hf4 g1;have hT:s.TypeIs (.ref z) "enumerate":=#[_,a,rfl];unfold pyNext;show GB (Ly (Ik (name:=Jk "__next__") hT F.slot_enumerate_next (Ix F.slot_enumerate_next hT F.entry_enumerate_next ?_ (F.args_enumerate_next_1 _))));show lR Zq (I.ok.hd hc) a d c1 D (λV e1 u g tk tk0 r1 zg t1 ng kp=>?_) (λz=>by cases z)
  cases e1;show GU #[_,rfl,?_];show wpAny_letOwnedTupleGo_enum (s:={ s with heap:=g,toks:=tk }) zg λg' zg' sb=>?_
  have N0:H s.heap.objs.size=td:=I.hok.fresh (GY _);have lt:∀ {b:GP},b∈[z,i1]->s.heap.objs.size≠b:=λ{b} hb=>by
   have:∃o,s.heap.get? b=gV o:=by
    have it:∀ {S:Zs} {it:GP},S.T it i s.heap->∃o,s.heap.get? it=gV o:=λ{S it} t=>by
     cases S with
     | tup a=>obtain⟨o,e,_⟩:=t; exact#[o,e]
     | lst a=>obtain⟨o,e,_⟩:=t; exact#[o,e]
     | txt x=>obtain⟨tk,⟨o,e,_⟩|⟨o,e,_⟩⟩:=t <;> exact#[o,e]
    simp only[Hj,IF,KI]at hb;rcases hb with rfl|rfl
    ·exact#[_,a]
    ·exact it d
   obtain⟨o,e⟩:=this;exact JC (Hd e)
  have up:∀b o,b∉[z,i1]->s.heap.get? b=gV o->g'.get? b=gV o:=λb o hb e=>by
   simp only[Hj,IF,KI,not_or]at hb;exact sb.extBut _ _ hb.1 (kp b o hb.1 hb.2 e)
  have I1:Inv X J Y H { s with heap:=g',toks:=tk }:=Mi.Inv.turnedL I up hf
  have ng':g'.get? s.heap.objs.size=gV { cls:=.type "tuple",data:=.seq [.int i tk0,u].toArray }:=sb.extBut _ _ (lt (by simp)) ng
  have I2:Inv X J Y (bH H s.heap.objs.size (.tup [.int i,x])) { s with heap:=g',toks:=tk }:=by
   show Mi.Inv.adopt I1 N0 (.inr I.sz) (JC I.lt) (λw c e=>?_) (λp hp=>?_) #[by change 2<=sizeLine; decide,[.int i tk0,u],.cons #[_,rfl] #v[r1],#[_,ng',rfl,0,rfl]]
   ·obtain⟨v,q⟩:=I.cell w c e;exact Ho q.lt
   ·exact Ho (Hd (I.pin p hp).1)
  show#[.ref s.heap.objs.size,_,I2,rfl,#[s.heap.objs.size,x,Zs.at_is I g1,rfl,N0,rfl],#[#[_,zg'],Zs.keep t1 λo e=>sb.extBut _ _ (Ne.symm D) e],λb hb=>?_]
  rw[aG (Ne.symm (lt hb))];exact(hf b hb).1
 done:=by
  intro X hP hw hK hc i J s Y H E I hf st hg;subst hP hw hK;obtain⟨⟨old,a⟩,d⟩:=st;have hf4:∀b∈[z,z,i1,i1],iB X J H b:=λb hb=>hf b (by simp only[Hj,IF,KI]at hb ⊢; rcases hb with h|h|h|h <;> simp[h])
  obtain⟨C1,Zq,c1,k1⟩:=Zs.zit (it:=i1) (Uq:=td) I hf4 hg;have hT:s.TypeIs (.ref z) "enumerate":=#[_,a,rfl];unfold pyNext;show GB (Ly (Ik (name:=Jk "__next__") hT F.slot_enumerate_next (Ix F.slot_enumerate_next hT F.entry_enumerate_next ?_ (F.args_enumerate_next_1 _))));show lR Zq (I.ok.hd hc) a d c1 D (λV e1=>by cases e1) λ_ h' e k #[o,ho,hc]=>?_
  exact GB (LF (T:="StopIteration") (b:=true) #[o,ho,hc] Od (GU #[rfl,Mi.Inv.turnedL (t':=s.toks) I (λb o hb e=>by
    simp only[Hj,IF,KI,not_or]at hb;exact k b o hb.2 e) hf]))
 self:=λ_ _ _ _ _ st h=>by obtain⟨⟨old,a⟩,_⟩:=st; exact Np a h
abbrev iO (xs:Gy W):Gy W:=xs.zipIdx.map λp=>.tup [.int (p.2:GJ),p.1]
def ki {xs:Gy W}{i:GJ}{w:W}(h:(iO xs)[i]?=gV w):∃x,xs[i]?=gV x/\w=.tup [.int i,x]:=by
 unfold iO at h;rw[GM,List.getElem?_zipIdx,Option.map_map,GD]at h;obtain⟨x,h1,rfl⟩:=h;exact#[x,h1,by simp]
abbrev vS (f:FA):FI:=λZ S=>match f Z S with
 | some ([x],S1)=>match EK x with
  | some xs=>gV (.its (iO xs),S1)
  | none=>td
 | _=>td
section
variable{X:Cx}{J:Gy (GP×IJ)}{Y:L2.St}{H:Hp}{s:GF}{A:Gy GP}
def vT {S1:Zs}{xs:Gy W}(z1:ZRel X.K A H xs S1):MIt X.w X.K (.its (iO xs)) (Ga X.K S1) A H:=by
 show#[λA' H' S i w e so hi=>?_,λA' H' S i e so hi=>?_]
 ·simp only[MI.at,Hx]at hi;obtain⟨x,e1,rfl⟩:=ki hi;obtain⟨v,g1,r1⟩:=(z1.mono e).at e1;show#[#[v,g1],λp H2 #[a,v',q1,hp,hn,hH]=>?_]
  subst hp hH;have ex:Ext X.K A' H' A' (bH H' a (.tup [.int i,v'])):=c9 (.inl hn);exact#[ex,so.lay hn,.tup (.of ba) #v[.int,((z1.mono e).is e1 q1).mono ex]]
 ·simp only[MI.at,Hx,IW,iO,Gz,List.length_zipIdx]at hi;exact(z1.mono e).out hi
def tK:bootBuiltins "enumerate" = gV (.type "enumerate"):=rfl
def zu {els:Gy Hh}{k0:GJ}{tp:Ju}{a:Hh}{f:FA}{p pos:Ju}(hg:Gl X "enumerate")(hm:X.mg "enumerate" = td)(ha:GA X [a] f)(hs:starEach [a] X.env=[(false,eval a X.env)]) :
  GI X (.Tuple els k0 tp) (.Call (.Name "enumerate" p) [a] [] pos) (vS f):=by
 intro J s Y H R I ⟨A,Z,S,mi,S',er,so,e,hq⟩;unfold vS at e;split at e
 ·rename_i x S1 h1;split at e
  ·rename_i xs e1;cases e;show Call_ (iA I hg hm tK (Jj (bm (ha pos J s Y H _ I #[A,Z,S,_,_,er,so,h1,λ_ _ z=>z]) λus s1 #[vs,H1,I1,r1,A1,z1,z2,z3]=>?_) (by rw[hs]; rfl) (by rfl)))
   cases z3 with
   | cons ra t=>
    cases t;cases r1 with
    | cons ua t=>
     cases t;obtain⟨Sa,oa,Ca,za,ia,ca,ka,na,ta⟩:=zt I1 ra ua e1;show tH ia ca na λh' hz g1 kp=>?_
     have I2:Inv X J Y H1 { s1 with heap:=h' }:=I1.kept (t':=s1.toks) kp
     show Np (s:={ s1 with heap:=h' }) hz ?_
     show#[s1.heap.objs.size+1,_,_,_,H1,rfl,I2,tJ (S1:=Sa) (i1:=s1.heap.objs.size) (by simp),#[#[_,hz],ta _ _ g1],λb hb=>?_,hq _ _ A1 z1 z2 (vT za)]
     have hb':s1.heap.objs.size<=b:=by
      simp only[Hj,IF,KI]at hb;rcases hb with rfl|rfl
      ·exact Nat.le_add_right _ _
      ·exact GY _
     exact I1.fpOk hb' (I1.hok.fresh hb')
  ·cases e
 ·cases e
end
end Mi
namespace Mi
open PySem PySem.Spec PyProof.Rows L2
abbrev B0 (g1 g2:Gy W->aa->GH (W×aa))(xs:Gy W)(S:aa):GH (W×aa):=match g1 xs S with
 | some r=>gV r
 | none=>g2 xs S
def vU {X:Cx}{f:GC}{g1 g2:Gy W->aa->GH (W×aa)}(h1:LCall X f g1)(h2:LCall X f g2):LCall X f (B0 g1 g2):=by
 intro J s Y H A S xs vs us w S' I so rl rv e;unfold B0 at e;split at e
 ·rename_i r hr;cases e;exact h1 J s Y H A S xs vs us w S' I so rl rv hr
 ·exact h2 J s Y H A S xs vs us w S' I so rl rv e
inductive Bi where|len|list|tuple|int|sorted|range|abs|all|min
 deriving J5
abbrev Bi.fn:Bi->Gy W->aa->GH (W×aa)
 | .len=>qb|.list=>B0 g8 j4|.tuple=>j8|.int=>Dr|.sorted=>eV|.range=>mI|.abs=>Dq|.all=>Bz|.min=>yI
abbrev Bi.name:Bi->Hc
 | .len=>"len"|.list=>"list"|.tuple=>"tuple"|.int=>"int"|.sorted=>"sorted"|.range=>"range"|.abs=>"abs"|.all=>"all"|.min=>"min"
inductive Me where|append|extend|pop|get|count|index
 deriving J5
abbrev Me.fn:Me->W->Gy W->aa->GH (W×aa)
 | .append=>g7|.extend=>jB|.pop=>yD|.get=>rq|.count=>jX|.index=>rL
abbrev Me.name:Me->Hc
 | .append=>"append"|.extend=>"extend"|.pop=>"pop"|.get=>"get"|.count=>"count"|.index=>"index"
abbrev Me.ty:Me->Ir
 | .append=>"list"|.extend=>"list"|.pop=>"list"|.get=>"dict"|.count=>"list"|.index=>"list"
inductive Tg where
 | nm (i:GJ)|tp (is:Gy GJ)
set_option genSizeOf false in
set_option genInjectivity false in
mutual
inductive E where
 | c (w:W)|v (i:GJ)
 | op (o:BOp) (a b:E)
 | cmp (o:COp) (a b:E)
 | and (a b:E)|or (a b:E)|not (a:E)
 | own (f:Hc) (n:GJ) (es:Es)|bi (b:Bi) (es:Es)|me (m:Me) (o:E) (es:Es)
 | ix (a b:E)|sl (a:E) (lo hi:Ep)|tup (es:Es)|lst (es:Es)
 | isi (c:Ir) (a:E)
 | neg (a:E)|dnew|disp (es:Es)|chn (o o':COp) (a b d:E)|ite (t a b:E)
 | comp (elt:E) (tg:Tg) (it:Ie) (cs:Es) (cap:Gy (GH GJ))
inductive Es where
 | nil|cons (e:E) (es:Es)
inductive Ep where
 | no|yes (e:E)
inductive Ie where
 | seq (e:E)|rng (es:Es)|rng2 (es:Es)|enu (es:Es)
end
set_option genSizeOf false in
set_option genInjectivity false in
mutual
inductive Sm where
 | set (i:GJ) (e:E)|asg (is:Gy GJ) (e:E)|par (i j:GJ) (es:Es)|put (o k e:E)
 | ex (e:E)|ret (e:E)|pass
 | ite (t:E) (a b:Ss)|whl (t:E) (b:Ss)|loop (tg:Tg) (it:Ie) (b:Ss)
inductive Ss where
 | nil|cons (s:Sm) (ss:Ss)
end
abbrev fX:Tg->FG
 | .nm i=>Ah i
 | .tp is=>CK is
section
variable (M:Hc->FF)
mutual
def aC:E->FE
 | .c w=>fC w
 | .v i=>fV i
 | .op o a b=>yK (g5 o) (aC a) (aC b)
 | .cmp o a b=>yL o (aC a) (aC b)
 | .and a b=>rF (aC a) (aC b)
 | .or a b=>yP (aC a) (aC b)
 | .not a=>rG (aC a)
 | .own f n es=>oB n (M f) (cR es)
 | .bi b es=>ji b.fn (cR es)
 | .me m o es=>CJ m.ty m.fn (aC o) (cR es)
 | .ix a b=>Fw (aC a) (aC b)
 | .sl a lo hi=>Dz (aC a) (rO lo) (rO hi)
 | .tup es=>vD (cR es)
 | .lst es=>vE (cR es)
 | .isi c a=>vM c (aC a)
 | .neg a=>vx (aC a)
 | .dnew=>Ai
 | .disp es=>oG (cR es)
 | .chn o o' a b d=>fI o o' (aC a) (aC b) (aC d)
 | .ite t a b=>yQ (cK t) (aC a) (aC b)
 | .comp elt tg it cs cap=>kh (iP it) (fX tg) (zv cs) (aC elt) cap
def cK:E->FT
 | .cmp o a b=>oz (yL o (aC a) (aC b))
 | .and a b=>vB (cK a) (cK b)
 | .or a b=>Dw (cK a) (cK b)
 | .not a=>yM (cK a)
 | .c w=>gA (fC w)
 | .v i=>gA (fV i)
 | .op o a b=>gA (yK (g5 o) (aC a) (aC b))
 | .own f n es=>gA (oB n (M f) (cR es))
 | .bi b es=>gA (ji b.fn (cR es))
 | .me m o es=>gA (CJ m.ty m.fn (aC o) (cR es))
 | .ix a b=>gA (Fw (aC a) (aC b))
 | .sl a lo hi=>gA (Dz (aC a) (rO lo) (rO hi))
 | .tup es=>gA (vD (cR es))
 | .lst es=>gA (vE (cR es))
 | .isi c a=>gA (vM c (aC a))
 | .neg a=>gA (vx (aC a))
 | .dnew=>λ_ _=>td
 | .disp _=>λ_ _=>td
 | .chn o o' a b d=>oz (fI o o' (aC a) (aC b) (aC d))
 | .ite _ _ _=>λ_ _=>td
 | .comp _ _ _ _ _=>λ_ _=>td
def cR:Es->FA
 | .nil=>ib
 | .cons e es=>dw (aC e) (cR es)
def zv:Es->FT
 | .nil=>Aj
 | .cons e .nil=>cK e
 | .cons _ (.cons _ _)=>λ_ _=>td
def rO:Ep->FO
 | .no=>BN
 | .yes e=>rJ (aC e)
def iP:Ie->FI
 | .seq e=>eu (aC e)
 | .rng es=>qg (cR es)
 | .rng2 es=>iRng2 (cR es)
 | .enu es=>vS (cR es)
end
variable (fuel:GJ)
mutual
def fB:Sm->FS
 | .set i e=>ke (aC M e) (Ah i)
 | .asg is e=>ke (aC M e) (CK is)
 | .par i j es=>y8 i j (cR M es)
 | .put o k e=>ke (aC M e) (y6 (aC M o) (aC M k))
 | .ex e=>yX (aC M e)
 | .ret e=>yZ (aC M e)
 | .pass=>vI
 | .ite t a b=>y4 (cK M t) (fK a) (fK b)
 | .whl t b=>mV (cK M t) (fK b) fuel
 | .loop tg it b=>vK (iP M it) (fX tg) (fK b)
def fK:Ss->FS
 | .nil=>λZ S=>gV (.nx Z,S)
 | .cons s ss=>yW (fB s) (fK ss)
end
end
structure Gam where
 sc:Gy (Hc×Iz)
 N:Gy Hc
 fns:Gy (Hc×GJ)
 blt:Gy Hc
 dfn:Hi
 own:Gy Hc
abbrev B1:GH Iz->Hi
 | some .local=>true|some .cell=>true|some .free=>true|_=>false
abbrev zw:GH Iz->Hi
 | some .cell=>true|some .free=>true|_=>false
abbrev fL (names outer:Gy (Hc×Iz)):Gy (Hc×Iz):=names.map λ(n,k)=>if (k==.free&&outer.lookup n==gV .cell)then(n,.cell)else(n,k)
abbrev slot (Γ:Gam)(x:Hc):GH GJ:=if B1 (Γ.sc.lookup x) && !(x==("__debug__" : Hc)) && !(x==("__classdict__" : Hc))then Γ.N.findIdx? (· == x)else td
abbrev rP:M7->GH BOp
 | .Add=>gV .add|.Sub=>gV .sub|.Mult=>gV .mul|.FloorDiv=>gV .fdiv|.Mod=>gV .mod|.Pow=>gV .pow|_=>td
abbrev jj:NN->GH COp
 | .Eq=>gV .eq|.NotEq=>gV .ne|.Lt=>gV .lt|.LtE=>gV .le|.Gt=>gV .gt|.GtE=>gV .ge|.In=>gV .isin|.NotIn=>gV .notin|.Is=>gV .is|.IsNot=>gV .isnot
abbrev zx (x:Hc):GH Bi:=[Bi.len,.list,.tuple,.int,.sorted,.range,.abs,.all,.min].find? λb=>b.name==x
abbrev zy (x:Hc):GH Me:=[Me.append,.extend,.pop,.get,.count,.index].find? λb=>b.name==x
abbrev DJ (Γ:Gam)(x:Hc):Hi:=Γ.sc.lookup x==gV .globalImplicit && !(x==("__debug__" : Hc))
abbrev vV (x:Hc):GH Ir:=if x==("bool" : Hc)then gV "bool" else if x==("int" : Hc)then gV "int" else if x==("str" : Hc)then gV "str" else if x==("tuple" : Hc)then gV "tuple" else if x==("list" : Hc)then gV "list" else if x==("dict" : Hc)then gV "dict" else td
abbrev rQ:Gy (GH Hh)->Gy Hh->Gy Hh
 | some k::ks,v::vs=>k::v::rQ ks vs
 | _,_=>[]
abbrev zz (Γ:Gam)(f:Hh->GH E):Gy Hh->GH E
 | [a,.Name c _]=>if DJ Γ c&&Γ.blt.contains c then match vV c,f a with
  | some cs,gV a'=>gV (.isi cs a')
  | _,_=>td
  else td
 | _=>td
abbrev fY:Hh->Hi
 | .Name _ _=>true|.Constant _ _ _=>true|.Subscript _ _ _=>true|_=>false
abbrev lh (Γ:Gam)(x:Hc):Hi:=Γ.sc.lookup x==gV .globalImplicit && !(x==("__debug__" : Hc))
abbrev cU (Γ:Gam)(x:Hc):GH GJ:=if (Γ.sc.lookup x==gV .local)||((Γ.dfn||Γ.own.contains x)&&Γ.sc.lookup x==gV .cell)then Γ.N.findIdx? (· == x)else td
abbrev cA (f:Hh->GH E)(es:Gy Hh):GH Es:=es.foldr (λe acc=>match f e,acc with|some e',gV es'=>gV (.cons e' es')|_,_=>td) (gV .nil)
abbrev cB (f:Hh->GH E)(op:Pd):Gy Hh->GH E
 | []=>td
 | [a]=>f a
 | a::b::cj=>match f a,cB f op (b::cj)with
  | some a',gV b'=>gV (match op with|.And=>.and a' b'|.Or=>.or a' b')
  | _,_=>td
abbrev cP (f:Hh->GH E):GH Hh->GH Ep
 | none=>gV .no
 | some e=>(f e).map .yes
abbrev isTup:Hh->Hi
 | .Tuple _ _ _=>true
 | _=>false
abbrev cI (Γ:Gam)(f:Hh->GH E)(tg:Hh):Hh->GH Ie
 | .Call (.Name x p) [a] [] q=>if x==("range" : Hc)&&lh Γ x&&Γ.blt.contains x then(cA f [a]).map .rng else if x==("enumerate" : Hc)&&lh Γ x&&Γ.blt.contains x&&isTup tg then(cA f [a]).map .enu else(f (.Call (.Name x p) [a] [] q)).map .seq
 | .Call (.Name x p) [a,b] [] q=>if x==("range" : Hc)&&lh Γ x&&Γ.blt.contains x then(cA f [a,b]).map .rng2 else(f (.Call (.Name x p) [a,b] [] q)).map .seq
 | e=>(f e).map .seq
abbrev CL (Γ:Gam):Gy Hh->GH (Gy GJ)
 | []=>gV []
 | .Name x _::ts=>match cU Γ x,CL Γ ts with
  | some i,gV is=>gV (i::is)
  | _,_=>td
 | _::_=>td
abbrev cT (Γ:Gam):Hh->GH Tg
 | .Name x _=>(cU Γ x).map .nm
 | .Tuple ts _ _=>(CL Γ ts).map .tp
 | _=>td
abbrev gF (names:Gy (Hc×Iz)):Gy Hc:=(names.filter λp=>p.2==.local||p.2==.cell||p.2==.free).map (·.1)
abbrev fZ (Γ:Gam)(names:Gy (Hc×Iz)):Gy (GH GJ):=(gF names).map λx=>if names.lookup x==gV .local||names.lookup x==gV .cell then td else Γ.N.findIdx? (· == x)
abbrev vW (Γ:Gam)(scope:JU):Hi:=
 (scope.kind==.function)&&scope.names.all (λy=>!(y.2==.local)||scope.names.lookup y.1==gV .local)&&scope.names.all (λy=>!(y.2==.cell)||scope.names.lookup y.1==gV .cell) &&
 scope.names.all (λy=>!(y.2==.free)||(zw (Γ.sc.lookup y.1)&&scope.names.lookup y.1==gV .free&&(Γ.N.findIdx? (· == y.1)).isSome))&&decide (gF scope.names).Nodup
abbrev gG (Γ:Gam)(scope:JU):Gam:={ Γ with sc:=fL scope.names Γ.sc,N:=gF scope.names,dfn:=false,own:=(scope.names.filter λp=>p.2==.cell).map (·.1) }
abbrev vX (f:Hh->GH E)(keys:Gy (GH Hh))(values:Gy Hh):GH E:=
 if keys.isEmpty&&values.isEmpty then gV .dnew
 else if keys.all (·.isSome)&&decide (keys.length=values.length)&&decide (keys.length<=15)then(cA f (rQ keys values)).map .disp else td
abbrev cE:GJ->Gam->Hh->GH E
 | 0,_,_=>td
 | n+1,Γ,e=>match e with
  | .Constant (.int i) _ _=>gV (.c (.int i))
  | .Constant (.str x) _ _=>gV (.c (.str x))
  | .Constant (.bool b) _ _=>gV (.c (.bl b))
  | .Constant .none _ _=>gV (.c .non)
  | .Name x _=>match slot Γ x with
   | some i=>gV (.v i)
   | none=>td
  | .BinOp a op b _=>match rP op,cE n Γ a,cE n Γ b with
   | some o,gV a',gV b'=>gV (.op o a' b')
   | _,_,_=>td
  | .UnaryOp .Not a _=>(cE n Γ a).map .not
  | .UnaryOp .USub a _=>(cE n Γ a).map .neg
  | .BoolOp op vs _=>cB (cE n Γ) op vs
  | .Compare a [op] [b] _=>match jj op,cE n Γ a,cE n Γ b with
   | some o,gV a',gV b'=>gV (.cmp o a' b')
   | _,_,_=>td
  | .Compare a [op,op'] [b,d] _=>match jj op,jj op',cE n Γ a,cE n Γ b,cE n Γ d with
   | some o,gV o',gV a',gV b',gV d'=>gV (.chn o o' a' b' d')
   | _,_,_,_,_=>td
  | .IfExp t a b _=>match cE n Γ t,cE n Γ a,cE n Γ b with
   | some t',gV a',gV b'=>gV (.ite t' a' b')
   | _,_,_=>td
  | .Call (.Name f _) args [] _=>if lh Γ f then match Γ.fns.lookup f with
    | some k=>(cA (cE n Γ) args).map (.own f k)
    | none=>if f==("isinstance" : Hc)then(if Γ.blt.contains f then zz Γ (cE n Γ) args else td)else match zx f,args with
     | some b,a::as=>if Γ.blt.contains f then(cA (cE n Γ) (a::as)).map (.bi b)else td
     | _,_=>td
   else td
  | .Call (.Attribute o m apos) (a::as) [] cpos=>match zy m,cE n Γ o,cA (cE n Γ) (a::as)with
   | some m',gV o',gV es=>if fY o&&(apos.endLine==cpos.line)&&decide ((a::as).length < 29)then gV (.me m' o' es)else td
   | _,_,_=>td
  | .Subscript a (.Slice lo hi td _) _=>match cE n Γ a,cP (cE n Γ) lo,cP (cE n Γ) hi with
   | some a',gV lo',gV hi'=>gV (.sl a' lo' hi')
   | _,_,_=>td
  | .Subscript a b _=>match cE n Γ a,cE n Γ b with
   | some a',gV b'=>gV (.ix a' b')
   | _,_=>td
  | .Tuple es _ _=>(cA (cE n Γ) es).map .tup
  | .List es _=>(cA (cE n Γ) es).map .lst
  | .Dict keys values _=>vX (cE n Γ) keys values
  | .ListComp elt [#[tg,iter,ifs,asy]] scope _=>if (asy==0)&&(vW Γ scope&&decide (ifs.length<=1))then
    match cI Γ (cE n Γ) tg iter,cT (gG Γ scope) tg,cA (cE n (gG Γ scope)) ifs,cE n (gG Γ scope) elt with
    | some it,gV t,gV cs,gV el=>gV (.comp el t it cs (fZ Γ scope.names))
    | _,_,_,_=>td
   else td
  | _=>td
structure CtxOk (M:Hc->FF)(X:Cx)(Γ:Gam):Prop where
 names:X.env.scope.names=Γ.sc
 kind:X.env.scope.kind=.function
 N:X.N=Γ.N
 nd:Γ.N.Nodup
 calm:X.calm=true
 xe:X.xe=λ_ _=>Ip
 un:X.A.units+fE < cLine
 dfn:Γ.dfn=true->∀x,X.fn x=true
 own:∀x∈Γ.own,X.fn x=true
 blt:∀x∈Γ.blt,X.mg x=td
 fns:∀f n,Γ.fns.lookup f=gV n->∃k fa fd ps,FnOk X.prog X.w X.K X.mg X.base ur k fa fd ps (spF X.w X.K n (M f))/\Room k X.A/\X.mg f=gV (.ref fa)/\Iw X.K (.ref fa)=true/\Binds X.K fd ps []
def aH {α:Type}{x:α}{P:Prop}(h:(td:GH α)=gV x):P:=nomatch h
abbrev gS:Hh->Hi
 | .Starred _ _=>false
 | _=>true
def aB {e:Hh}{es:Gy Hh}{env:MO}(h:gS e=true):starEach (e::es) env=(false,eval e env)::starEach es env:=by
 cases e <;> first|rfl|cases h
def aW {env:MO}{pos:Ju}:∀ {es:Gy Hh},es.all gS=true->(backTo pos (starEach es env)).any (·.1)=false
 | [],_=>rfl
 | e::es,h=>by
  rw[HN,GK]at h;rw[aB h.1];show(false||(backTo pos (starEach es env)).any (·.1))=false
  rw[aW h.2];rfl
def oK {env:MO}{pos:Ju}:∀ {es:Gy Hh},es.all gS=true->(backTo pos (starEach es env)).all (λx=>!x.1)=true
 | [],_=>rfl
 | e::es,h=>by
  rw[HN,GK]at h;rw[aB h.1];show(true&&(backTo pos (starEach es env)).all (λx=>!x.1))=true
  rw[oK h.2];rfl
def iQ {n:GJ}{Γ:Gam}{e:Hh}{e':E}(h:cE n Γ e=gV e'):gS e=true:=by
 cases n with
 | zero=>cases h
 | succ n=>cases e <;> first|rfl|(exact aH h)
def ie {f:Hh->GH E}{e:Hh}{es:Gy Hh}{r:Es}(h:cA f (e::es)=gV r):∃e' es',f e=gV e'/\cA f es=gV es'/\r=.cons e' es':=by
 simp only[cA,NW]at h;split at h
 ·rename_i e' es' h1 h2;cases h;exact#[e',es',h1,h2,rfl]
 ·cases h
def cD {n:GJ}{Γ:Gam}:∀ {es:Gy Hh} {r:Es},cA (cE n Γ) es=gV r->es.all gS=true
 | [],_,_=>rfl
 | e::es,r,h=>by
  obtain⟨e',es',h1,h2,_⟩:=ie h;rw[HN,iQ h1,cD h2];rfl
def de {N:Gy Hc}{x:Hc}{i:GJ}(h:N.findIdx? (· == x)=gV i):N[i]?=gV x:=by
 obtain⟨hl,h1,_⟩:=IR.mp h;rw[G5 hl];exact congrArg gV (eq_of_beq h1)
section
variable{M:Hc->FF}{X:Cx}{Γ:Gam}
def jE {e:Hh}:GT X e (λ_ _=>td):=λJ s Y H Q I #[A,Z,S,k,S',er,so,e1,hq]=>by cases e1
def vY {x:Hc}(h:B1 (X.env.scope.names.lookup x)=true):ER X.env.scope x:=by
 unfold B1 at h;split at h
 ·exact .inl (by assumption)
 ·exact .inr (.inl (by assumption))
 ·exact .inr (.inr (by assumption))
 ·cases h
def vZ (K:CtxOk M X Γ){x:Hc}{pos:Ju}{i:GJ}(h:slot Γ x=gV i):GE X (.Name x pos) (fV i):=by
 unfold slot at h;split at h
 ·rename_i hc;rw[GK,GK]at hc;obtain⟨⟨h1,h2⟩,h3⟩:=hc;show Fv (AM (by rw[K.N]; exact de h) (vY (by rw[K.names]; exact h1)) (by simpa using h2) (by simpa using h3))
 ·cases h
def kj (K:CtxOk M X Γ){x:Hc}(h:lh Γ x=true):Gl X x/\(x==("__debug__" : Hc))=false:=by
 unfold lh at h;rw[GK]at h;show#[?_,by simpa using h.2]
 change X.env.scope.names.lookup x=_;rw[K.names];exact eq_of_beq h.1
def km {o:NN}{c:COp}(h:jj o=gV c):c.py=o:=by
 cases o <;> (simp only[jj,Hx]at h; subst h; rfl)
def v6 {o:M7}{c:BOp}(h:rP o=gV c):c.py=o:=by
 cases o <;> simp only[rP,Hx]at h <;> first|(subst h; rfl)|cases h
def tL {x:Hc}{b:Bi}(h:zx x=gV b):b.name=x:=by
 have:=KZ h;exact eq_of_beq this
def tM {x:Hc}{b:Me}(h:zy x=gV b):b.name=x:=by
 have:=KZ h;exact eq_of_beq this
def du {n:GJ}(ih:∀ {e:Hh} {e':E},cE n Γ e=gV e'->GE X e (aC M e')):∀ {es:Gy Hh} {r:Es},cA (cE n Γ) es=gV r->GA X es (cR M r)
 | [],r,h=>by cases h; exact BM
 | e::es,r,h=>by
  obtain⟨e',es',h1,h2,rfl⟩:=ie h;exact yR (ih h1) (du ih h2) (aB (iQ h1))
def DK (K:CtxOk M X Γ){n:GJ}{f:Hc}{p pos:Ju}{args:Gy Hh}{k:GJ}{r:Es}(hg:lh Γ f=true)(hf:Γ.fns.lookup f=gV k)(ha:cA (cE n Γ) args=gV r)(h:GA X args (cR M r)):GE X (.Call (.Name f p) args [] pos) (oB k (M f) (cR M r)):=by
 obtain⟨d,fa,fd,ps,F,hr,hm,hk,hb⟩:=K.fns f k hf;obtain⟨g1,g2⟩:=kj K hg;cases args with
 | nil=>cases ha; exact yU F hr g1 hm hk hb g2
 | cons a as=>
  have ns:=cD ha;rw[HN,GK]at ns;exact BO F hr g1 hm hk hb h g2 (aB ns.1) (aW ns.2)
def Fy (K:CtxOk M X Γ){n:GJ}{f:Hc}{p pos:Ju}{a:Hh}{as:Gy Hh}{b:Bi}{r:Es}(hg:lh Γ f=true)(hb:zx f=gV b)(hc:Γ.blt.contains f=true)(ha:cA (cE n Γ) (a::as)=gV r)(h:GA X (a::as) (cR M r)):GE X (.Call (.Name f p) (a::as) [] pos) (ji b.fn (cR M r)):=by
 obtain⟨g1,g2⟩:=kj K hg;have hm:X.mg f=td:=K.blt f (by simpa using hc)
 have ns:=cD ha;rw[HN,GK]at ns;have e:=tL hb;subst e;have hu:X.A.units+12 < cLine:=by have:=K.un; have:fE=20:=rfl; omega
 have calm:∀ {f:GC} {g:Gy W->aa->GH (W×aa)},(X.A.handled=td->LCall X f g)->LCall X f g:=λh J s Y H A S xs vs us w S' I=>h (I.ok.hd K.calm) J s Y H A S xs vs us w S' I
 cases b with
 | len=>exact oA qi g1 hm PySem.boot_len h #v[] g2 (aB ns.1) (aW ns.2)
 | list=>exact rH (calm λhh=>vU (nW hh) (ow hh)) g1 hm rfl h #v[] g2 (aB ns.1) (aW ns.2)
 | tuple=>exact rH (calm mU) g1 hm rfl h #v[] g2 (aB ns.1) (aW ns.2)
 | int=>exact rH sT g1 hm rfl h #v[] g2 (aB ns.1) (aW ns.2)
 | sorted=>exact oA (calm λhh=>mR hh hu) g1 hm rfl h #v[] g2 (aB ns.1) (aW ns.2)
 | range=>exact rH nV g1 hm rfl h #v[] g2 (aB ns.1) (aW ns.2)
 | abs=>exact oA sS g1 hm rfl h #v[] g2 (aB ns.1) (aW ns.2)
 | all=>exact oA (calm tB) g1 hm rfl h #v[] g2 (aB ns.1) (aW ns.2)
 | min=>exact oA (calm λhh=>tu hh hu) g1 hm rfl h #v[] g2 (aB ns.1) (aW ns.2)
def v8 {x:Hc}{c:Ir}(h:vV x=gV c):bootBuiltins x=gV (.type c)/\x≠"__name__":=by
 unfold vV at h;split at h
 ·rename_i e; cases h; rw[eq_of_beq e]; exact#[rfl,#v[]]
 ·split at h
  ·rename_i e; cases h; rw[eq_of_beq e]; exact#[rfl,#v[]]
  ·split at h
   ·rename_i e; cases h; rw[eq_of_beq e]; exact#[rfl,#v[]]
   ·split at h
    ·rename_i e; cases h; rw[eq_of_beq e]; exact#[rfl,#v[]]
    ·split at h
     ·rename_i e; cases h; rw[eq_of_beq e]; exact#[rfl,#v[]]
     ·split at h
      ·rename_i e; cases h; rw[eq_of_beq e]; exact#[rfl,#v[]]
      ·cases h
def DL (K:CtxOk M X Γ){n:GJ}{f:Hc}{p pos:Ju}{args:Gy Hh}{r:E}(hg:lh Γ f=true)(hb:(f==("isinstance" : Hc))=true)(hc:Γ.blt.contains f=true)(ih:∀ {e:Hh} {e':E},cE n Γ e=gV e'->GE X e (aC M e'))(h:zz Γ (cE n Γ) args=gV r) :
  GE X (.Call (.Name f p) args [] pos) (aC M r)/\∃a c,r=.isi c a:=by
 obtain⟨g1,g2⟩:=kj K hg;have hm:X.mg f=td:=K.blt f (by simpa using hc)
 have e:=eq_of_beq hb;subst e;unfold zz at h;split at h
 ·rename_i a c q;split at h
  ·rename_i hcc;rw[GK]at hcc;obtain⟨g3,g4⟩:=kj K (x:=c) hcc.1;have hm2:X.mg c=td:=K.blt c (by simpa using hcc.2)
   split at h
   ·rename_i cs a' h1 h2;cases h;obtain⟨b1,b2⟩:=v8 h1;exact#[BY g1 hm g3 hm2 b1 b2 g4 (ih h2) (aB (iQ h2)),a',cs,rfl]
   ·cases h
  ·cases h
 ·cases h
def dJ {o:Hh}{name:Hc}{env:MO}(h:fY o=true):attributeBase o name env (eval o env)=eval o env:=by
 cases o <;> first|rfl|cases h
def rR {n:GJ}{pos:Ju}(ih:∀ {e:Hh} {e':E},cE n Γ e=gV e'->GE X e (aC M e')):∀(keys:Gy (GH Hh)) (values:Gy Hh) {r:Es},keys.all (·.isSome)=true->keys.length=values.length->cA (cE n Γ) (rQ keys values)=gV r->DF X pos keys values (cR M r)
 | [],[],r,_,_,h=>by cases h; exact zm
 | [],_::_,r,_,hl,_=>by cases hl
 | _::_,[],r,_,hl,_=>by cases hl
 | none::_,_::_,r,ha,_,_=>by cases ha
 | some k::ks,v::vs,r,ha,hl,h=>by
  dsimp only[rQ]at h;obtain⟨e1,es1,h1,h2,rfl⟩:=ie h;obtain⟨e2,es2,h3,h4,rfl⟩:=ie h2;rw[HN,GK]at ha;exact vN (ih h1) (ih h3) (rR ih ks vs ha.2 (by simpa using hl) h4)
def Fz (K:CtxOk M X Γ){n:GJ}{m:Hc}{apos cpos:Ju}{o a:Hh}{as:Gy Hh}{b:Me}{o':E}{r:Es}(hm:zy m=gV b)(hr:fY o=true)(hl:(apos.endLine==cpos.line)=true)(hn:(a::as).length < 29)(ho:GE X o (aC M o'))(ha:cA (cE n Γ) (a::as)=gV r)(h:GA X (a::as) (cR M r)) :
  GE X (.Call (.Attribute o m apos) (a::as) [] cpos) (CJ b.ty b.fn (aC M o') (cR M r)):=by
 have ns:=cD ha;have ns':=ns;rw[HN,GK]at ns;have lp:((backTo cpos (starEach (a::as) X.env)).all (λx=>!x.1)&&(backToKw cpos (keywordEach [] X.env)).all (λx=>x.1.isSome)&&decide ((a::as).length+([]:Gy NZ).length+(if ([]:Gy NZ).isEmpty then 0 else 1) < 30))=true:=by
  rw[oK ns',JM,GK];exact#[rfl,HI (by simp only[IL,List.isEmpty_nil,JE]; omega)]
 have e:=tM hm;subst e;cases b with
 | append=>exact lO Je PySem.F.slot_list_append PySem.F.type_list_append mG ho h (dJ hr) lp hl (aB ns.1) (aW ns.2)
 | extend=>exact lO Je PySem.F.slot_list_extend PySem.F.type_list_extend mH ho h (dJ hr) lp hl (aB ns.1) (aW ns.2)
 | pop=>exact lO Je PySem.F.slot_list_pop PySem.F.type_list_pop sU ho h (dJ hr) lp hl (aB ns.1) (aW ns.2)
 | get=>exact lO PySem.F.plainAttrs_dict Ma PySem.F.type_dict_get (p8 (by have:=K.un; have:fE=20:=rfl; omega)) ho h (dJ hr) lp hl (aB ns.1) (aW ns.2)
 | count=>exact lO Je PySem.F.slot_list_count PySem.F.type_list_count nR ho h (dJ hr) lp hl (aB ns.1) (aW ns.2)
 | index=>exact lO Je LH PySem.F.type_list_index mW ho h (dJ hr) lp hl (aB ns.1) (aW ns.2)
def ig {n:GJ}{Γ:Gam}{e:Hh}{e':E}{op:NN}(h:cE n Γ e=gV e'):behindInMarks op e=false:=by
 cases n with
 | zero=>cases h
 | succ n=>cases e <;> first|rfl|(exact aH h)
def ql {n:GJ}{Γ:Gam}{e:Hh}{e':E}(h:cE n Γ e=gV e'):mw e:=by
 cases n with
 | zero=>cases h
 | succ n=>cases e <;> first|(intro o i; rfl)|(exact aH h)
def mY {n:GJ}{Γ:Gam}{f:Hh->GH E}{e:Hh}{i:Ie}{env:MO}{tg:Hh}(hf:∀el k p,f (.Set el k p)=td)(h:cI Γ f tg e=gV i):∀x,foldedSetIterable e env x=pure x:=by
 intro x;cases e <;> first|rfl|(simp[cI,hf]at h)
def mZ {n:GJ}{op:Pd}{pos:Ju}(ih:∀ {e:Hh} {e':E},cE n Γ e=gV e'->GE X e (aC M e')):∀ {vs:Gy Hh} {r:E},cB (cE n Γ) op vs=gV r->GE X (.BoolOp op vs pos) (aC M r)
 | [],r,h=>by cases h
 | [a],r,h=>BI (ih h)
 | a::b::cj,r,h=>by
  simp only[cB]at h;split at h
  ·rename_i a' b' h1 h2;cases h;cases op with
   | And=>exact BJ (ih h1) (mZ ih h2)
   | Or=>exact Dy (ih h1) (mZ ih h2)
  ·cases h
def nb {n:GJ}{op:Pd}{pos:Ju}(ih:∀ {e:Hh} {e':E},cE n Γ e=gV e'->GT X e (cK M e')):∀ {vs:Gy Hh} {r:E},cB (cE n Γ) op vs=gV r->GW X (.BoolOp op vs pos) (cK M r)
 | [],r,h=>by cases h
 | [a],r,h=>by
  cases op with
  | And=>exact yO (ih h)
  | Or=>exact BF (ih h)
 | a::b::cj,r,h=>by
  simp only[cB]at h;split at h
  ·rename_i a' b' h1 h2;cases h;cases op with
   | And=>exact BG (ih h1) (nb ih h2)
   | Or=>exact Dx (ih h1) (nb ih h2)
  ·cases h
def wa {n:GJ}(ih:∀ {e:Hh} {e':E},cE n Γ e=gV e'->GE X e (aC M e')){o:GH Hh}{p:Ep}(h:cP (cE n Γ) o=gV p):GO X o (rO M p):=by
 cases o with
 | none=>cases h; exact yS
 | some e=>
  simp only[cP,GD]at h;obtain⟨e',h1,rfl⟩:=h;exact yT (ih h1)
def qm (K:CtxOk M X Γ){n:GJ}(ih:∀ {e:Hh} {e':E},cE n Γ e=gV e'->GE X e (aC M e')){tg e:Hh}{i:Ie}(h:cI Γ (cE n Γ) tg e=gV i):GI X tg e (iP M i):=by
 have gen:(cE n Γ e).map Ie.seq=gV i->GI X tg e (iP M i):=λh=>by
  rw[GD]at h;obtain⟨e',h1,rfl⟩:=h;exact zq (ih h1)
 unfold cI at h;split at h
 ·rename_i x p a pos;split at h
  ·rename_i hc;rw[GK,GK]at hc;obtain⟨⟨h1,h2⟩,h3⟩:=hc;have hx:=eq_of_beq h1;subst hx;rw[GD]at h;obtain⟨r,hr,rfl⟩:=h;have ns:=cD hr;rw[HN,GK]at ns;exact zf (kj K h2).1 (K.blt _ (by simpa using h3)) (du ih hr) (aB ns.1)
  ·split at h
   ·rename_i hc;rw[GK,GK,GK]at hc;obtain⟨⟨⟨h1,h2⟩,h3⟩,h4⟩:=hc;have hx:=eq_of_beq h1;subst hx;rw[GD]at h;obtain⟨r,hr,rfl⟩:=h;have ns:=cD hr;rw[HN,GK]at ns;cases tg with
    | Tuple els k0 tp=>exact zu (kj K h2).1 (K.blt _ (by simpa using h3)) (du ih hr) (aB ns.1)
    | _=>cases h4
   ·exact gen h
 ·rename_i x p a b pos;split at h
  ·rename_i hc;rw[GK,GK]at hc;obtain⟨⟨h1,h2⟩,h3⟩:=hc;have hx:=eq_of_beq h1;subst hx;rw[GD]at h;obtain⟨r,hr,rfl⟩:=h;have ns:=cD hr;rw[HN,HN,GK,GK]at ns;exact zh (kj K h2).1 (K.blt _ (by simpa using h3)) (du ih hr) (by rw[aB ns.1,aB ns.2.1]; rfl) (aB ns.2.1)
  ·exact gen h
 ·exact gen h
def nh (K:CtxOk M X Γ){x:Hc}{i:GJ}(h:cU Γ x=gV i):X.N[i]?=gV x/\xN X.env.scope x/\(X.fn x=true\/X.env.scope.names.lookup x=gV .local):=by
 unfold cU at h;split at h
 ·rename_i hc;show#[by rw[K.N]; exact de h,?_]
  unfold L2.xN;rw[K.names];rw[ID,GK]at hc;rcases hc with hc|⟨hd,hc⟩
  ·have:=eq_of_beq hc;exact#[.inl this,.inr this]
  ·rw[ID]at hd;exact#[.inr (eq_of_beq hc),.inl (hd.elim (λhd=>K.dfn hd x) λhd=>K.own x (by simpa using hd))]
 ·cases h
def oM (K:CtxOk M X Γ):∀ {ts:Gy Hh} {is:Gy GJ},CL Γ ts=gV is->(∀x∈ts,∃y p,x=Mw y p)/\LK (λ(t:Hh) (i:GJ)=>∃x p,t=Mw x p/\X.N[i]?=gV x/\xN X.env.scope x/\(X.fn x=true\/X.env.scope.names.lookup x=gV .local)) ts is
 | [],is,h=>by cases h; exact#[λx hx=>by simp at hx,.nil]
 | t::ts,is,h=>by
  cases t with
  | Name x p=>
   dsimp only[CL]at h;split at h
   ·rename_i i is' h1 h2;cases h;obtain⟨a,b⟩:=oM K h2;exact#[λy hy=>(Hj.mp hy).elim (λe=>#[x,p,e]) (a y),.cons #[x,p,rfl,nh K h1] b]
   ·cases h
  | _=>cases h
def gT {env:MO}:∀ {ts:Gy Hh},(∀x∈ts,∃y p,x=Mw y p)->(assignEach ts env).length=ts.length/\(assignEach ts env).findIdx? (·.1)=td
 | [],_=>#[rfl,rfl]
 | t::ts,h=>by
  obtain⟨y,p,rfl⟩:=h t HU;obtain⟨a,b⟩:=gT (env:=env) λx hx=>h x (HC _ hx)
  show#[by show(assignEach ts env).length+1=ts.length+1; rw[a],?_]
  change List.findIdx? (·.1) ((false,assign (.Name y p) env)::assignEach ts env)=td
  rw[List.findIdx?_cons,b];rfl
def rS (K:CtxOk M X Γ){tg:Hh}{t:Tg}(h:cT Γ tg=gV t):GG X tg (fX t):=by
 have hN:X.N.Nodup:=by rw[K.N]; exact K.nd
 cases tg with
 | Name x p=>
  dsimp only[cT]at h; simp only[GD]at h
  obtain⟨i,h1,rfl⟩:=h;obtain⟨a,b,c⟩:=nh K h1;exact rK hN a b c
 | Tuple ts k p=>
  dsimp only[cT]at h; simp only[GD]at h
  obtain⟨is,h1,rfl⟩:=h;obtain⟨a,b⟩:=oM K h1;exact BR K.calm a b hN (gT a).1 (gT a).2
 | _=>cases h
end
abbrev eF (env:MO):Gy (Hc×Iz)->Gy (Hc×GP)->Gy (Hc×GP)
 | [],cs=>cs
 | (n,k)::r,cs=>eF env r (if k==.free then(n,(env.cells.lookup n).getD 0)::cs else cs)
def iR {env:MO}:∀(names:Gy (Hc×Iz)) (cs:Gy (Hc×GP)),(∀y∈names,y.2=.free->(env.cells.lookup y.1).isSome=true)->
  (forIn names cs λx r=>match x with|(name,kind)=>if (kind==Kq)=true then do let a <- cellOf env name; pure (IM ((name,a)::r))else pure (IM r):OQ (Gy (Hc×GP)))=pure (eF env names cs)
 | [],cs,_=>by rw[Mo]; rfl
 | (n,k)::r,cs,h=>by
  rw[L1];have hr:=λy hy=>h y (HC _ hy)
  by_cases hk:(k==Kq)=true
  ·obtain⟨c,hc⟩:=HW.mp (h (n,k) HU (eq_of_beq hk));have e1:cellOf env n=pure c:=by unfold cellOf; rw[hc]
   simp only[hk,JE,e1,pure_bind];rw[iR r _ hr];simp only[eF,hk,JE,hc,NJ]
  ·have hk':(k==Kq)=false:=by simpa using hk
   simp only[hk',Iu,JD,pure_bind];rw[iR r _ hr];simp only[eF,hk',Iu,JD]
def jz {scope:JU}{env:MO}(h:∀y∈scope.names,y.2=.free->(env.cells.lookup y.1).isSome=true):closureFor scope env=pure (eF env scope.names []):=by
 have:=iR scope.names [] h;unfold closureFor;simp only[this,pure_bind]
def kn {env:MO}:∀(names:Gy (Hc×Iz)) (cs:Gy (Hc×GP)),(∀y∈names,y.2=.free->(env.cells.lookup y.1).isSome=true)->(∀x c,cs.lookup x=gV c->env.cells.lookup x=gV c)->
  ∀x c,(eF env names cs).lookup x=gV c->env.cells.lookup x=gV c
 | [],cs,_,h,x,c,e=>h x c e
 | (n,k)::r,cs,hn,h,x,c,e=>by
  show kn r _ (λy hy=>hn y (HC _ hy)) (λx c e=>?_) x c e
  split at e
  ·rename_i hk;rw[Ig]at e;split at e
   ·rename_i hx;cases e;have:=eq_of_beq hx;subst this;obtain⟨c,hc⟩:=HW.mp (hn (x,k) HU (eq_of_beq hk));rw[hc]; rfl
   ·exact h x c e
  ·exact h x c e
def jk {env:MO}{x:Hc}:∀(names:Gy (Hc×Iz)) (cs:Gy (Hc×GP)),(∃c,cs.lookup x=gV c)->∃c,(eF env names cs).lookup x=gV c
 | [],cs,h=>h
 | (n,k)::r,cs,h=>by
  show jk r _ ?_;split
  ·rw[Ig];split
   ·exact#[_,rfl]
   ·exact h
  ·exact h
def ko {env:MO}{x:Hc}:∀(names:Gy (Hc×Iz)) (cs:Gy (Hc×GP)),(x,Kq)∈names->∃c,(eF env names cs).lookup x=gV c
 | [],cs,h=>by simp at h
 | (n,k)::r,cs,h=>by
  rcases Hj.mp h with e|h
  ·cases e;show jk r _ ?_;simp[Ig]
  ·exact ko r _ h
def kq {x:Hc}{k:Iz}:∀ {l:Gy (Hc×Iz)},l.lookup x=gV k->(x,k)∈l
 | [],h=>by simp at h
 | (n,j)::r,h=>by
  rw[Ig]at h;split at h
  ·rename_i hx;cases h;have:=eq_of_beq hx;subst this;exact HU
  ·exact HC _ (kq h)
def eG {X:Cx}{M:Hc->FF}{Γ:Gam}(K:CtxOk M X Γ)(scope:JU):(relabel scope X.env).names=fL scope.names Γ.sc:=by
 unfold relabel fL LU;rw[K.kind,K.names];show HH λ#[n,k] _=>?_
 have e:(M1==M1)=true:=rfl;simp only[e,MG]
def dW {outer:Gy (Hc×Iz)}{x:Hc}:∀ {names:Gy (Hc×Iz)},(fL names outer).lookup x=(names.lookup x).map λk=>if (k==.free&&outer.lookup x==gV .cell)then .cell else k
 | []=>rfl
 | (n,k)::r=>by
  have ih:=dW (outer:=outer) (x:=x) (names:=r);change List.lookup x ((if (k==Kq&&outer.lookup n==gV .cell)=true then(n,J1)else(n,k))::fL r outer)=_
  cases hx:x==n with
  | true=>
   have:=eq_of_beq hx;subst this;simp only[Ig,Im,Hv];split <;> simp[Ig]
  | false=>
   simp only[Ig,hx];split <;> (simp only[Ig,hx]; exact ih)
section
variable{M:Hc->FF}{X:Cx}{Γ:Gam}
structure ScOk (Γ:Gam)(scope:JU):Prop where
 kind:scope.kind=.function
 names:∀y∈scope.names,y.2=.local->scope.names.lookup y.1=gV .local
 cell:∀y∈scope.names,y.2=.cell->scope.names.lookup y.1=gV .cell
 free:∀y∈scope.names,y.2=.free->zw (Γ.sc.lookup y.1)=true/\scope.names.lookup y.1=gV .free/\(Γ.N.findIdx? (· == y.1)).isSome=true
 nd:(gF scope.names).Nodup
def rT {scope:JU}(h:vW Γ scope=true):ScOk Γ scope:=by
 unfold vW at h;rw[GK,GK,GK,GK]at h;obtain⟨⟨⟨⟨h1,h2⟩,h3⟩,h4⟩,h5⟩:=h;show#[eq_of_beq h1,λy hy e=>?_,λy hy e=>?_,λy hy e=>?_,HS h5]
 ·have:=G7.mp h2 y hy;rw[e]at this
  simpa using this
 ·have:=G7.mp h3 y hy;rw[e]at this
  simpa using this
 ·have:=G7.mp h4 y hy;rw[e]at this;simp only[Im,MH,MJ,GK]at this;exact#[this.1.1,eq_of_beq this.1.2,this.2]
def rV {o:GH Iz}(h:zw o=true):o=gV .cell\/o=gV .free:=by
 unfold zw at h;split at h
 ·exact .inl rfl
 ·exact .inr rfl
 ·cases h
def lS (K:CtxOk M X Γ)(ok:X.Ok){scope:JU}(sc:ScOk Γ scope):CompOk X scope (eF X.env scope.names []) (gF scope.names) (fZ Γ scope.names):=by
 have cells:∀y∈scope.names,y.2=.free->(X.env.cells.lookup y.1).isSome=true:=λy hy e=>by
  have hk:=rV (sc.free y hy e).1;obtain⟨c,hc⟩:=ok.has y.1 (by unfold LU; rw[K.names]; exact hk)
  rw[hc]; rfl
 have relab:∀x,((relabel scope X.env).names.lookup x=gV .cell\/(relabel scope X.env).names.lookup x=gV .free)->(x,J1)∈scope.names\/(x,Kq)∈scope.names:=λx h=>by
  rw[eG K,dW]at h;cases q:scope.names.lookup x with
  | none=>rw[q]at h; rcases h with h|h <;> cases h
  | some k=>
   rw[q]at h;have hm:=kq q;cases k with
   | free=>exact .inr hm
   | cell=>exact .inl hm
   | _=>rcases h with h|h <;> simp at h
 show#[jz cells,sc.kind,sc.names,kn _ _ cells (λx c e=>by cases e),λm x h=>iN _ _ _ ((relab x h).imp id λz=>ko _ _ z),by simp[fZ],λi j x hi hx=>?_]
 unfold fZ at hi;rw[GM,hx]at hi;simp only[Hv,Hx]at hi;split at hi
 ·cases hi
 ·rename_i hl;have hx2:x∈gF scope.names:=GV hx;unfold gF at hx2;obtain⟨⟨x',k⟩,hf,e⟩:=G4.mp hx2;obtain⟨hm,hk⟩:=Ih.mp hf;have e':x'=x:=e;subst e';have hkf:k=.free:=by
   simp only[ID]at hk;rcases hk with(hk|hk)|hk
   ·have:k=.local:=eq_of_beq hk;subst this;have:=sc.names (x',.local) hm rfl;rw[this]at hl;simp at hl
   ·have:k=.cell:=eq_of_beq hk;subst this;have:=sc.cell (x',.cell) hm rfl;rw[this]at hl;simp at hl
   ·exact eq_of_beq hk
  subst hkf;obtain⟨f1,f2,f3⟩:=sc.free _ hm rfl;show#[by rw[K.N]; exact de hi,by unfold LU; rw[K.names]; exact rV f1,?_,λz=>by rw[sc.cell _ z rfl]at f2; cases f2]
  rw[eG K,dW,f2];simp only[Hv,Hx,Im,JM];split
  ·exact .inl rfl
  ·exact .inr rfl
def eJ (K:CtxOk M X Γ){scope:JU}(sc:ScOk Γ scope)(C:GP)(s0:GF)(H0:Hp)(ex:Gy GP):CtxOk M (kY X scope (eF X.env scope.names []) C (gF scope.names) s0 H0 ex) (gG Γ scope) where
 names:=eG K scope
 kind:=sc.kind
 N:=rfl
 nd:=sc.nd
 calm:=K.calm
 xe:=rfl
 un:=K.un
 dfn:=λh=>by cases h
 own:=λx h=>by
  obtain⟨⟨y,k⟩,hy,e⟩:=G4.mp h;obtain⟨hm,hk⟩:=Ih.mp hy;have e':y=x:=e;subst e';exact NH.mpr #[(y,k),hm,by simpa using hk]
 blt:=K.blt
 fns:=K.fns
def oN {cs:Es}{n:GJ}{ifs:Gy Hh}{Γ:Gam}(hl:ifs.length<=1)(hc:cA (cE n Γ) ifs=gV cs){Yq:Cx}(ih:∀ {e:Hh} {e':E},cE n Γ e=gV e'->GT Yq e (cK M e'))(hx:Yq.xe=λ_ _=>Ip) :
  ∀J s Y H Q,Inv Yq J Y H s->tT Yq (zv M cs) Y H Q->
  wpAny (model Yq.prog Yq.w) Yq.A (forIn ifs true λc r=>if r=true then do let ok <- isTrue c Yq.env (eval c Yq.env); pure (IM ok)else pure (IM r)) (TP Yq J Y Q) (λ_ _=>Ip) s:=by
 intro J s Y H Q I h
 match ifs,hl,hc with
 | [],_,hc=>
  cases hc;obtain⟨A,Z,S,k,S',er,so,e,hq⟩:=h;cases e;exact wpAny_tests_nil #[H,I,hq _ _ #[rfl,A,.refl,so]]
 | [c],_,hc=>
  obtain⟨e',es',h1,h2,rfl⟩:=ie hc;cases h2;have:=ih h1 J s Y H Q I h;rw[hx]at this;exact wpAny_tests_one this
def bN:∀(n:GJ) {Γ:Gam} {X:Cx} {e:Hh} {e':E},CtxOk M X Γ->cE n Γ e=gV e'->GE X e (aC M e')/\GT X e (cK M e'):=by
 intro n
 induction n with
 | zero=>intro Γ X e e' K h; cases h
 | succ n ih=>
  intro Γ X e e' K h;have ihE:∀ {e:Hh} {e':E},cE n Γ e=gV e'->GE X e (aC M e'):=λq=>(ih K q).1
  have ihT:∀ {e:Hh} {e':E},cE n Γ e=gV e'->GT X e (cK M e'):=λq=>(ih K q).2
  have hu10:X.A.units+10 < cLine:=by have:=K.un; have:fE=20:=rfl; omega
  cases e with
  | Constant c k p=>
   cases c <;> cases h
   all_goals first
    | exact#[oy uy (λ_ _=>.non),cy (oy uy (λ_ _=>.non)) λ_=>rfl]
    | exact#[oy Aa (λ_ _=>.bl),cy (oy Aa (λ_ _=>.bl)) λ_=>rfl]
    | exact#[oy uw (λ_ _=>.int),cy (oy uw (λ_ _=>.int)) λ_=>rfl]
    | exact#[oy uz (λ_ _=>.str),cy (oy uz (λ_ _=>.str)) λ_=>rfl]
  | Name x p=>
   replace h:(match slot Γ x with|some i=>gV (E.v i)|none=>td)=gV e':=h
   split at h
   ·rename_i i h1;cases h;exact#[vZ K h1,cy (vZ K h1) λ_=>rfl]
   ·cases h
  | BinOp a op b p=>
   replace h:(match rP op,cE n Γ a,cE n Γ b with|some o,gV a',gV b'=>gV (E.op o a' b')|_,_,_=>td)=gV e':=h
   split at h
   ·rename_i o a' b' h1 h2 h3;cases h;have e:=v6 h1;subst e;exact#[Ag (q8 o) (ihE h2) (ihE h3),cy (Ag (q8 o) (ihE h2) (ihE h3)) λ_=>rfl]
   ·cases h
  | UnaryOp op a p=>
   cases op with
   | Not=>
    replace h:(cE n Γ a).map E.not=gV e':=h;rw[GD]at h;obtain⟨a',h1,rfl⟩:=h;exact#[BK (ihE h1),BH (ihT h1)]
   | USub=>
    replace h:(cE n Γ a).map E.neg=gV e':=h;rw[GD]at h;obtain⟨a',h1,rfl⟩:=h;exact#[vy (ihE h1),cy (vy (ihE h1)) λ_=>rfl]
   | _=>exact aH h
  | BoolOp op vs p=>
   replace h:cB (cE n Γ) op vs=gV e':=h;exact#[mZ ihE h,(nb ihT h).pt]
  | Compare a ops cs p=>
   match ops,cs,h with
   | [op],[b],h=>
    replace h:(match jj op,cE n Γ a,cE n Γ b with|some o,gV a',gV b'=>gV (E.cmp o a' b')|_,_,_=>td)=gV e':=h
    split at h
    ·rename_i o a' b' h1 h2 h3;cases h;have e:=km h1;subst e;exact#[BC K.un (ihE h2) (ihE h3) (ig h3),BE K.un (ihE h2) (ihE h3) (ig h3)]
    ·cases h
   | [],_,h=>exact aH h
   | [_],[],h=>exact aH h
   | [_],_::_::_,h=>exact aH h
   | [op,op'],[b,d],h=>
    replace h:(match jj op,jj op',cE n Γ a,cE n Γ b,cE n Γ d with|some o,gV o',gV a',gV b',gV d'=>gV (E.chn o o' a' b' d')|_,_,_,_,_=>td)=gV e':=h
    split at h
    ·rename_i o o' a' b' d' h1 h2 h3 h4 h5;cases h;have e:=km h1;subst e;have e:=km h2;subst e;exact#[vz K.un (ihE h3) (ihE h4) (ihE h5) (ig h5),vA K.un (ihE h3) (ihE h4) (ihE h5) (ig h5)]
    ·cases h
   | [_,_],[],h=>exact aH h
   | [_,_],[_],h=>exact aH h
   | [_,_],_::_::_::_,h=>exact aH h
   | _::_::_::_,_,h=>exact aH h
  | IfExp t a b p=>
   replace h:(match cE n Γ t,cE n Γ a,cE n Γ b with|some t',gV a',gV b'=>gV (E.ite t' a' b')|_,_,_=>td)=gV e':=h
   split at h
   ·rename_i t' a' b' h1 h2 h3;cases h;exact#[BL (ihT h1) (ihE h2) (ihE h3),jE]
   ·cases h
  | Call f args kws p=>
   cases kws with
   | cons _ _=>cases f <;> first|(exact aH h)|(cases args <;> (exact aH h))
   | nil=>
    cases f with
    | Name x q=>
     replace h:(if lh Γ x then match Γ.fns.lookup x with|some k=>(cA (cE n Γ) args).map (E.own x k)|none=>if x==("isinstance" : Hc)then(if Γ.blt.contains x then zz Γ (cE n Γ) args else td)else match (generalizing:=false) zx x,args with|some b,a::as=>if Γ.blt.contains x then(cA (cE n Γ) (a::as)).map (E.bi b)else td|_,_=>td else td)=gV e':=h
     split at h
     ·rename_i hg;split at h
      ·rename_i k hk;rw[GD]at h;obtain⟨r,hr,rfl⟩:=h;have g:=DK (pos:=p) (p:=q) K hg hk hr (du ihE hr);exact#[g,cy g λ_=>rfl]
      ·split at h
       ·rename_i his;split at h
        ·rename_i hc;obtain⟨g,a',c',rfl⟩:=DL (pos:=p) (p:=q) K hg his hc ihE h;exact#[g,cy g λ_=>rfl]
        ·cases h
       ·split at h
        ·rename_i bb a as hb;split at h
         ·rename_i hc;rw[GD]at h;obtain⟨r,hr,rfl⟩:=h;have g:=Fy (pos:=p) (p:=q) K hg hb hc hr (du ihE hr);exact#[g,cy g λ_=>rfl]
         ·cases h
        ·cases h
     ·cases h
    | Attribute o m q=>
     cases args with
     | nil=>exact aH h
     | cons a as=>
      replace h:(match zy m,cE n Γ o,cA (cE n Γ) (a::as)with|some m',gV o',gV es=>if fY o&&(q.endLine==p.line)&&decide ((a::as).length < 29)then gV (E.me m' o' es)else td|_,_,_=>td)=gV e':=h
      split at h
      ·rename_i m' o' es h1 h2 h3;split at h
       ·rename_i hc;rw[GK,GK,Hm]at hc;cases h;have g:=Fz K (cpos:=p) (apos:=q) h1 hc.1.1 hc.1.2 hc.2 (ihE h2) h3 (du ihE h3);exact#[g,cy g λ_=>rfl]
       ·cases h
      ·cases h
    | _=>exact aH h
  | Subscript a b p=>
   have plain:(match cE n Γ a,cE n Γ b with|some a',gV b'=>gV (E.ix a' b')|_,_=>td)=gV e'->GE X (.Subscript a b p) (aC M e')/\GT X (.Subscript a b p) (cK M e'):=λh=>by
    split at h
    ·rename_i a' b' h1 h2;cases h;have g:=DA (pos:=p) hu10 (ihE h1) (ihE h2) (ql h2);exact#[g,cy g λ_=>rfl]
    ·cases h
   cases b with
   | Slice lo hi st q=>
    cases st with
    | none=>
     replace h:(match cE n Γ a,cP (cE n Γ) lo,cP (cE n Γ) hi with|some a',gV lo',gV hi'=>gV (E.sl a' lo' hi')|_,_,_=>td)=gV e':=h
     split at h
     ·rename_i a' lo' hi' h1 h2 h3;cases h;have g:=DB (pos:=p) (p2:=q) (ihE h1) (wa ihE h2) (wa ihE h3);exact#[g,cy g λ_=>rfl]
     ·cases h
    | some z=>exact plain h
   | _=>exact plain h
  | Tuple es k p=>
   replace h:(cA (cE n Γ) es).map E.tup=gV e':=h;rw[GD]at h;obtain⟨r,h1,rfl⟩:=h;exact#[vF (du ihE h1),cy (vF (du ihE h1)) λ_=>rfl]
  | List es p=>
   replace h:(cA (cE n Γ) es).map E.lst=gV e':=h;rw[GD]at h;obtain⟨r,h1,rfl⟩:=h;exact#[vG (du ihE h1),cy (vG (du ihE h1)) λ_=>rfl]
  | Dict keys values p=>
   replace h:vX (cE n Γ) keys values=gV e':=h;unfold vX at h;split at h
   ·rename_i hc;cases h;rw[GK]at hc;have k0:keys=[]:=NK.mp hc.1;have v0:values=[]:=NK.mp hc.2;subst k0 v0;exact#[zo,jE]
   ·rename_i hc0;split at h
    ·rename_i hc;rw[GK,GK,Hm,Hm]at hc;rw[GD]at h;obtain⟨r,hr,rfl⟩:=h;have h0:keys≠[]:=λz=>by
      subst z;have v0:values=[]:=JT.mp hc.1.2.symm;subst v0;exact hc0 rfl
     exact#[zp (pos:=p) hu10 (rR ihE keys values hc.1.1 hc.1.2 hr) hc.1.1 hc.1.2 h0 hc.2,jE]
    ·cases h
  | ListComp elt gens scope p=>
   match gens,h with
   | [#[tg,iter,ifs,asy]],h=>
    replace h:(if (asy==0)&&(vW Γ scope&&decide (ifs.length<=1))then match cI Γ (cE n Γ) tg iter,cT (gG Γ scope) tg,cA (cE n (gG Γ scope)) ifs,cE n (gG Γ scope) elt with|some it,gV t,gV cs,gV el=>gV (E.comp el t it cs (fZ Γ scope.names))|_,_,_,_=>td else td)=gV e':=h
    split at h
    ·rename_i hc;rw[GK,GK,Hm]at hc;have e0:asy=0:=eq_of_beq hc.1;subst e0;replace hc:=hc.2;split at h
     ·rename_i it t cs el h1 h2 h3 h4;cases h;have sc:=rT hc.1;show#[zr K.calm (qm K ihE h1) (λok=>#[_,lS K ok sc,?_]) (mY (n:=n) (λel k p=>by cases n <;> rfl) h1),jE]
      show#[λC s0 H0 ex=>rS (eJ K sc C s0 H0 ex) h2,λC s0 H0 ex J s Y H Q I q=>?_,λC s0 H0 ex=>(ih (eJ K sc C s0 H0 ex) h4).1]
      exact oN hc.2 h3 (λz=>(ih (eJ K sc C s0 H0 ex) z).2) rfl J s Y H Q I q
     ·cases h
    ·cases h
   | [],h=>exact aH h
   | #[_,_,_,_]::_::_,h=>exact aH h
  | _=>exact aH h
end
noncomputable abbrev bO:GJ:=30
abbrev Ak:Hh->Hi
 | .Constant (.str _) _ _=>true
 | _=>false
abbrev iS:Hh->Hi
 | .ListComp _ _ _ _=>true
 | _=>false
abbrev rW:Hh->Hi
 | .Slice _ _ _ _=>true
 | _=>false
abbrev rX (f:JN->GH Sm)(ss:Gy JN):GH Ss:=ss.foldr (λs acc=>match f s,acc with|some s',gV ss'=>gV (.cons s' ss')|_,_=>td) (gV .nil)
abbrev B2 (Γ:Gam):Gy Hh->Hh->GH Sm
 | [.Name x px,.Name y py],.Tuple [a,b] _ _=>match Γ.N.findIdx? (· == x),Γ.N.findIdx? (· == y),cA (cE bO Γ) [a,b]with
  | some i,gV j,gV es=>if !(i==j)&&(Γ.sc.lookup x==gV .local)&&(Γ.sc.lookup y==gV .local)&&(py.line==px.line) && !([a,b].all (foldedForSure 8)) && !([a,b].all (constantsAlone 8))then gV (.par i j es)else td
  | _,_,_=>td
 | _,_=>td
abbrev cS:GJ->Gam->JN->GH Sm
 | 0,_,_=>td
 | n+1,Γ,st=>match st with
  | .Assign [.Name x _] e _=>match cU Γ x,cE bO Γ e with
   | some i,gV e'=>gV (.set i e')
   | _,_=>td
  | .Assign [.Tuple ts _ _] e _=>if isTup e then B2 Γ ts e else if iS e then td else match CL Γ ts,cE bO Γ e with
   | some is,gV e'=>gV (.asg is e')
   | _,_=>td
  | .Assign [.Subscript o k _] e _=>if rW k then td else match cE bO Γ o,cE bO Γ k,cE bO Γ e with
   | some o',gV k',gV e'=>gV (.put o' k' e')
   | _,_,_=>td
  | .Expr e _=>if Ak e then gV .pass else if iS e then td else(cE bO Γ e).map .ex
  | .Return (gV e) _=>(cE bO Γ e).map .ret
  | .Pass _=>gV .pass
  | .If t a b _=>match cE bO Γ t,rX (cS n Γ) a,rX (cS n Γ) b with
   | some t',gV a',gV b'=>gV (.ite t' a' b')
   | _,_,_=>td
  | .While t b [] _=>match cE bO Γ t,rX (cS n Γ) b with
   | some t',gV b'=>gV (.whl t' b')
   | _,_=>td
  | .For tg it b [] _=>match cT Γ tg,cI Γ (cE bO Γ) tg it,rX (cS n Γ) b with
   | some t,gV i,gV b'=>gV (.loop t i b')
   | _,_,_=>td
  | _=>td
section
variable{M:Hc->FF}{X:Cx}{Γ:Gam}{fuel:GJ}
def wb {f:JN->GH Sm}{s:JN}{ss:Gy JN}{r:Ss}(h:rX f (s::ss)=gV r):∃s' ss',f s=gV s'/\rX f ss=gV ss'/\r=.cons s' ss':=by
 simp only[rX,NW]at h;split at h
 ·rename_i e' es' h1 h2;cases h;exact#[e',es',h1,h2,rfl]
 ·cases h
def ga {n:GJ}(ih:∀ {st:JN} {s':Sm},cS n Γ st=gV s'->GS X st (fB M fuel s')):∀ {ss:Gy JN} {r:Ss},rX (cS n Γ) ss=gV r->GSs X ss (fK M fuel r)
 | [],r,h=>by cases h; exact yV
 | s::ss,r,h=>by
  obtain⟨s',ss',h1,h2,rfl⟩:=wb h;exact vH (ih h1) (ga ih h2)
def kw {e:Hh}{t:GH Hh}{l:GJ}{env:MO}(h:iS e=false)(n:GJ){Γ:Gam}{e':E}(hc:cE n Γ e=gV e'):swapsWith e t l env=pure false:=by
 cases n with
 | zero=>cases hc
 | succ n=>cases e <;> first|(exfalso; exact aH hc)|rfl|cases h
def qo (K:CtxOk M X Γ){n:GJ}{elt:Hh}{gens:Gy Comprehension}{scope:JU}{p:Ju}{e':E}(h:cE (n+1) Γ (.ListComp elt gens scope p)=gV e') :
  ∃tg iter ifs fi g c f cap,gens=[#[tg,iter,ifs,0]]/\aC M e'=kh fi g c f cap/\GI X tg iter fi/\(X.Ok->∃cl,CompOk X scope cl (gF scope.names) cap/\BlockOk X scope cl (gF scope.names) tg elt ifs g c f)/\∀x,foldedSetIterable iter X.env x=pure x:=by
 match gens,h with
 | [#[tg,iter,ifs,asy]],h=>
  replace h:(if (asy==0)&&(vW Γ scope&&decide (ifs.length<=1))then match cI Γ (cE n Γ) tg iter,cT (gG Γ scope) tg,cA (cE n (gG Γ scope)) ifs,cE n (gG Γ scope) elt with|some it,gV t,gV cs,gV el=>gV (E.comp el t it cs (fZ Γ scope.names))|_,_,_,_=>td else td)=gV e':=h
  split at h
  ·rename_i hc;rw[GK,GK,Hm]at hc;have e0:asy=0:=eq_of_beq hc.1;subst e0;replace hc:=hc.2;split at h
   ·rename_i it t cs el h1 h2 h3 h4;cases h;have sc:=rT hc.1;show#[tg,iter,ifs,_,_,_,_,_,rfl,rfl,qm K (λz=>(bN n K z).1) h1,λok=>#[_,lS K ok sc,?_],mY (n:=n) (λel k p=>by cases n <;> rfl) h1]
    show#[λC s0 H0 ex=>rS (eJ K sc C s0 H0 ex) h2,λC s0 H0 ex J s Y H Q I q=>?_,λC s0 H0 ex=>(bN n (eJ K sc C s0 H0 ex) h4).1]
    exact oN hc.2 h3 (λz=>(bN n (eJ K sc C s0 H0 ex) z).2) rfl J s Y H Q I q
   ·cases h
  ·cases h
 | [],h=>exact aH h
 | #[_,_,_,_]::_::_,h=>exact aH h
def DM (K:CtxOk M X Γ){x:Hc}{px pos:Ju}{e:Hh}{i:GJ}{e':E}(hi:cU Γ x=gV i)(he:cE bO Γ e=gV e'):GS X (.Assign [.Name x px] e pos) (ke (aC M e') (Ah i)):=by
 obtain⟨a,b,c⟩:=nh K hi;have hN:X.N.Nodup:=by rw[K.N]; exact K.nd
 have plain:swapsWith e (gV (.Name x px)) pos.line X.env=pure false->GS X (.Assign [.Name x px] e pos) (ke (aC M e') (Ah i)):=λhs=>qf (bN _ K he).1 (rK hN a b c) hs (by cases e <;> rfl) rfl
 cases hc:iS e with
 | false=>exact plain (kw hc _ he)
 | true=>
  cases e with
  | ListComp elt gens scope p=>
   cases hsw:(X.env.blockKind==.function&&X.env.kindOf x==gV .local&&px.line==p.line && !(scope.names.any λ(n,k)=>n==x&&(k==.local||k==.cell)))with
   | false=>
    show plain ?_;show(pure (X.env.blockKind==.function&&X.env.kindOf x==gV .local&&px.line==p.line && !(scope.names.any λ(n,k)=>n==x&&(k==.local||k==.cell))):OQ Hi)=pure false
    rw[hsw]
   | true=>
    have hsw':swapsWith (.ListComp elt gens scope p) (gV (.Name x px)) pos.line X.env=pure true:=by
     show(pure (X.env.blockKind==.function&&X.env.kindOf x==gV .local&&px.line==p.line && !(scope.names.any λ(n,k)=>n==x&&(k==.local||k==.cell))):OQ Hi)=pure true
     rw[hsw]
    rw[GK,GK,GK]at hsw;have hl:X.env.scope.names.lookup x=gV .local:=eq_of_beq hsw.1.1.2;obtain⟨tg,iter,ifs,fi,g,c',f,cap,rfl,e2,gi,hck,hs⟩:=qo K he;rw[e2];exact qj K.calm gi hck hs hsw' hN a hl
  | _=>cases hc
def oO (K:CtxOk M X Γ){x y:Hc}{px py pt pt2:Ju}{kt k2:GJ}{a b:Hh}(hxy:x≠y)(hx:Γ.sc.lookup x=gV .local)(hy:Γ.sc.lookup y=gV .local)(hl:(py.line==px.line)=true)(h1:[a,b].all (foldedForSure 8)=false)(h2:[a,b].all (constantsAlone 8)=false)(hs:gS a=true)(hs2:gS b=true) :
  swappedStores [.Tuple [.Name x px,.Name y py] kt pt] (.Tuple [a,b] k2 pt2) X.env=pure (gV [x,y]):=by
 have kx:(X.env.kindOf x==gV .local)=true:=by unfold LU; rw[K.names,hx]; rfl
 have ky:(X.env.kindOf y==gV .local)=true:=by unfold LU; rw[K.names,hy]; rfl
 have bk:(X.env.blockKind != .function)=false:=by
  unfold Env.blockKind;rw[K.kind];rfl
 have hp:(px.line==px.line)=true:=by simp
 have ed:([x,y].eraseDups.length != [x,y].length)=false:=by
  have:(y==x)=false:=by simpa using Ne.symm hxy
  simp[MB,this]
 have kx':X.env.kindOf x=gV .local:=eq_of_beq kx;have ky':X.env.kindOf y=gV .local:=eq_of_beq ky;have hl':py.line=px.line:=eq_of_beq hl;have bk':X.env.blockKind=.function:=by simpa using bk
 have yx:(y==x)=false:=by simpa using Ne.symm hxy
 have h1':(foldedForSure 8 a&&foldedForSure 8 b)=false:=by simpa using h1
 have h2':(constantsAlone 8 a&&constantsAlone 8 b)=false:=by simpa using h2
 unfold swappedStores;simp only[Jm,List.any_nil,Os,Kk,List.filterMap_nil,kx',ky',bk',List.head?_cons,Hv,NJ,HJ,IL,HN,List.all_nil,MG,h1',h2'];show Eq.trans (Hl ?_) (Eq.trans (Hl ?_) ?_)
 ·decide
 ·rw[ID];rintro(hh|hh)
  ·clear h1 h2 h1' h2';cases a <;> first|(cases hh; done)|(cases hs; done)
  ·clear h1 h2 h1' h2';cases b <;> first|(cases hh; done)|(cases hs2; done)
 ·dsimp only[Expr.pos]; simp[hl',yx,MB]
def zA (fuel:GJ)(K:CtxOk M X Γ):∀(n:GJ) {st:JN} {s':Sm},cS n Γ st=gV s'->GS X st (fB M fuel s'):=by
 have hN:X.N.Nodup:=by rw[K.N]; exact K.nd
 have own:Mv (model X.prog X.w) X.A X.env X.xe:=by rw[K.xe]; exact Pr
 intro n
 induction n with
 | zero=>intro st s' h; cases h
 | succ n ih=>
  intro st s' h;cases st with
  | Expr e p=>
   replace h:(if Ak e then gV Sm.pass else if iS e then td else(cE bO Γ e).map Sm.ex)=gV s':=h
   split at h
   ·rename_i hd;cases h;cases e with
    | Constant c k q=>
     cases c with
     | str x=>exact BP
     | _=>cases hd
    | _=>cases hd
   ·split at h
    ·cases h
    ·rename_i hd hc;rw[GD]at h;obtain⟨e',h1,rfl⟩:=h;exact DC (bN _ K h1).1 (kw (by simpa using hc) _ h1)
  | Return o p=>
   cases o with
   | none=>cases h
   | some e=>
    replace h:(cE bO Γ e).map Sm.ret=gV s':=h;rw[GD]at h;obtain⟨e',h1,rfl⟩:=h;exact BQ (bN _ K h1).1
  | Pass p=>cases h; exact yY
  | If t a b p=>
   replace h:(match cE bO Γ t,rX (cS n Γ) a,rX (cS n Γ) b with|some t',gV a',gV b'=>gV (Sm.ite t' a' b')|_,_,_=>td)=gV s':=h
   split at h
   ·rename_i t' a' b' h1 h2 h3;cases h;exact DD (bN _ K h1).2 (ga ih h2) (ga ih h3)
   ·cases h
  | While t b o p=>
   cases o with
   | cons _ _=>exact aH h
   | nil=>
    replace h:(match cE bO Γ t,rX (cS n Γ) b with|some t',gV b'=>gV (Sm.whl t' b')|_,_=>td)=gV s':=h
    split at h
    ·rename_i t' b' h1 h2;cases h;exact vJ fuel own (bN _ K h1).2 (ga ih h2)
    ·cases h
  | For tg it b o p=>
   cases o with
   | cons _ _=>exact aH h
   | nil=>
    replace h:(match cT Γ tg,cI Γ (cE bO Γ) tg it,rX (cS n Γ) b with|some t,gV i,gV b'=>gV (Sm.loop t i b')|_,_,_=>td)=gV s':=h
    split at h
    ·rename_i t i b' h1 h2 h3;cases h;exact BW own K.calm (qm K (λz=>(bN _ K z).1) h2) (rS K h1) (ga ih h3) (mY (n:=bO) (λel k p=>rfl) h2)
    ·cases h
  | Assign ts e p=>
   match ts,h with
   | [],h=>exact aH h
   | a::_::_,h=>cases a <;> exact aH h
   | [t],h=>
    cases t with
    | Name x px=>
     replace h:(match cU Γ x,cE bO Γ e with|some i,gV e'=>gV (Sm.set i e')|_,_=>td)=gV s':=h
     split at h
     ·rename_i i e' h1 h2;cases h;exact DM K h1 h2
     ·cases h
    | Subscript o k q=>
     replace h:(if rW k then td else match cE bO Γ o,cE bO Γ k,cE bO Γ e with|some o',gV k',gV e'=>gV (Sm.put o' k' e')|_,_,_=>td)=gV s':=h
     split at h
     ·cases h
     ·rename_i hc;split at h
      ·rename_i o' k' e' h1 h2 h3;cases h;show qf (bN _ K h3).1 (BS (by have:=K.un; have:fE=20:=rfl; omega) (bN _ K h1).1 (bN _ K h2).1 ?_) (by cases e <;> rfl) (by cases e <;> rfl) rfl
       intro v;cases k <;> first|rfl|exact absurd rfl hc
      ·cases h
    | Tuple ts' k q=>
     have par:∀ {x y:Hc} {px py:Ju} {a b:PySem.Expr} {k2:GJ} {q2:Ju},(match Γ.N.findIdx? (· == x),Γ.N.findIdx? (· == y),cA (cE bO Γ) [a,b]with
       | some i,gV j,gV es=>if !(i==j)&&(Γ.sc.lookup x==gV .local)&&(Γ.sc.lookup y==gV .local)&&(py.line==px.line) && !([a,b].all (foldedForSure 8)) && !([a,b].all (constantsAlone 8))then gV (Sm.par i j es)else td
       | _,_,_=>td)=gV s'->GS X (.Assign [.Tuple [.Name x px,.Name y py] k q] (.Tuple [a,b] k2 q2) p) (fB M fuel s'):=λ{x y px py a b k2 q2} h=>by
      split at h
      ·rename_i i j es h1 h2 h3;split at h
       ·rename_i hc;cases h;rw[GK,GK,GK,GK,GK]at hc;obtain⟨⟨⟨⟨⟨c1,c2⟩,c3⟩,c4⟩,c5⟩,c6⟩:=hc;have hij:i≠j:=by simpa using c1
        have ns:=cD h3;rw[HN,HN,GK,GK]at ns;have hi:X.N[i]?=gV x:=by rw[K.N]; exact de h1
        have hj:X.N[j]?=gV y:=by rw[K.N]; exact de h2
        show BU K.calm hN hi hj hij (by rw[K.names]; exact eq_of_beq c2) (by rw[K.names]; exact eq_of_beq c3) (du (λz=>(bN _ K z).1) h3) (oO K ?_ (eq_of_beq c2) (eq_of_beq c3) c4 (by rw[<- KM]; exact c5) (by rw[<- KM]; exact c6) ns.1 ns.2.1) rfl
        rintro rfl;rw[h1]at h2;cases h2;exact hij rfl
       ·cases h
      ·cases h
     replace h:(if isTup e then B2 Γ ts' e else if iS e then td else match CL Γ ts',cE bO Γ e with|some is,gV e'=>gV (Sm.asg is e')|_,_=>td)=gV s':=h
     split at h
     ·unfold B2 at h;split at h
      ·exact par h
      ·cases h
     ·split at h
      ·cases h
      ·rename_i hc1 hc2;split at h
       ·rename_i is e' h1 h2;cases h;show qf (bN _ K h2).1 (rS (tg:=.Tuple ts' k q) (t:=.tp is) K (by(dsimp only[cT]; simp[h1]))) (kw (t:=gV (.Tuple ts' k q)) (l:=p.line) (env:=X.env) (by simpa using hc2) _ h2) ?_ rfl
        cases e <;> first|rfl|exact absurd rfl hc1
       ·cases h
    | _=>exact aH h
  | _=>exact aH h
end
structure Df where
 ps:Gy Hc
 N:Gy Hc
 body:Ss
abbrev eW (N:Gy Hc)(ws:Gy W):Fm:=ws.map gV++Hy (N.length - ws.length) td
abbrev au (defs:Gy (Hc×Df))(fuel:GJ):GJ->Hc->FF
 | 0,_,_,_=>td
 | d+1,f,ws,S=>match defs.lookup f with
  | some df=>if ws.length=df.ps.length then match fK (au defs fuel d) fuel df.body (eW df.N ws) S with
    | some (.rt w,S')=>gV (w,S')
    | some (.nx _,S')=>gV (.non,S')
    | _=>td
   else td
  | none=>td
structure Md where
 fns:Gy (Hc×GJ)
 blt:Gy Hc
abbrev wc (tx:Md)(st:JN)(N:Gy Hc):Gam:={ sc:=(aU st).names,N:=N,fns:=tx.fns,blt:=tx.blt,dfn:=true,own:=[] }
abbrev DN (tx:Md)(st:JN)(df:Df):Prop:=rX (cS 20 (wc tx st df.N)) (cq st)=gV df.body
def lT {K:GZ}{A:Gy GP}{H:Hp}{ws:Gy W}{vs:Gy V}{N:Gy Hc}(r:RelL K A H ws vs):EnvRel K A H (eW N ws) (fD N vs):=by
 show#[by simp[eW,L2.fD,r.length],λi w h=>?_]
 unfold eW at h;unfold L2.fD
 by_cases hi:i < ws.length
 ·rw[Hr (by simpa using hi),GM]at h
  rw[Hr (by rw[Gz,<- r.length]; exact hi),GM]
  cases q:ws[i]? with
  | none=>rw[q]at h; cases h
  | some w'=>
   rw[q]at h;simp only[Hv,Hx]at h;subst h;obtain⟨v,h1,h2⟩:=r.get q;exact#[v,by rw[h1]; rfl,h2]
 ·rw[Ii (by simpa using hi)]at h
  have:=GV h;simp at this
section
variable{P:Ht}{w:HD}{K:GZ}{mg:Hc->GH GC}{base:HP}
abbrev Al (P:Ht)(w:HD)(K:GZ)(mg:Hc->GH GC)(base:HP)(tx:Md)(defs:Gy (Hc×Df))(fuel d:GJ):Prop:=
 ∀f n,tx.fns.lookup f=gV n->∃fa fd ps,FnOk P w K mg base ur d fa fd ps (spF w K n (au defs fuel d f))/\mg f=gV (.ref fa)/\Iw K (.ref fa)=true/\Binds K fd ps []
structure MdOk (w:HD)(K:GZ)(mg:Hc->GH GC)(tx:Md):Prop where
 blt:∀y∈tx.blt,mg y=td
def Am {tx:Md}{defs:Gy (Hc×Df)}{fuel d:GJ}{x qual:Hc}{st:JN}{f:GP}{fd:Jp}{df:Df}(F:Fun K x qual st f fd)(S:FnScope df.N df.ps (aU st))(hd:defs.lookup x=gV df)(hc:DN tx st df)
  (hb:MdOk w K mg tx) (prev:Al P w K mg base tx defs fuel d):FnOk P w K mg base ur (d+1) f fd df.ps (spF w K df.ps.length (au defs fuel (d+1) x)):=by
 show F.ok S (λvs H Q E h=>?_) (λcdv A outer s H vs Q E hr h=>?_)
 ·obtain⟨A,S,ws,w',S',_,rl,hl,_⟩:=h;rw[<- rl.length]; exact hl
 ·obtain⟨A',St,ws,w',S',so,rl,hl,e,hq⟩:=h;have K':CtxOk (au defs fuel d) (pU ur P w K mg base df.N qual (aU st) f cdv A outer s H E).nox (wc tx st df.N):=by
   show#[rfl,S.kind,rfl,S.nd,rfl,rfl,?_,λ_ _=>rfl,λ_ h=>(nomatch h),hb.blt,λg n hg=>?_]
   ·have:=hr.un;show(A.deeper _).units+20 < cLine;omega
   ·obtain⟨fa,fd',ps',h1,h2,h3,h4⟩:=prev g n hg;exact#[d,fa,fd',ps',h1,hr,h2,h3,h4]
  show#[tS _ (fK (au defs fuel d) fuel df.body),ga (λz=>zA fuel K' 20 z) hc,?_]
  (dsimp only[au]at e; simp only[hd]at e)
  rw[Hf hl]at e;split at e
  ·rename_i w1 S1 h1;cases e;show#[A',eW df.N ws,St,_,_,lT rl,so,h1,#[λY' H' #[_,_,z,_,_,_]=>(by cases z),λv H' #[w2,A2,z0,z1,z2,z3]=>?_,λY' H' #[_,_,z,_,_,_]=>(by cases z),λY' H' #[_,_,z,_,_,_]=>(by cases z)]]
   cases z0;exact hq v H' #[A2,z1,z2,z3]
  ·rename_i Z1 S1 h1;cases e;show#[A',eW df.N ws,St,_,_,lT rl,so,h1,#[λY' H' #[w2,A2,z0,z1,z2,z3]=>?_,λY' H' #[_,_,z,_,_,_]=>(by cases z),λY' H' #[_,_,z,_,_,_]=>(by cases z),λY' H' #[_,_,z,_,_,_]=>(by cases z)]]
   exact hq _ H' #[A2,z1,z2,.non]
  ·cases e
def tN {H:Hp}{a:GP}{ns:Gy G1}(hO:uT H)(hS:SqL K H a (ns.map V.int)):StoreOk w K [a] H [.fro (ns.map W.int)]/\RelL K [a] H [.ref 0] [.ref a]:=by
 have rl:∀ns:Gy G1,RelL K [a] H (ns.map W.int) (ns.map V.int):=by
  intro ns
  induction ns with
  | nil=>exact .nil
  | cons n ns ih=>exact .cons .int ih
 have fr:FroL K H a (ns.map V.int):=by
  rcases hS with(h|⟨o,h⟩)|h
  ·rcases hO a with z|⟨o,xs,z⟩ <;> (rw[z]at h; cases h)
  ·exact .inl #[o,h]
  ·exact .inr h
 show#[#[rfl,λi j b o u e1 m1 e2 m2 _ _=>?_,λi o b e1 e2=>?_],.cons (.ref rfl) .nil]
 ·cases i with
  | zero=>simp at e1; subst e1; cases m1
  | succ i=>simp at e1
 ·cases i with
  | zero=>
   simp at e1 e2;subst e1 e2;exact#[_,fr,rl ns]
  | succ i=>simp at e1
def B3 {g:FF}{H:Hp}{a:GP}{ns:Gy G1}(h:∃S',g [.ref 0] [.fro (ns.map W.int)]=gV (.bl true,S'))(hO:uT H)(hS:SqL K H a (ns.map V.int)):spF w K 1 g [.ref a] H (λv _=>v=.bl true) λ_ _ _=>Ip:=by
 obtain⟨S',e⟩:=h;obtain⟨so,rl⟩:=tN hO hS;exact#[[a],_,_,_,S',so,rl,rfl,e,λv H' #[A',z1,z2,z3]=>by cases z3; rfl]
end
abbrev Wp {α:Type}(o:GH α)(Q:α->Prop):Prop:=∃a,o=gV a/\Q a
def ae {α:Type}{a:α}{Q:α->Prop}:Wp (gV a) Q↔Q a:=#[λ#[b,e,h]=>(by cases e; exact h),λh=>#[a,rfl,h]]
def af {α:Type}{Q:α->Prop}:Wp (td:GH α) Q↔Ip:=#[λ#[b,e,h]=>(by cases e),λh=>h.elim]
def Wp.mono {α:Type}{o:GH α}{Q Q':α->Prop}(h:Wp o Q)(k:∀a,Q a->Q' a):Wp o Q':=let ⟨a,e,q⟩:=h; #[a,e,k a q]
section
variable{M:Hc->FF}{fuel:GJ}{Z:Fm}{S:aa}
noncomputable abbrev QW:=W×aa->Prop
def Gq {w:W}{Q:QW}:Wp (aC M (.c w) Z S) Q↔Q (w,S):=by(dsimp only[aC]; simp[fC,ae,af])
def Gb {i:GJ}{Q:QW}:Wp (aC M (.v i) Z S) Q↔∃w,Z[i]?=gV (gV w)/\Q (w,S):=by
 (dsimp only[aC]; simp only[fV])
 rcases h:Z[i]? with _|_|w <;> simp[ae,af]
def we {g:W->W->aa->GH (W×aa)}{a b:FE}{Q:QW}:Wp (yK g a b Z S) Q↔Wp (a Z S) λp=>Wp (b Z p.2) λq=>Wp (g p.1 q.1 q.2) Q:=by
 unfold yK;rcases h:a Z S with _|⟨x,S1⟩
 ·simp[ae,af]
 ·rcases h2:b Z S1 with _|⟨y,S2⟩ <;> simp[ae,af,h2]
def FB {o:BOp}{a b:E}{Q:QW}:Wp (aC M (.op o a b) Z S) Q↔Wp (aC M a Z S) λp=>Wp (aC M b Z p.2) λq=>Wp (g5 o p.1 q.1 q.2) Q:=by dsimp only[aC]; exact we
def An {o:COp}{a b:E}{Q:QW}:Wp (aC M (.cmp o a b) Z S) Q↔Wp (aC M a Z S) λp=>Wp (aC M b Z p.2) λq=>Wp (bo o p.1 q.1 q.2) Q:=by dsimp only[aC]; exact we
def FC {a b:E}{Q:QW}:Wp (aC M (.ix a b) Z S) Q↔Wp (aC M a Z S) λp=>Wp (aC M b Z p.2) λq=>Wp (jy p.1 q.1 q.2) Q:=by dsimp only[aC]; exact we
def DO {a b:E}{Q:QW}:Wp (aC M (.and a b) Z S) Q↔Wp (aC M a Z S) λp=>∃k,p.1=.bl k/\(k=true->Wp (aC M b Z p.2) Q)/\(k=false->Q (.bl false,p.2)):=by
 (dsimp only[aC]; dsimp only[rF])
 rcases h:aC M a Z S with _|⟨x,S1⟩
 ·simp[ae,af]
 ·cases x <;> simp[ae,af]
  rename_i b; cases b <;> simp[ae,af]
def FD {a b:E}{Q:QW}:Wp (aC M (.or a b) Z S) Q↔Wp (aC M a Z S) λp=>∃k,p.1=.bl k/\(k=true->Q (.bl true,p.2))/\(k=false->Wp (aC M b Z p.2) Q):=by
 (dsimp only[aC]; dsimp only[yP])
 rcases h:aC M a Z S with _|⟨x,S1⟩
 ·simp[ae,af]
 ·cases x <;> simp[ae,af]
  rename_i b; cases b <;> simp[ae,af]
def DP {a:E}{Q:QW}:Wp (aC M (.not a) Z S) Q↔Wp (aC M a Z S) λp=>∃k,p.1=.bl k/\Q (.bl (!k),p.2):=by
 (dsimp only[aC]; dsimp only[rG])
 rcases h:aC M a Z S with _|⟨x,S1⟩
 ·simp[ae,af]
 ·cases x <;> simp[ae,af]
  rename_i k; cases k <;> simp
def DQ {t a b:E}{Q:QW}:Wp (aC M (.ite t a b) Z S) Q↔Wp (cK M t Z S) λp=>(p.1=true->Wp (aC M a Z p.2) Q)/\(p.1=false->Wp (aC M b Z p.2) Q):=by
 (dsimp only[aC]; simp only[yQ])
 rcases h:cK M t Z S with _|⟨x,S1⟩
 ·simp[ae,af]
 ·cases x <;> simp[ae,af]
def Ao {f:Hc}{n:GJ}{es:Es}{Q:QW}:Wp (aC M (.own f n es) Z S) Q↔Wp (cR M es Z S) λp=>p.1.length=n/\Wp (M f p.1 p.2) Q:=by
 (dsimp only[aC]; dsimp only[oB])
 rcases h:cR M es Z S with _|⟨x,S1⟩
 ·simp[ae,af]
 ·by_cases hl:x.length=n <;> simp[ae,af,hl]
def DR {b:Bi}{es:Es}{Q:QW}:Wp (aC M (.bi b es) Z S) Q↔Wp (cR M es Z S) λp=>Wp (b.fn p.1 p.2) Q:=by
 (dsimp only[aC]; dsimp only[ji])
 rcases h:cR M es Z S with _|⟨x,S1⟩ <;> simp[ae,af]
def FH {m:Me}{o:E}{es:Es}{Q:QW}:Wp (aC M (.me m o es) Z S) Q↔Wp (aC M o Z S) λp=>tyOk m.ty p.2 p.1=true/\Wp (cR M es Z p.2) λq=>Wp (m.fn p.1 q.1 q.2) Q:=by
 (dsimp only[aC]; dsimp only[CJ])
 rcases h:aC M o Z S with _|⟨x,S1⟩
 ·simp[ae,af]
 ·by_cases ht:tyOk m.ty S1 x=true
  ·rcases h2:cR M es Z S1 with _|⟨y,S2⟩ <;> simp[ae,af,ht,h2]
  ·simp[ae,af,ht]
def FJ {a:E}{lo hi:Ep}{Q:QW}:Wp (aC M (.sl a lo hi) Z S) Q↔Wp (aC M a Z S) λp=>Wp (rO M lo Z p.2) λq=>Wp (rO M hi Z q.2) λr=>Wp (mE p.1 q.1 r.1 r.2) Q:=by
 (dsimp only[aC]; dsimp only[Dz])
 rcases h:aC M a Z S with _|⟨x,S1⟩
 ·simp[ae,af]
 ·rcases h2:rO M lo Z S1 with _|⟨y,S2⟩
  ·simp[ae,af,h2]
  ·rcases h3:rO M hi Z S2 with _|⟨z,S3⟩ <;> simp[ae,af,h2,h3]
def FK {Q:GH G1×aa->Prop}:Wp (rO M .no Z S) Q↔Q (td,S):=by(dsimp only[rO]; simp[BN,ae,af])
def DS {a:E}{Q:GH G1×aa->Prop}:Wp (rO M (.yes a) Z S) Q↔Wp (aC M a Z S) λp=>∃i,p.1=.int i/\Q (gV i,p.2):=by
 (dsimp only[rO]; simp only[rJ])
 rcases h:aC M a Z S with _|⟨x,S1⟩
 ·simp[ae,af]
 ·cases x <;> simp[ae,af]
def DT {es:Es}{Q:QW}:Wp (aC M (.tup es) Z S) Q↔Wp (cR M es Z S) λp=>p.1.length<=sizeLine/\Q (.tup p.1,p.2):=by
 (dsimp only[aC]; (dsimp only[vD]; simp only[pZ]))
 rcases h:cR M es Z S with _|⟨x,S1⟩
 ·simp[ae,af]
 ·by_cases hl:x.length<=sizeLine <;> simp[ae,af,hl]
def DU {es:Es}{Q:QW}:Wp (aC M (.lst es) Z S) Q↔Wp (cR M es Z S) λp=>p.1.length<=sizeLine/\Q (.ref p.2.length,p.2++[.lst p.1]):=by
 (dsimp only[aC]; (dsimp only[vE]; simp only[la]))
 rcases h:cR M es Z S with _|⟨x,S1⟩
 ·simp[ae,af]
 ·by_cases hl:x.length<=sizeLine <;> simp[ae,af,hl]
def Ap {c:Ir}{a:E}{Q:QW}:Wp (aC M (.isi c a) Z S) Q↔Wp (aC M a Z S) λp=>∃k,BX p.2 p.1 c=gV k/\Q (.bl k,p.2):=by
 (dsimp only[aC]; simp only[vM])
 rcases h:aC M a Z S with _|⟨x,S1⟩
 ·simp[ae,af]
 ·cases h2:BX S1 x c <;> simp[ae,af,h2]
  rename_i k; cases k <;> simp
def DV {a:E}{Q:QW}:Wp (aC M (.neg a) Z S) Q↔Wp (aC M a Z S) λp=>∃i,p.1=.int i/\Q (.int (-i),p.2):=by
 (dsimp only[aC]; simp only[vx])
 rcases h:aC M a Z S with _|⟨x,S1⟩
 ·simp[ae,af]
 ·cases x <;> simp[ae,af]
def B4 {es:Es}{Q:QW}:Wp (aC M (.disp es) Z S) Q↔Wp (cR M es Z (S++[.dic []])) λp=>p.2[S.length]?=gV (.dic [])/\∃U,dt [] p.1=gV U/\Q (.ref S.length,p.2.set S.length (.dic U)):=by
 have e:aC M (.disp es) Z S=oG (cR M es) Z S:=by dsimp only[aC]
 rw[e];unfold oG;cases cR M es Z (S++[.dic []])with
 | none=>simp[af]
 | some p=>
  obtain⟨x,S1⟩:=p;simp only[ae];cases h2:S1[S.length]? with
  | none=>simp[af]
  | some o=>
   cases o with
   | lst _=>simp[af]
   | fro _=>simp[af]
   | frd _=>simp[af]
   | rng _ _=>simp[af]
   | dic U=>
    cases U with
    | nil=>cases h3:dt [] x <;> simp[ae,af]
    | cons a b=>simp[af]
def Aq {o o':COp}{a b d:E}{Q:QW}(h:Wp (aC M a Z S) λp=>Wp (aC M b Z p.2) λq=>∃k,ut o p.1 q.1 q.2=gV k/\(k=true->Wp (aC M d Z q.2) λr=>Wp (dz o' q.1 r.1 r.2) Q)/\(k=false->Q (.bl false,q.2))):Wp (aC M (.chn o o' a b d) Z S) Q:=by
 obtain⟨⟨x,S1⟩,e1,⟨y,S2⟩,e2,k,e3,h1,h2⟩:=h;have e:aC M (.chn o o' a b d) Z S=fI o o' (aC M a) (aC M b) (aC M d) Z S:=by dsimp only[aC]
 rw[e];unfold fI;rw[e1];dsimp only;rw[e2];dsimp only;rw[e3];cases k with
 | false=>exact#[_,rfl,h2 rfl]
 | true=>
  obtain⟨⟨z,S3⟩,e4,⟨r,e5,q⟩⟩:=h1 rfl;dsimp only;rw[e4];exact#[_,e5,q]
def DW {Q:Gy W×aa->Prop}:Wp (cR M .nil Z S) Q↔Q ([],S):=by(dsimp only[cR]; (dsimp only[ib]; simp[ae,af]))
def B5 {e:E}{es:Es}{Q:Gy W×aa->Prop}:Wp (cR M (.cons e es) Z S) Q↔Wp (aC M e Z S) λp=>Wp (cR M es Z p.2) λq=>Q (p.1::q.1,q.2):=by
 (dsimp only[cR]; dsimp only[dw])
 rcases h:aC M e Z S with _|⟨x,S1⟩
 ·simp[ae,af]
 ·rcases h2:cR M es Z S1 with _|⟨y,S2⟩ <;> simp[ae,af,h2]
noncomputable abbrev QB:=Hi×aa->Prop
def Ar {f:FE}{Q:QB}:Wp (oz f Z S) Q↔Wp (f Z S) λp=>∃k,p.1=.bl k/\Q (k,p.2):=by
 unfold oz;rcases h:f Z S with _|⟨x,S1⟩
 ·simp[ae,af]
 ·cases x <;> simp[ae,af]
  rename_i k; cases k <;> simp
def rY {f:FE}{Q:QB}:Wp (gA f Z S) Q↔Wp (f Z S) λp=>∃k,eE p.2 p.1=gV k/\Q (k,p.2):=by
 unfold gA;rcases h:f Z S with _|⟨x,S1⟩
 ·simp[ae,af]
 ·cases h2:eE S1 x <;> simp[ae,af,h2]
  rename_i k; cases k <;> simp
def DX {o:COp}{a b:E}{Q:QB}:Wp (cK M (.cmp o a b) Z S) Q↔Wp (aC M (.cmp o a b) Z S) λp=>∃k,p.1=.bl k/\Q (k,p.2):=by dsimp only[cK,aC]; exact Ar
def DY {o o':COp}{a b d:E}{Q:QB}:Wp (cK M (.chn o o' a b d) Z S) Q↔Wp (aC M (.chn o o' a b d) Z S) λp=>∃k,p.1=.bl k/\Q (k,p.2):=by dsimp only[cK,aC]; exact Ar
def DZ {a b:E}{Q:QB}:Wp (cK M (.and a b) Z S) Q↔Wp (cK M a Z S) λp=>(p.1=true->Wp (cK M b Z p.2) Q)/\(p.1=false->Q (false,p.2)):=by
 (dsimp only[cK]; simp only[vB])
 rcases h:cK M a Z S with _|⟨x,S1⟩
 ·simp[ae,af]
 ·cases x <;> simp[ae,af]
def FL {a b:E}{Q:QB}:Wp (cK M (.or a b) Z S) Q↔Wp (cK M a Z S) λp=>(p.1=true->Q (true,p.2))/\(p.1=false->Wp (cK M b Z p.2) Q):=by
 (dsimp only[cK]; simp only[Dw])
 rcases h:cK M a Z S with _|⟨x,S1⟩
 ·simp[ae,af]
 ·cases x <;> simp[ae,af]
def D0 {a:E}{Q:QB}:Wp (cK M (.not a) Z S) Q↔Wp (cK M a Z S) λp=>Q (!p.1,p.2):=by
 (dsimp only[cK]; simp only[yM])
 rcases h:cK M a Z S with _|⟨x,S1⟩ <;> simp[ae,af]
def Gr {i:GJ}{Q:QB}:Wp (cK M (.v i) Z S) Q↔Wp (aC M (.v i) Z S) λp=>∃k,eE p.2 p.1=gV k/\Q (k,p.2):=by dsimp only[cK,aC]; exact rY
def D1 {f:Hc}{n:GJ}{es:Es}{Q:QB}:Wp (cK M (.own f n es) Z S) Q↔Wp (aC M (.own f n es) Z S) λp=>∃k,eE p.2 p.1=gV k/\Q (k,p.2):=by dsimp only[cK,aC]; exact rY
def FM {b:Bi}{es:Es}{Q:QB}:Wp (cK M (.bi b es) Z S) Q↔Wp (aC M (.bi b es) Z S) λp=>∃k,eE p.2 p.1=gV k/\Q (k,p.2):=by dsimp only[cK,aC]; exact rY
def D2 {c:Ir}{a:E}{Q:QB}:Wp (cK M (.isi c a) Z S) Q↔Wp (aC M (.isi c a) Z S) λp=>∃k,eE p.2 p.1=gV k/\Q (k,p.2):=by dsimp only[cK,aC]; exact rY
noncomputable abbrev QO:=Out×aa->Prop
def D3 {Q:QO}:Wp (fK M fuel .nil Z S) Q↔Q (.nx Z,S):=by(dsimp only[fK]; simp[ae,af])
def B6 {s:Sm}{ss:Ss}{Q:QO}:Wp (fK M fuel (.cons s ss) Z S) Q↔Wp (fB M fuel s Z S) λp=>(∀Z',p.1=.nx Z'->Wp (fK M fuel ss Z' p.2) Q)/\((∀Z',p.1≠.nx Z')->Q p):=by
 (dsimp only[fK]; simp only[yW])
 rcases h:fB M fuel s Z S with _|⟨o,S1⟩
 ·simp[ae,af]
 ·cases o <;> simp[ae,af]
def wf {f:FE}{g:FG}{Q:QO}:Wp (ke f g Z S) Q↔Wp (f Z S) λp=>Wp (g p.1 Z p.2) λq=>Q (.nx q.1,q.2):=by
 unfold ke;rcases h:f Z S with _|⟨x,S1⟩
 ·simp[ae,af]
 ·rcases h2:g x Z S1 with _|⟨y,S2⟩ <;> simp[ae,af,h2]
def B7 {i:GJ}{e:E}{Q:QO}:Wp (fB M fuel (.set i e) Z S) Q↔Wp (aC M e Z S) λp=>Q (.nx (Z.set i (gV p.1)),p.2):=by
 dsimp only[fB]; rw[wf]; simp[Ah,ae,af]
def B8 {is:Gy GJ}{e:E}{Q:QO}:Wp (fB M fuel (.asg is e) Z S) Q↔Wp (aC M e Z S) λp=>∃ws Z',p.1=.tup ws/\cf is ws Z=gV Z'/\Q (.nx Z',p.2):=by
 dsimp only[fB]; rw[wf]
 constructor
 ·show λh=>h.mono λp hp=>?_
  obtain⟨w,S1⟩:=p;obtain⟨q,h1,h2⟩:=hp;cases w with
  | tup ws=>
   simp only[CK,GD]at h1;obtain⟨Z',h3,rfl⟩:=h1;exact#[ws,Z',rfl,h3,h2]
  | _=>cases h1
 ·show λh=>h.mono λp hp=>?_
  obtain⟨w,S1⟩:=p;obtain⟨ws,Z',h0,h1,h2⟩:=hp;subst h0;exact#[(Z',S1),by simp[CK,h1],h2]
def B9 {i j:GJ}{es:Es}{Q:QO}:Wp (fB M fuel (.par i j es) Z S) Q↔Wp (cR M es Z S) λp=>∃x y,p.1=[x,y]/\Q (.nx ((Z.set i (gV x)).set j (gV y)),p.2):=by
 (dsimp only[fB]; dsimp only[y8])
 rcases h:cR M es Z S with _|⟨x,S1⟩
 ·simp[af]
 ·match x with
  | []=>simp[ae,af]
  | [_]=>simp[ae,af]
  | [a,b]=>
   simp only[ae];exact#[λh=>#[a,b,rfl,h],λ#[x,y,e,h]=>by cases e; exact h]
  | _::_::_::_=>simp[ae,af]
def Cb {o k e:E}{Q:QO}:Wp (fB M fuel (.put o k e) Z S) Q↔Wp (aC M e Z S) λp=>Wp (aC M o Z p.2) λq=>Wp (aC M k Z q.2) λr=>∃S',hX q.1 r.1 p.1 r.2=gV S'/\Q (.nx Z,S'):=by
 dsimp only[fB]; rw[wf]
 rcases h:aC M e Z S with _|⟨x,S1⟩
 ·simp[ae,af]
 ·simp only[ae];unfold y6;rcases h2:aC M o Z S1 with _|⟨y,S2⟩
  ·simp[ae,af]
  ·rcases h3:aC M k Z S2 with _|⟨z,S3⟩
   ·simp[ae,af,h3]
   ·cases h4:hX y z x S3 <;> simp[ae,af,h3,h4]
def D4 {e:E}{Q:QO}:Wp (fB M fuel (.ex e) Z S) Q↔Wp (aC M e Z S) λp=>Q (.nx Z,p.2):=by
 (dsimp only[fB]; simp only[yX])
 rcases h:aC M e Z S with _|⟨x,S1⟩ <;> simp[ae,af]
def Cc {e:E}{Q:QO}:Wp (fB M fuel (.ret e) Z S) Q↔Wp (aC M e Z S) λp=>Q (.rt p.1,p.2):=by
 (dsimp only[fB]; simp only[yZ])
 rcases h:aC M e Z S with _|⟨x,S1⟩ <;> simp[ae,af]
def Cd {t:E}{a b:Ss}{Q:QO}:Wp (fB M fuel (.ite t a b) Z S) Q↔Wp (cK M t Z S) λp=>(p.1=true->Wp (fK M fuel a Z p.2) Q)/\(p.1=false->Wp (fK M fuel b Z p.2) Q):=by
 (dsimp only[fB]; simp only[y4])
 rcases h:cK M t Z S with _|⟨x,S1⟩
 ·simp[ae,af]
 ·cases x <;> simp[ae,af]
abbrev wg (I:Fm->aa->Prop)(Q:QO)(o:Out×aa):Prop:=match o.1 with
 | .nx Z'=>I Z' o.2
 | .ct Z'=>I Z' o.2
 | .bk Z'=>Q (.nx Z',o.2)
 | .rt w=>Q (.rt w,o.2)
def iT {mi:MI}{g:FG}{b:FS}{xs:Gy W}{Q:QO}(I:GJ->Fm->aa->Prop)(hat:∀i Z S,I i Z S->mi.at S i=gV xs[i]?)
  (hstep:∀i w Z S,xs[i]?=gV w->I i Z S->Wp (g w Z S) λq=>Wp (b q.1 q.2) (wg (I (i+1)) Q)) (hend:∀Z S,I xs.length Z S->Q (.nx Z,S)):∀(n i:GJ) (Z:Fm) (S:aa),i+n=xs.length->I i Z S->Wp (fJ mi g b n i Z S) Q
 | 0,i,Z,S,hl,hI=>by
  have e:mi.at S i=gV td:=by rw[hat i Z S hI,J2 ∅]
  simp only[fJ,e];have hi:i=xs.length:=∅
  exact ae.mpr (hend Z S (hi ▸ hI))
 | n+1,i,Z,S,hl,hI=>by
  have hi:i < xs.length:=∅
  have e:mi.at S i=gV (gV xs[i]):=by rw[hat i Z S hI,G5 hi]
  obtain⟨⟨Z1,S1⟩,h1,⟨o,S2⟩,h2,h3⟩:=hstep i xs[i] Z S (G5 hi) hI;simp only[fJ,e,h1,h2];cases o with
  | nx Z2=>exact iT I hat hstep hend n (i+1) Z2 S2 ∅ h3
  | ct Z2=>exact iT I hat hstep hend n (i+1) Z2 S2 ∅ h3
  | bk Z2=>exact ae.mpr h3
  | rt w=>exact ae.mpr h3
def D5 {fi:FI}{g:FG}{b:FS}{Q:QO}:Wp (vK fi g b Z S) Q↔Wp (fi Z S) λp=>∃n,p.1.len p.2=gV n/\Wp (fJ p.1 g b n 0 Z p.2) Q:=by
 unfold vK;rcases h:fi Z S with _|⟨mi,S1⟩
 ·simp[af]
 ·cases h2:mi.len S1 <;> simp[ae,af,h2]
def dA {mi:MI}{g:FG}{c:FT}{f:FE}{xs:Gy W}{Q:Gy W×aa->Prop}(I:GJ->Gy W->Fm->aa->Prop)(hat:∀i ys Z S,I i ys Z S->mi.at S i=gV xs[i]?)
  (hstep:∀i w ys Z S,xs[i]?=gV w->I i ys Z S->Wp (g w Z S) λq=>Wp (c q.1 q.2) λk=>(k.1=true->Wp (f q.1 k.2) λy=>I (i+1) (ys++[y.1]) q.1 y.2)/\(k.1=false->I (i+1) ys q.1 k.2))
  (hend:∀ys Z S,I xs.length ys Z S->Q (ys,S)):∀(n i:GJ) (ys:Gy W) (Z:Fm) (S:aa),i+n=xs.length->I i ys Z S->Wp (bA mi g c f n i Z S) λp=>Q (ys++p.1,p.2)
 | 0,i,ys,Z,S,hl,hI=>by
  have e:mi.at S i=gV td:=by rw[hat i ys Z S hI,J2 ∅]
  simp only[bA,e];show ae.mpr ?_;have:i=xs.length:=∅
  simpa using hend ys Z S (this ▸ hI)
 | n+1,i,ys,Z,S,hl,hI=>by
  have hi:i < xs.length:=∅
  have e:mi.at S i=gV (gV xs[i]):=by rw[hat i ys Z S hI,G5 hi]
  obtain⟨⟨Z1,S1⟩,h1,⟨k,S2⟩,h2,h3,h4⟩:=hstep i xs[i] ys Z S (G5 hi) hI;simp only[bA,e,h1,h2];cases k with
  | true=>
   obtain⟨⟨y,S3⟩,h5,h6⟩:=h3 rfl;simp only[h5];obtain⟨⟨zs,S4⟩,h7,h8⟩:=dA I hat hstep hend n (i+1) (ys++[y]) Z1 S3 ∅ h6
   simp only[h7];exact ae.mpr (by simpa using h8)
  | false=>exact dA I hat hstep hend n (i+1) ys Z1 S2 ∅ (h4 rfl)
def wj {elt:E}{tg:Tg}{it:Ie}{cs:Es}{cap:Gy (GH GJ)}{Q:QW}:Wp (aC M (.comp elt tg it cs cap) Z S) Q↔Wp (iP M it Z S) λp=>∃n,p.1.len p.2=gV n/\Wp (bA p.1 (fX tg) (zv M cs) (aC M elt) n 0 (d7 cap Z) p.2) λq=>q.1.length<=sizeLine/\Q (.ref q.2.length,q.2++[.lst q.1]):=by
 (dsimp only[aC]; simp only[kh,la])
 rcases h:iP M it Z S with _|⟨mi,S1⟩
 ·simp[af]
 ·rcases h2:mi.len S1 with _|n
  ·simp[ae,af,h2]
  ·rcases h3:bA mi (fX tg) (zv M cs) (aC M elt) n 0 (d7 cap Z) S1 with _|⟨ys,S2⟩
   ·simp[ae,af,h2,h3]
   ·by_cases hl:ys.length<=sizeLine <;> simp[ae,af,h2,h3,hl]
def D6 {Q:QB}:Wp (zv M .nil Z S) Q↔Q (true,S):=by(dsimp only[zv]; simp[Aj,ae])
def D7 {e:E}{Q:QB}:Wp (zv M #v[e] Z S) Q↔Wp (cK M e Z S) Q:=by dsimp only[zv]; exact PC
def kz {c:FT}{b:FS}{Q:QO}(I:GJ->Fm->aa->Prop)(hstep:∀m Z S,I m Z S->Wp (c Z S) λk=>(k.1=true->∃m',m=m'+1/\Wp (b Z k.2) (wg (I m') Q))/\(k.1=false->Q (.nx Z,k.2))) :
  ∀(n m:GJ) (Z:Fm) (S:aa),m < n->I m Z S->Wp (mV c b n Z S) Q
 | 0,m,Z,S,h,_=>∅
 | n+1,m,Z,S,h,hI=>by
  obtain⟨⟨k,S1⟩,h1,h2,h3⟩:=hstep m Z S hI;simp only[mV,h1];cases k with
  | false=>exact ae.mpr (h3 rfl)
  | true=>
   obtain⟨m',rfl,⟨o,S2⟩,h5,h6⟩:=h2 rfl;simp only[h5];cases o with
   | nx Z2=>exact kz I hstep n m' Z2 S2 ∅ h6
   | ct Z2=>exact kz I hstep n m' Z2 S2 ∅ h6
   | bk Z2=>exact ae.mpr h6
   | rt w=>exact ae.mpr h6
def tP {defs:Gy (Hc×Df)}{d:GJ}{f:Hc}{ws:Gy W}{df:Df}{Q:QW}(h:defs.lookup f=gV df)(hl:ws.length=df.ps.length)
  (hb:Wp (fK (au defs fuel d) fuel df.body (eW df.N ws) S) λp=>match p.1 with|.rt w=>Q (w,p.2)|.nx _=>Q (.non,p.2)|_=>Ip):Wp (au defs fuel (d+1) f ws S) Q:=by
 obtain⟨⟨o,S1⟩,h1,h2⟩:=hb;simp only[au,h,Hf hl,h1];cases o with
 | rt w=>exact ae.mpr h2
 | nx Z=>exact ae.mpr h2
 | bk _=>exact h2.elim
 | ct _=>exact h2.elim
end
section
variable{S:aa}{Q:QW}
def dX {a b:G1}:g5 .add (.int a) (.int b) S=gV (.int (a+b),S):=rfl
def kA {a b:G1}:g5 .sub (.int a) (.int b) S=gV (.int (a - b),S):=rfl
def nj {c:G1->G1->Hi}{f:G1->G1->G1}{i j:G1}(h:c i j=true):xI c f (.int i) (.int j) S=gV (.int (f i j),S):=by
 unfold xI;dsimp only;rw[Hf h]
def rZ {a b:G1}(h : -(2 ^ 64) < b)(h2:b < 2 ^ 64):g5 .mul (.int a) (.int b) S=gV (.int (a*b),S):=nj (c:=sO) (f:=(· * ·)) (by
 unfold sO;simp only[ID,GK,Hm];exact .inr #[h,h2])
def kB {a b:G1}(h:0 < b):g5 .mod (.int a) (.int b) S=gV (.int (a % b),S):=nj (c:=λ_ j=>decide (0 < j)) (f:=(· % ·)) (HI h)
def nk {a b:G1}(h:0 < b)(h2:b < 1073741824):g5 .fdiv (.int a) (.int b) S=gV (.int (a / b),S):=nj (c:=λ_ j=>ym j) (f:=(· / ·)) (by
 unfold ym;simp only[GK,Hm];exact#[h,h2])
def Ce:g5 .pow (.int 10) (.int 18) S=gV (.int 1000000000000000000,S):=rfl
def dY {xs ys:Gy W}(h:(xs++ys).length<=sizeLine):g5 .add (.tup xs) (.tup ys) S=gV (.tup (xs++ys),S):=by simp only[g5,uY,pZ]; rw[Hf h]
def qp {i j:GJ}{xs ys:Gy W}(h1:S[i]?=gV (.lst xs))(h2:S[j]?=gV (.lst ys))(h:(xs++ys).length<=sizeLine):g5 .add (.ref i) (.ref j) S=gV (.ref S.length,S++[.lst (xs++ys)]):=by
 simp only[g5,uY,mC,h1,h2,la]; rw[Hf h]
def ll {a b:G1}:bo .eq (.int a) (.int b) S=gV (.bl (a==b),S):=rfl
def Cf {a b:G1}:bo .ne (.int a) (.int b) S=gV (.bl (!(a==b)),S):=rfl
def qr {a b:G1}:bo .lt (.int a) (.int b) S=gV (.bl (decide (a < b)),S):=rfl
def Cg {a b:G1}:bo .gt (.int a) (.int b) S=gV (.bl (decide (a > b)),S):=rfl
def zB {a b:G1}:bo .ge (.int a) (.int b) S=gV (.bl (decide (a>=b)),S):=rfl
def aD {r:GJ}{xs:Gy W}(h:S[r]?=gV (.lst xs)):gN S r=gV xs:=by simp[gN,h]
def zC {r:GJ}{xs:Gy W}(h:S[r]?=gV (.fro xs)):gN S r=gV xs:=by simp[gN,h]
def bx {r:GJ}{xs:Gy W}(h:S[r]?=gV (.lst xs)):mC S r=gV xs:=by simp[mC,h]
def gf {r:GJ}{xs:Gy W}(h:S[r]?=gV (.lst xs)):jx S r=td:=by simp[jx,h]
def bV {r:GJ}{U:Gy (T×W)}(h:S[r]?=gV (.dic U)):jx S r=gV U:=by simp[jx,h]
def nq {r:GJ}{U:Gy (T×W)}(h:S[r]?=gV (.dic U)):gN S r=td:=by simp[gN,h]
def zD {r:GJ}{U:Gy (T×W)}(h:S[r]?=gV (.frd U)):jx S r=gV U:=by simp[jx,h]
def atI_nat {α:Type}{xs:Gy α}{j:GJ}{w:α}(h:xs[j]?=gV w):nM xs (j:G1)=gV w:=by
 have hl:=(G9.mp h).1;unfold nM qW;rw[Hf (GR j),Hf (by exact_mod_cast hl)]
 simpa using h
def nr {α:Type}{xs:Gy α}{i:G1}{w:α}(h0:0<=i)(h:xs[i.toNat]?=gV w):nM xs i=gV w:=by
 have:=atI_nat h
 rwa [My h0]at this
def wm {r:GJ}{xs:Gy W}{i:G1}{w:W}(h:S[r]?=gV (.lst xs))(h0:0<=i)(hw:xs[i.toNat]?=gV w):jy (.ref r) (.int i) S=gV (w,S):=by
 change sP (.ref r) (.int i) S=_;simp[sP,aD h,nr h0 hw]
def D8 {xs:Gy W}{i:G1}{w:W}(h0:0<=i)(hw:xs[i.toNat]?=gV w):jy (.tup xs) (.int i) S=gV (w,S):=by
 change sP (.tup xs) (.int i) S=_;simp[sP,nr h0 hw]
def D9 {x:Hc}{i:G1}{c:GJ}(hz:x.length<=sizeLine)(h0:0<=i)(hw:x.cps.toList[i.toNat]?=gV c):jy (.str x) (.int i) S=gV (.str #[[c].toArray],S):=by
 change sP (.str x) (.int i) S=_;simp[sP,hz,nr h0 hw]
def As {r:GJ}{xs:Gy W}{i:G1}{w:W}(h:S[r]?=gV (.lst xs))(h0:0<=i)(hi:i.toNat < xs.length):hX (.ref r) (.int i) w S=gV (S.set r (.lst (xs.set i.toNat w))):=by
 change sQ (.ref r) (.int i) w S=_;have:qW xs.length i=gV i.toNat:=by
  unfold qW;rw[Hf h0,Hf ∅]
 simp[sQ,bx h,this]
def At {r:GJ}{xs:Gy W}(h:S[r]?=gV (.lst xs)):qb [.ref r] S=gV (.int xs.length,S):=by
 (dsimp only[qb,p7]; simp[gf h,aD h])
def r0 {r:GJ}{xs:Gy W}{y:W}(h:S[r]?=gV (.lst xs))(hl:xs.length < sizeLine):g7 (.ref r) [y] S=gV (.non,S.set r (.lst (xs++[y]))):=by
 simp[g7,bx h,hl]
def Ea {r:GJ}{xs:Gy W}(h:S[r]?=gV (.lst xs)):j8 [.ref r] S=gV (.tup xs,S):=by
 (dsimp only[j8,jW]; simp[sW,h,aD h])
def cg {r:GJ}{xs:Gy W}(h:S[r]?=gV (.lst xs)):tyOk "list" S (.ref r)=true:=by simp[tyOk,aD h]
def br {r:GJ}{o o':O}(h:S[r]?=gV o):(S.set r o')[r]?=gV o':=by
 rw[IS,Hf rfl,Hf (G9.mp h).1]
def bn {r j:GJ}{o':O}(h:r≠j):(S.set r o')[j]?=S[j]?:=by rw[IS,Hl h]
def ak {o:O}:(S++[o])[S.length]?=gV o:=by simp
def aq {j:GJ}{o u:O}(h:S[j]?=gV o):(S++[u])[j]?=gV o:=by rw[Hr (G9.mp h).1]; exact h
def bP {j:GJ}{o:O}(h:S[j]?=gV o):j < S.length:=(G9.mp h).1
structure Kp (r:GJ)(S S':aa):Prop where
 get:∀j o,j≠r->S[j]?=gV o->S'[j]?=gV o
 len:S.length<=S'.length
def Kp.refl {r:GJ}{S:aa}:Kp r S S:=#[λ_ _ _ h=>h,GY _]
def Kp.trans {r:GJ}{S S' S'':aa}(a:Kp r S S')(b:Kp r S' S''):Kp r S S'':=#[λj o n h=>b.get j o n (a.get j o n h),HB a.len b.len]
def Kp.set {r:GJ}{S:aa}{o:O}:Kp r S (S.set r o):=#[λj u n h=>by rw[bn (Ne.symm n)]; exact h,by simp]
def Kp.push {r:GJ}{S:aa}{o:O}:Kp r S (S++[o]):=#[λj u n h=>aq h,by simp]
def Kp.late {r t:GJ}{S0 S:aa}{o:O}(a:Kp r S0 S)(h:S0.length<=t):Kp r S0 (S.set t o):=
 #[λj u n e=>by
  have:=bP e;rw[bn ∅]; exact a.get j u n e,by simpa using a.len]
end
abbrev wO {α:Type}(o:GH α)(Q:α->Prop):Prop:=match o with
 | some a=>Q a
 | none=>Ip
def bJ {α:Type}{o:GH α}{Q:α->Prop}(h:wO o Q):Wp o Q:=by
 cases o with
 | none=>exact h.elim
 | some a=>exact#[a,rfl,h]
def Eb {α:Type}{o:GH α}{Q:α->Prop}(h:Wp o Q):wO o Q:=by
 obtain⟨a,rfl,q⟩:=h;exact q
def ab {α:Type}{o:GH α}{a:α}{Q:α->Prop}(e:o=gV a)(h:Q a):wO o Q:=by subst e; exact h
abbrev wB:W->(Hi->Prop)->Prop
 | .bl k,Q=>Q k
 | _,_=>Ip
abbrev wN:W->(G1->Prop)->Prop
 | .int k,Q=>Q k
 | _,_=>Ip
abbrev wU:W->(Gy W->Prop)->Prop
 | .tup k,Q=>Q k
 | _,_=>Ip
def oP {w:W}{Q:Hi->Prop}(h:wB w Q):∃k,w=.bl k/\Q k:=by cases w <;> first|exact h.elim|exact#[_,rfl,h]
def Au {w:W}{Q:G1->Prop}(h:wN w Q):∃k,w=.int k/\Q k:=by cases w <;> first|exact h.elim|exact#[_,rfl,h]
def Ec {w:W}{Q:Gy W->Prop}(h:wU w Q):∃k,w=.tup k/\Q k:=by cases w <;> first|exact h.elim|exact#[_,rfl,h]
abbrev w2:Gy W->(W->W->Prop)->Prop
 | [x,y],Q=>Q x y
 | _,_=>Ip
def Ed {xs:Gy W}{Q:W->W->Prop}(h:w2 xs Q):∃x y,xs=[x,y]/\Q x y:=by
 match xs,h with
 | [x,y],h=>exact#[x,y,rfl,h]
abbrev wG:GH W->(W->Prop)->Prop
 | some w,Q=>Q w
 | none,_=>Ip
abbrev wV:Fm->GJ->(W->Prop)->Prop
 | [],_,_=>Ip
 | o::_,0,Q=>wG o Q
 | _::Z,n+1,Q=>wV Z n Q
def wn {Q:W->Prop}:∀ {Z:Fm} {i:GJ},wV Z i Q->∃w,Z[i]?=gV (gV w)/\Q w
 | [],i,h=>h.elim
 | some w::Z,0,h=>#[w,rfl,h]
 | none::Z,0,h=>h.elim
 | x::Z,n+1,h=>by
  obtain⟨w,e2,q⟩:=wn (Z:=Z) (i:=n) h;exact#[w,e2,q]
abbrev aP (M:Hc->FF)(f:Hc)(n:GJ)(ws:Gy W)(S:aa):GH (W×aa):=if ws.length=n then M f ws S else td
section
variable (M:Hc->FF) (fuel:GJ)
mutual
def wE:E->Fm->aa->QW->Prop
 | .c w,_,S,Q=>Q (w,S)
 | .v i,Z,S,Q=>wV Z i λw=>Q (w,S)
 | .op o a b,Z,S,Q=>wE a Z S λp=>wE b Z p.2 λq=>wO (g5 o p.1 q.1 q.2) Q
 | .cmp o a b,Z,S,Q=>wE a Z S λp=>wE b Z p.2 λq=>wO (bo o p.1 q.1 q.2) Q
 | .and a b,Z,S,Q=>wE a Z S λp=>wB p.1 λk=>(k=true->wE b Z p.2 Q)/\(k=false->Q (.bl false,p.2))
 | .or a b,Z,S,Q=>wE a Z S λp=>wB p.1 λk=>(k=true->Q (.bl true,p.2))/\(k=false->wE b Z p.2 Q)
 | .not a,Z,S,Q=>wE a Z S λp=>wB p.1 λk=>Q (.bl (!k),p.2)
 | .own f n es,Z,S,Q=>wA es Z S λp=>wO (aP M f n p.1 p.2) Q
 | .bi b es,Z,S,Q=>wA es Z S λp=>wO (b.fn p.1 p.2) Q
 | .me m o es,Z,S,Q=>wE o Z S λp=>tyOk m.ty p.2 p.1=true/\wA es Z p.2 λq=>wO (m.fn p.1 q.1 q.2) Q
 | .ix a b,Z,S,Q=>wE a Z S λp=>wE b Z p.2 λq=>wO (jy p.1 q.1 q.2) Q
 | .sl a lo hi,Z,S,Q=>wE a Z S λp=>wP lo Z p.2 λq=>wP hi Z q.2 λr=>wO (mE p.1 q.1 r.1 r.2) Q
 | .tup es,Z,S,Q=>wA es Z S λp=>Q (.tup p.1,p.2)
 | .lst es,Z,S,Q=>wA es Z S λp=>Q (.ref p.2.length,p.2++[.lst p.1])
 | .isi c a,Z,S,Q=>wE a Z S λp=>wO (BX p.2 p.1 c) λk=>Q (.bl k,p.2)
 | .neg a,Z,S,Q=>wE a Z S λp=>wN p.1 λi=>Q (.int (-i),p.2)
 | .dnew,_,S,Q=>Q (.ref S.length,S++[.dic []])
 | .disp es,Z,S,Q=>wA es Z (S++[.dic []]) λp=>p.2[S.length]?=gV (.dic [])/\wO (dt [] p.1) λU=>Q (.ref S.length,p.2.set S.length (.dic U))
 | .chn o o' a b d,Z,S,Q=>wE a Z S λp=>wE b Z p.2 λq=>wO (ut o p.1 q.1 q.2) λk=>(k=true->wE d Z q.2 λr=>wO (dz o' q.1 r.1 r.2) Q)/\(k=false->Q (.bl false,q.2))
 | .ite t a b,Z,S,Q=>wT t Z S λp=>(p.1=true->wE a Z p.2 Q)/\(p.1=false->wE b Z p.2 Q)
 | .comp elt tg it cs cap,Z,S,Q=>Wp (aC M (.comp elt tg it cs cap) Z S) Q
def wT:E->Fm->aa->QB->Prop
 | .cmp o a b,Z,S,Q=>wE a Z S λp=>wE b Z p.2 λq=>wO (bo o p.1 q.1 q.2) λr=>wB r.1 λk=>Q (k,r.2)
 | .and a b,Z,S,Q=>wT a Z S λp=>(p.1=true->wT b Z p.2 Q)/\(p.1=false->Q (false,p.2))
 | .or a b,Z,S,Q=>wT a Z S λp=>(p.1=true->Q (true,p.2))/\(p.1=false->wT b Z p.2 Q)
 | .not a,Z,S,Q=>wT a Z S λp=>Q (!p.1,p.2)
 | .isi c a,Z,S,Q=>wE a Z S λp=>wO (BX p.2 p.1 c) λk=>Q (k,p.2)
 | .c w,Z,S,Q=>Wp (cK M (.c w) Z S) Q
 | .v i,Z,S,Q=>wV Z i λw=>wO (eE S w) λk=>Q (k,S)
 | .op o a b,Z,S,Q=>Wp (cK M (.op o a b) Z S) Q
 | .own f n es,Z,S,Q=>wA es Z S λp=>wO (aP M f n p.1 p.2) λq=>wO (eE q.2 q.1) λk=>Q (k,q.2)
 | .bi b es,Z,S,Q=>wA es Z S λp=>wO (b.fn p.1 p.2) λq=>wO (eE q.2 q.1) λk=>Q (k,q.2)
 | .me m o es,Z,S,Q=>Wp (cK M (.me m o es) Z S) Q
 | .ix a b,Z,S,Q=>Wp (cK M (.ix a b) Z S) Q
 | .sl a lo hi,Z,S,Q=>Wp (cK M (.sl a lo hi) Z S) Q
 | .tup es,Z,S,Q=>Wp (cK M (.tup es) Z S) Q
 | .lst es,Z,S,Q=>Wp (cK M (.lst es) Z S) Q
 | .neg a,Z,S,Q=>Wp (cK M (.neg a) Z S) Q
 | .dnew,Z,S,Q=>Wp (cK M .dnew Z S) Q
 | .disp es,Z,S,Q=>Wp (cK M (.disp es) Z S) Q
 | .chn o o' a b d,Z,S,Q=>wE a Z S λp=>wE b Z p.2 λq=>wO (ut o p.1 q.1 q.2) λk=>(k=true->wE d Z q.2 λr=>wO (dz o' q.1 r.1 r.2) λs=>wB s.1 λc=>Q (c,s.2))/\(k=false->Q (false,q.2))
 | .ite t a b,Z,S,Q=>Wp (cK M (.ite t a b) Z S) Q
 | .comp elt tg it cs cap,Z,S,Q=>Wp (cK M (.comp elt tg it cs cap) Z S) Q
def wA:Es->Fm->aa->(Gy W×aa->Prop)->Prop
 | .nil,_,S,Q=>Q ([],S)
 | .cons e es,Z,S,Q=>wE e Z S λp=>wA es Z p.2 λq=>Q (p.1::q.1,q.2)
def wP:Ep->Fm->aa->(GH G1×aa->Prop)->Prop
 | .no,_,S,Q=>Q (td,S)
 | .yes a,Z,S,Q=>wE a Z S λp=>wN p.1 λi=>Q (gV i,p.2)
end
abbrev oQ (K:Fm->aa->Prop)(Q:QO)(p:Out×aa):Prop:=match p.1 with
 | .nx Z=>K Z p.2
 | o=>Q (o,p.2)
mutual
def wS:Sm->Fm->aa->(Fm->aa->Prop)->QO->Prop
 | .set i e,Z,S,K,_=>wE M e Z S λp=>K (Z.set i (gV p.1)) p.2
 | .asg is e,Z,S,K,_=>wE M e Z S λp=>wU p.1 λws=>wO (cf is ws Z) λZ'=>K Z' p.2
 | .par i j es,Z,S,K,_=>wA M es Z S λp=>w2 p.1 λx y=>K ((Z.set i (gV x)).set j (gV y)) p.2
 | .put o k e,Z,S,K,_=>wE M e Z S λp=>wE M o Z p.2 λq=>wE M k Z q.2 λr=>wO (hX q.1 r.1 p.1 r.2) λS'=>K Z S'
 | .ex e,Z,S,K,_=>wE M e Z S λp=>K Z p.2
 | .ret e,Z,S,_,Q=>wE M e Z S λp=>Q (.rt p.1,p.2)
 | .pass,Z,S,K,_=>K Z S
 | .ite t a b,Z,S,K,Q=>wT M t Z S λp=>∀Q':QO,(∀Z' S',K Z' S'->Q' (.nx Z',S'))->(∀o S',(∀Z',o≠.nx Z')->Q (o,S')->Q' (o,S'))->(p.1=true->zE a Z p.2 Q')/\(p.1=false->zE b Z p.2 Q')
 | .whl t b,Z,S,K,Q=>Wp (fB M fuel (.whl t b) Z S) (oQ K Q)
 | .loop tg it b,Z,S,K,Q=>Wp (fB M fuel (.loop tg it b) Z S) (oQ K Q)
def zE:Ss->Fm->aa->QO->Prop
 | .nil,Z,S,Q=>Q (.nx Z,S)
 | .cons s ss,Z,S,Q=>wS s Z S (λZ' S'=>zE ss Z' S' Q) Q
end
end
abbrev EM:Es->GJ
 | .nil=>0
 | .cons _ es=>EM es+1
mutual
def dq:E->Hi
 | .c _|.v _|.comp _ _ _ _ _|.dnew=>true
 | .op _ a b|.cmp _ a b|.and a b|.or a b|.ix a b=>dq a&&dq b
 | .chn _ _ a b c|.ite a b c=>dq a&&dq b&&dq c
 | .neg a|.not a|.isi _ a=>dq a
 | .own _ n es=>EM es==n&&lU es
 | .bi _ es|.disp es=>lU es
 | .me _ o es=>dq o&&lU es
 | .sl a lo hi=>dq a&&FN lo&&FN hi
 | .tup es|.lst es=>decide (EM es<=1000)&&lU es
def lU:Es->Hi
 | .nil=>true
 | .cons e es=>dq e&&lU es
def FN:Ep->Hi
 | .no=>true
 | .yes e=>dq e
end
mutual
def Gc:Sm->Hi
 | .set _ e|.asg _ e|.ex e|.ret e=>dq e
 | .put o k e=>dq o&&dq k&&dq e
 | .par _ _ es=>lU es
 | .ite t a b=>dq t&&fM a&&fM b
 | _=>true
def fM:Ss->Hi
 | .nil=>true
 | .cons s ss=>Gc s&&fM ss
end
section
variable{M:Hc->FF}{fuel:GJ}
def ii:∀ {es:Es} {Z:Fm} {S S':aa} {ws:Gy W},cR M es Z S=gV (ws,S')->ws.length=EM es
 | .nil,Z,S,S',ws,h=>by dsimp only[cR]at h; cases h; rfl
 | .cons e es,Z,S,S',ws,h=>by
  dsimp only[cR]at h;unfold dw at h;split at h
  ·split at h
   ·rename_i h2; cases h; rw[HJ,ii h2]; rfl
   ·cases h
  ·cases h
def wo {n:GJ}(h:decide (n<=1000)=true):n<=sizeLine:=HB (HS h) (by rw[HR]; decide)
def bW {a b:Hi}(h:(a&&b)=true):a=true:=by cases a <;> first|rfl|cases h
def cV {a b:Hi}(h:(a&&b)=true):b=true:=by cases a <;> first|exact h|cases h
mutual
theorem aO:∀(e:E) {Z:Fm} {S:aa} {Q:QW},dq e=true->wE M e Z S Q->Wp (aC M e Z S) Q
 | .c w,Z,S,Q,k,h=>Gq.mpr h
 | .v i,Z,S,Q,k,h=>Gb.mpr (wn h)
 | .op o a b,Z,S,Q,k,h=>FB.mpr ((aO a (bW k) h).mono λp hp=>(aO b (cV k) hp).mono λq hq=>bJ hq)
 | .cmp o a b,Z,S,Q,k,h=>An.mpr ((aO a (bW k) h).mono λp hp=>(aO b (cV k) hp).mono λq hq=>bJ hq)
 | .and a b,Z,S,Q,k,h=>DO.mpr ((aO a (bW k) h).mono λp hp=>let ⟨c,e,h1,h2⟩:=oP hp; #[c,e,λz=>aO b (cV k) (h1 z),h2])
 | .or a b,Z,S,Q,k,h=>FD.mpr ((aO a (bW k) h).mono λp hp=>let ⟨c,e,h1,h2⟩:=oP hp; #[c,e,h1,λz=>aO b (cV k) (h2 z)])
 | .not a,Z,S,Q,k,h=>DP.mpr ((aO a k h).mono λp hp=>oP hp)
 | .own f n es,Z,S,Q,k,h=>Ao.mpr (by
   obtain⟨⟨ws,S1⟩,e,hq⟩:=gH es (cV k) h;have hl:ws.length=n:=(ii e).trans (eq_of_beq (bW k));simp only[aP,Hf hl]at hq;exact#[_,e,hl,bJ hq])
 | .bi b es,Z,S,Q,k,h=>DR.mpr ((gH es k h).mono λp hp=>bJ hp)
 | .me m o es,Z,S,Q,k,h=>FH.mpr ((aO o (bW k) h).mono λp hp=>#[hp.1,(gH es (cV k) hp.2).mono λq hq=>bJ hq])
 | .ix a b,Z,S,Q,k,h=>FC.mpr ((aO a (bW k) h).mono λp hp=>(aO b (cV k) hp).mono λq hq=>bJ hq)
 | .sl a lo hi,Z,S,Q,k,h=>FJ.mpr ((aO a (bW (bW k)) h).mono λp hp=>(Av lo (cV (bW k)) hp).mono λq hq=>(Av hi (cV k) hq).mono λr hr=>bJ hr)
 | .tup es,Z,S,Q,k,h=>DT.mpr (by
   obtain⟨⟨ws,S1⟩,e,hq⟩:=gH es (cV k) h;exact#[_,e,by rw[ii e]; exact wo (bW k),hq])
 | .lst es,Z,S,Q,k,h=>DU.mpr (by
   obtain⟨⟨ws,S1⟩,e,hq⟩:=gH es (cV k) h;exact#[_,e,by rw[ii e]; exact wo (bW k),hq])
 | .isi c a,Z,S,Q,k,h=>Ap.mpr ((aO a k h).mono λp hp=>bJ hp)
 | .neg a,Z,S,Q,k,h=>DV.mpr ((aO a k h).mono λp hp=>Au hp)
 | .dnew,Z,S,Q,k,h=>#[_,rfl,h]
 | .disp es,Z,S,Q,k,h=>B4.mpr ((gH es k h).mono λp hp=>#[hp.1,let ⟨U,e,q⟩:=bJ hp.2; #[U,e,q]])
 | .chn o o' a b d,Z,S,Q,k,h=>Aq ((aO a (bW (bW k)) h).mono λp hp=>(aO b (cV (bW k)) hp).mono λq hq=>let ⟨c,e,h1,h2⟩:=bJ hq; #[c,e,λz=>(aO d (cV k) (h1 z)).mono λr hr=>bJ hr,h2])
 | .ite t a b,Z,S,Q,k,h=>DQ.mpr ((ij t (bW (bW k)) h).mono λp hp=>#[λz=>aO a (cV (bW k)) (hp.1 z),λz=>aO b (cV k) (hp.2 z)])
 | .comp elt tg it cs cap,Z,S,Q,k,h=>h
theorem gH:∀(es:Es) {Z:Fm} {S:aa} {Q:Gy W×aa->Prop},lU es=true->wA M es Z S Q->Wp (cR M es Z S) Q
 | .nil,Z,S,Q,k,h=>DW.mpr h
 | .cons e es,Z,S,Q,k,h=>B5.mpr ((aO e (bW k) h).mono λp hp=>gH es (cV k) hp)
theorem Av:∀(e:Ep) {Z:Fm} {S:aa} {Q:GH G1×aa->Prop},FN e=true->wP M e Z S Q->Wp (rO M e Z S) Q
 | .no,Z,S,Q,k,h=>FK.mpr h
 | .yes a,Z,S,Q,k,h=>DS.mpr ((aO a k h).mono λp hp=>Au hp)
theorem ij:∀(e:E) {Z:Fm} {S:aa} {Q:QB},dq e=true->wT M e Z S Q->Wp (cK M e Z S) Q
 | .cmp o a b,Z,S,Q,k,h=>DX.mpr (An.mpr ((aO a (bW k) h).mono λp hp=>(aO b (cV k) hp).mono λq hq=>(bJ hq).mono λr hr=>oP hr))
 | .and a b,Z,S,Q,k,h=>DZ.mpr ((ij a (bW k) h).mono λp hp=>#[λz=>ij b (cV k) (hp.1 z),hp.2])
 | .or a b,Z,S,Q,k,h=>FL.mpr ((ij a (bW k) h).mono λp hp=>#[hp.1,λz=>ij b (cV k) (hp.2 z)])
 | .not a,Z,S,Q,k,h=>D0.mpr (ij a k h)
 | .isi c a,Z,S,Q,k,h=>D2.mpr (Ap.mpr ((aO a k h).mono λp hp=>let ⟨b,e,q⟩:=bJ hp; #[b,e,b,rfl,q]))
 | .v i,Z,S,Q,k,h=>Gr.mpr (Gb.mpr (let ⟨w,e,q⟩:=wn h; #[w,e,bJ q]))
 | .own f n es,Z,S,Q,k,h=>D1.mpr (Ao.mpr (by
   obtain⟨⟨ws,S1⟩,e,hq⟩:=gH es (cV k) h;have hl:ws.length=n:=(ii e).trans (eq_of_beq (bW k));simp only[aP,Hf hl]at hq;exact#[_,e,hl,(bJ hq).mono λq hq=>bJ hq]))
 | .c w,Z,S,Q,k,h=>h
 | .op o a b,Z,S,Q,k,h=>h
 | .bi b es,Z,S,Q,k,h=>FM.mpr (DR.mpr ((gH es k h).mono λp hp=>(bJ hp).mono λq hq=>bJ hq))
 | .me m o es,Z,S,Q,k,h=>h
 | .ix a b,Z,S,Q,k,h=>h
 | .sl a lo hi,Z,S,Q,k,h=>h
 | .tup es,Z,S,Q,k,h=>h
 | .lst es,Z,S,Q,k,h=>h
 | .neg a,Z,S,Q,k,h=>h
 | .dnew,Z,S,Q,k,h=>h
 | .disp es,Z,S,Q,k,h=>h
 | .chn o o' a b d,Z,S,Q,k,h=>DY.mpr (Aq ((aO a (bW (bW k)) h).mono λp hp=>(aO b (cV (bW k)) hp).mono λq hq=>let ⟨c,e,h1,h2⟩:=bJ hq; #[c,e,λz=>(aO d (cV k) (h1 z)).mono λr hr=>(bJ hr).mono λs hs=>oP hs,λz=>#[false,rfl,h2 z]]))
 | .ite t a b,Z,S,Q,k,h=>h
 | .comp elt tg it cs cap,Z,S,Q,k,h=>h
end
mutual
theorem Ee:∀(s:Sm) {Z:Fm} {S:aa} {K:Fm->aa->Prop} {Q:QO},Gc s=true->wS M fuel s Z S K Q->Wp (fB M fuel s Z S) (oQ K Q)
 | .set i e,Z,S,K,Q,k,h=>B7.mpr (aO e k h)
 | .asg is e,Z,S,K,Q,k,h=>B8.mpr ((aO e k h).mono λp hp=>let ⟨ws,e1,h1⟩:=Ec hp; let ⟨Z',e2,h2⟩:=bJ h1; #[ws,Z',e1,e2,h2])
 | .par i j es,Z,S,K,Q,k,h=>B9.mpr ((gH es k h).mono λp hp=>Ed hp)
 | .put o i e,Z,S,K,Q,k,h=>Cb.mpr ((aO e (cV k) h).mono λp hp=>(aO o (bW (bW k)) hp).mono λq hq=>(aO i (cV (bW k)) hq).mono λr hr=>bJ hr)
 | .ex e,Z,S,K,Q,k,h=>D4.mpr (aO e k h)
 | .ret e,Z,S,K,Q,k,h=>Cc.mpr (aO e k h)
 | .pass,Z,S,K,Q,k,h=>#[_,rfl,h]
 | .ite t a b,Z,S,K,Q,k,h=>Cd.mpr ((ij t (bW (bW k)) h).mono λp hp=>by
   obtain⟨h1,h2⟩:=hp (oQ K Q) (λZ' S' z=>z) (λo S' hn z=>by cases o <;> first|exact z|exact absurd rfl (hn _))
   exact#[λz=>iU a (cV (bW k)) (h1 z),λz=>iU b (cV k) (h2 z)])
 | .whl t b,Z,S,K,Q,k,h=>h
 | .loop tg it b,Z,S,K,Q,k,h=>h
theorem iU:∀(ss:Ss) {Z:Fm} {S:aa} {Q:QO},fM ss=true->zE M fuel ss Z S Q->Wp (fK M fuel ss Z S) Q
 | .nil,Z,S,Q,k,h=>D3.mpr h
 | .cons s ss,Z,S,Q,k,h=>B6.mpr ((Ee s (bW k) h).mono λp hp=>by
   obtain⟨o,S1⟩:=p;cases o with
   | nx Z'=>exact#[λZ2 e=>by cases e; exact iU ss (cV k) hp,λz=>absurd rfl (z Z')]
   | _=>exact#[λZ2 e=>(by cases e),λ_=>hp])
end
structure wZ (M:Hc->FF)(fuel:GJ)(ss:Ss)(Z:Fm)(S:aa)(Q:QO):Prop where
 out:zE M fuel ss Z S Q
def Ef {ss:Ss}{Z:Fm}{S:aa}{Q:QO}:zE M fuel ss Z S Q=wZ M fuel ss Z S Q:=propext #[λh=>#[h],λh=>h.out]
def Ch {defs:Gy (Hc×Df)}{d:GJ}{f:Hc}{n:GJ}{ws:Gy W}{df:Df}{S:aa}{Q:QW}(h:defs.lookup f=gV df)(hn:ws.length=n)(hl:ws.length=df.ps.length)(ok:fM df.body=true)
  (hb:∀Q':QO,(∀w S',Q (w,S')->Q' (.rt w,S'))->wZ (au defs fuel d) fuel df.body (eW df.N ws) S Q'):wO (aP (au defs fuel (d+1)) f n ws S) Q:=by
 unfold aP;rw[Hf hn];exact Eb (tP h hl ((iU _ ok (hb (λp=>match p.1 with|.rt w=>Q (w,p.2)|_=>Ip) λw S' q=>q).out).mono λp hp=>by
  obtain⟨o,S1⟩:=p;cases o <;> first|exact hp|exact hp.elim))
end
section
variable{M:Hc->FF}{fuel:GJ}{Z:Fm}{S:aa}{K:Fm->aa->Prop}{Q:QO}
abbrev tQ (M:Hc->FF)(fuel:GJ)(b:Ss)(Z:Fm)(S:aa)(I:Fm->aa->Prop)(Q:QO):Prop:=∀Q':QO,(∀Z' S',I Z' S'->Q' (.nx Z',S'))->(∀w S',Q (.rt w,S')->Q' (.rt w,S'))->wZ M fuel b Z S Q'
def fN {tg:Tg}{it:Ie}{b:Ss}{mi:MI}{S1:aa}{xs:Gy W}(I:GJ->Fm->aa->Prop)(ok:fM b=true)(hi:iP M it Z S=gV (mi,S1))(hat:∀i Z S,I i Z S->mi.at S i=gV xs[i]?)(hl:mi.len S1=gV xs.length)(h0:I 0 Z S1)
  (hstep:∀(i:GJ) (w:W) (Z:Fm) (S:aa),xs[i]?=gV w->I i Z S->wO (fX tg w Z S) λq=>tQ M fuel b q.1 q.2 (I (i+1)) Q) (hend:∀Z S,I xs.length Z S->K Z S):Wp (fB M fuel (.loop tg it b) Z S) (oQ K Q):=by
 rw[fB,D5];show#[_,hi,xs.length,hl,?_];show iT (Q:=oQ K Q) I hat (λi w Z S h1 h2=>?_) (λZ S h=>hend Z S h) _ 0 Z S1 ∅ h0
 exact(bJ (hstep i w Z S h1 h2)).mono λq hq=>iU b ok (wZ.out (hq _ (λ_ _ h=>h) λ_ _ h=>h))
def bE {e:E}{Q:QW}(ok:dq e=true)(h:wE M e Z S Q):∃w S',aC M e Z S=gV (w,S')/\Q (w,S'):=let ⟨⟨w,S'⟩,a,b⟩:=aO e ok h; #[w,S',a,b]
def cu {i0:GJ}{e:E}{b:Ss}(j:G1)(I:GJ->Fm->aa->Prop)(oe:dq e=true)(ok:fM b=true)(hj : -(2 ^ 62)<=j/\j < 2 ^ 62)(he:wE M e Z S λp=>p.1=.int j/\I 0 Z p.2)
  (hstep:∀(i:GJ) (Z:Fm) (S:aa),(i:G1) < j->I i Z S->tQ M fuel b (Z.set i0 (gV (.int i))) S (I (i+1)) Q) (hend:∀Z S,I j.toNat Z S->K Z S):Wp (fB M fuel (.loop (.nm i0) (.rng #v[e]) b) Z S) (oQ K Q):=by
 obtain⟨w,S1,e1,rfl,h0⟩:=bE oe he;have hl:(cQ 0 j.toNat).length=j.toNat:=by simp[cQ]
 show fN (mi:=.its (cQ 0 j.toNat)) (S1:=S1) (xs:=cQ 0 j.toNat) I ok ?_ (λ_ _ _ _=>rfl) rfl h0 (λi w Z S hw hI=>?_) λZ S hI=>hend Z S (hl ▸ hI)
 ·simp only[iP,cR,dw,ib,qg,e1];rw[Hf hj]
 ·rw[dU]at hw;split at hw
  ·rename_i hk;cases hw;rw[KN];exact hstep i Z S ∅ hI
  ·cases hw
def for_tup {tg:Tg}{e:E}{b:Ss}(xs:Gy W)(I:GJ->Fm->aa->Prop)(oe:dq e=true)(ok:fM b=true)(he:wE M e Z S λp=>p.1=.tup xs/\I 0 Z p.2)
  (hstep:∀(i:GJ) (w:W) (Z:Fm) (S:aa),xs[i]?=gV w->I i Z S->wO (fX tg w Z S) λq=>tQ M fuel b q.1 q.2 (I (i+1)) Q) (hend:∀Z S,I xs.length Z S->K Z S):Wp (fB M fuel (.loop tg (.seq e) b) Z S) (oQ K Q):=by
 obtain⟨w,S1,e1,rfl,h0⟩:=bE oe he;exact fN (mi:=.its xs) (S1:=S1) I ok (by simp only[iP,eu,e1]) (λ_ _ _ _=>rfl) rfl h0 hstep hend
def r6 {tg:Tg}{e:E}{b:Ss}(t:GJ)(xs:Gy W)(I:GJ->Fm->aa->Prop)(oe:dq e=true)(ok:fM b=true)(he:wE M e Z S λp=>p.1=.ref t/\I 0 Z p.2)(hat:∀i Z S,I i Z S->S[t]?=gV (.lst xs))
  (hstep:∀(i:GJ) (w:W) (Z:Fm) (S:aa),xs[i]?=gV w->I i Z S->wO (fX tg w Z S) λq=>tQ M fuel b q.1 q.2 (I (i+1)) Q) (hend:∀Z S,I xs.length Z S->K Z S):Wp (fB M fuel (.loop tg (.seq e) b) Z S) (oQ K Q):=by
 obtain⟨w,S1,e1,rfl,h0⟩:=bE oe he;exact fN (mi:=.live t) (S1:=S1) I ok (by simp only[iP,eu,e1,aD (hat _ _ _ h0)]) (λi Z S h=>by simp only[MI.at,aD (hat _ _ _ h)]) (by simp only[MI.len,aD (hat _ _ _ h0),Hv]) h0 hstep hend
def Aw {t:E}{b:Ss}(I:GJ->Fm->aa->Prop)(m:GJ)(ot:dq t=true)(ok:fM b=true)(hm:m < fuel)(h0:I m Z S)
  (hstep:∀m Z S,I m Z S->wT M t Z S λk=>(k.1=true->∃m',m=m'+1/\tQ M fuel b Z k.2 (I m') Q)/\(k.1=false->K Z k.2)):Wp (fB M fuel (.whl t b) Z S) (oQ K Q):=by
 rw[fB];show kz (Q:=oQ K Q) I (λm Z S hI=>(ij t ot (hstep m Z S hI)).mono λk hk=>#[λz=>?_,λz=>hk.2 z]) fuel m Z S hm h0
 obtain⟨m',e,h⟩:=hk.1 z;exact#[m',e,iU b ok (wZ.out (h _ (λ_ _ h=>h) λ_ _ h=>h))]
abbrev wC (M:Hc->FF):Es->Fm->aa->QB->Prop
 | .nil,_,S,Q=>Q (true,S)
 | .cons e .nil,Z,S,Q=>wT M e Z S Q
 | .cons _ (.cons _ _),_,_,_=>Ip
def Ax {cs:Es}{Q:QB}(ok:lU cs=true)(h:wC M cs Z S Q):Wp (zv M cs Z S) Q:=by
 match cs,h,ok with
 | .nil,h,_=>exact D6.mpr h
 | .cons e .nil,h,ok=>exact D7.mpr (ij e (bW ok) h)
abbrev fu (M:Hc->FF)(elt:E)(cs:Es)(Z:Fm)(S:aa)(G:W->Fm->aa->Prop)(N:Fm->aa->Prop):Prop:=wC M cs Z S λk=>(k.1=true->wE M elt Z k.2 λy=>G y.1 Z y.2)/\(k.1=false->N Z k.2)
def kC {elt:E}{tg:Tg}{it:Ie}{cs:Es}{cap:Gy (GH GJ)}{mi:MI}{S1:aa}{xs:Gy W}{Q:QW}(I:GJ->Gy W->Fm->aa->Prop)(oe:dq elt=true)(oc:lU cs=true)(hi:iP M it Z S=gV (mi,S1))(hat:∀i ys Z S,I i ys Z S->mi.at S i=gV xs[i]?)(hl:mi.len S1=gV xs.length)(h0:I 0 [] (d7 cap Z) S1)
  (hstep:∀(i:GJ) (w:W) (ys:Gy W) (Z:Fm) (S:aa),xs[i]?=gV w->I i ys Z S->wO (fX tg w Z S) λq=>fu M elt cs q.1 q.2 (λy=>I (i+1) (ys++[y])) (I (i+1) ys))
  (hend:∀ys Z S,I xs.length ys Z S->ys.length<=sizeLine/\Q (.ref S.length,S++[.lst ys])):Wp (aC M (.comp elt tg it cs cap) Z S) Q:=by
 rw[wj];show#[_,hi,xs.length,hl,?_];show(dA (xs:=xs) (Q:=λq=>q.1.length<=sizeLine/\Q (.ref q.2.length,q.2++[.lst q.1])) I hat (λi w ys Z S h1 h2=>?_) hend xs.length 0 [] _ S1 ∅ h0).mono λq hq=>by simpa using hq
 exact(bJ (hstep i w ys Z S h1 h2)).mono λq hq=>(Ax oc hq).mono λk hk=>#[λz=>aO elt oe (hk.1 z),hk.2]
def ey {elt e:E}{i0:GJ}{cs:Es}{cap:Gy (GH GJ)}{Q:QW}(j:G1)(I:GJ->Gy W->Fm->aa->Prop)(oi:dq e=true)(oe:dq elt=true)(oc:lU cs=true)(hj : -(2 ^ 62)<=j/\j < 2 ^ 62)(he:wE M e Z S λp=>p.1=.int j/\I 0 [] (d7 cap Z) p.2)
  (hstep:∀(i:GJ) (ys:Gy W) (Z:Fm) (S:aa),(i:G1) < j->I i ys Z S->fu M elt cs (Z.set i0 (gV (.int i))) S (λy=>I (i+1) (ys++[y])) (I (i+1) ys))
  (hend:∀ys Z S,I j.toNat ys Z S->ys.length<=sizeLine/\Q (.ref S.length,S++[.lst ys])):Wp (aC M (.comp elt (.nm i0) (.rng #v[e]) cs cap) Z S) Q:=by
 obtain⟨w,S1,e1,rfl,h0⟩:=bE oi he;have hl:(cQ 0 j.toNat).length=j.toNat:=by simp[cQ]
 show kC (mi:=.its (cQ 0 j.toNat)) (S1:=S1) (xs:=cQ 0 j.toNat) I oe oc ?_ (λ_ _ _ _ _=>rfl) rfl h0 (λi w ys Z S hw hI=>?_) λys Z S hI=>hend ys Z S (hl ▸ hI)
 ·simp only[iP,cR,dw,ib,qg,e1];rw[Hf hj]
 ·rw[dU]at hw;split at hw
  ·rename_i hk;cases hw;rw[KN];exact hstep i ys Z S ∅ hI
  ·cases hw
def r8 {elt e:E}{tg:Tg}{cs:Es}{cap:Gy (GH GJ)}{Q:QW}(xs:Gy W)(I:GJ->Gy W->Fm->aa->Prop)(oi:dq e=true)(oe:dq elt=true)(oc:lU cs=true)(he:wE M e Z S λp=>p.1=.tup xs/\I 0 [] (d7 cap Z) p.2)
  (hstep:∀(i:GJ) (w:W) (ys:Gy W) (Z:Fm) (S:aa),xs[i]?=gV w->I i ys Z S->wO (fX tg w Z S) λq=>fu M elt cs q.1 q.2 (λy=>I (i+1) (ys++[y])) (I (i+1) ys))
  (hend:∀ys Z S,I xs.length ys Z S->ys.length<=sizeLine/\Q (.ref S.length,S++[.lst ys])):Wp (aC M (.comp elt tg (.seq e) cs cap) Z S) Q:=by
 obtain⟨w,S1,e1,rfl,h0⟩:=bE oi he;exact kC (mi:=.its xs) (S1:=S1) I oe oc (by simp only[iP,eu,e1]) (λ_ _ _ _ _=>rfl) rfl h0 hstep hend
def r9 {elt e:E}{tg:Tg}{cs:Es}{cap:Gy (GH GJ)}{Q:QW}(t:GJ)(xs:Gy W)(I:GJ->Gy W->Fm->aa->Prop)(oi:dq e=true)(oe:dq elt=true)(oc:lU cs=true)(he:wE M e Z S λp=>p.1=.ref t/\I 0 [] (d7 cap Z) p.2)(hat:∀i ys Z S,I i ys Z S->S[t]?=gV (.lst xs))
  (hstep:∀(i:GJ) (w:W) (ys:Gy W) (Z:Fm) (S:aa),xs[i]?=gV w->I i ys Z S->wO (fX tg w Z S) λq=>fu M elt cs q.1 q.2 (λy=>I (i+1) (ys++[y])) (I (i+1) ys))
  (hend:∀ys Z S,I xs.length ys Z S->ys.length<=sizeLine/\Q (.ref S.length,S++[.lst ys])):Wp (aC M (.comp elt tg (.seq e) cs cap) Z S) Q:=by
 obtain⟨w,S1,e1,rfl,h0⟩:=bE oi he;exact kC (mi:=.live t) (S1:=S1) I oe oc (by simp only[iP,eu,e1,aD (hat _ _ _ _ h0)]) (λi ys Z S h=>by simp only[MI.at,aD (hat _ _ _ _ h)]) (by simp only[MI.len,aD (hat _ _ _ _ h0),Hv]) h0 hstep hend
def zF {elt a:E}{tg:Tg}{cs:Es}{cap:Gy (GH GJ)}{Q:QW}(xs:Gy W)(I:GJ->Gy W->Fm->aa->Prop)(oa:dq a=true)(oe:dq elt=true)(oc:lU cs=true)(he:wE M a Z S λp=>EK p.1=gV xs/\I 0 [] (d7 cap Z) p.2)
  (hstep:∀(i:GJ) (x:W) (ys:Gy W) (Z:Fm) (S:aa),xs[i]?=gV x->I i ys Z S->wO (fX tg (.tup [.int i,x]) Z S) λq=>fu M elt cs q.1 q.2 (λy=>I (i+1) (ys++[y])) (I (i+1) ys))
  (hend:∀ys Z S,I xs.length ys Z S->ys.length<=sizeLine/\Q (.ref S.length,S++[.lst ys])):Wp (aC M (.comp elt tg (.enu #v[a]) cs cap) Z S) Q:=by
 obtain⟨x,S1,e1,h1,h0⟩:=bE oa he;have hl:(iO xs).length=xs.length:=by simp[iO]
 show kC (mi:=.its (iO xs)) (S1:=S1) (xs:=iO xs) I oe oc (by simp only[iP,cR,dw,ib,vS,e1,h1]) (λ_ _ _ _ _=>rfl) rfl h0 (λi w ys Z S hw hI=>?_) λys Z S hI=>hend ys Z S (hl ▸ hI)
 obtain⟨y,hy,rfl⟩:=ki hw;exact hstep i y ys Z S hy hI
def st {s:Sm}{ss:Ss}(h:wS M fuel s Z S (λZ' S'=>wZ M fuel ss Z' S' Q) Q):wZ M fuel (.cons s ss) Z S Q:=#[by
 dsimp only[zE];simp only[Ef];exact h]
def bg (h:Q (.nx Z,S)):wZ M fuel .nil Z S Q:=#[h]
def ap {t:Hi}{a b:Ss}{Q Q0:QO}{K:Fm->aa->Prop}(ha:t=true->∀Q':QO,(∀Z' S',K Z' S'->Q' (.nx Z',S'))->(∀w S',Q (.rt w,S')->Q' (.rt w,S'))->wZ M fuel a Z S Q')(hb:t=false->∀Q':QO,(∀Z' S',K Z' S'->Q' (.nx Z',S'))->(∀w S',Q (.rt w,S')->Q' (.rt w,S'))->wZ M fuel b Z S Q') :
  ∀Q':QO,(∀Z' S',K Z' S'->Q' (.nx Z',S'))->(∀o S',(∀Z',o≠.nx Z')->Q (o,S')->Q' (o,S'))->(t=true->zE M fuel a Z S Q')/\(t=false->zE M fuel b Z S Q'):=
 λQ' h1 h2=>#[λe=>(ha e Q' h1 λw S'=>h2 (.rt w) S' (λ_ z=>nomatch z)).out,λe=>(hb e Q' h1 λw S'=>h2 (.rt w) S' (λ_ z=>nomatch z)).out]
end
abbrev dZ:Ss:=
 #v[.ret (.lst #v[.bi .list #v[.v 0],.c (.int 0),.c (.int 0),.c (.int 1),.c (.int 0)])]
abbrev cz:Ss:=
 #v[.ite (.and (.cmp .eq (.ix (.v 0) (.c (.int 2))) (.c (.int 0))) (.cmp .lt (.ix (.v 0) (.c (.int 1))) (.bi .len #v[.ix (.v 0) (.c (.int 0))]))) #v[.set 2 (.ix (.ix (.v 0) (.c (.int 0))) (.ix (.v 0) (.c (.int 1)))),.put (.v 0) (.c (.int 1)) (.op .add (.ix (.v 0) (.c (.int 1))) (.c (.int 1))),.ite (.cmp .ge (.v 2) (.op .pow (.c (.int 10)) (.c (.int 18)))) #v[.put (.v 0) (.c (.int 2)) (.v 2)] #v[.put (.v 0) (.c (.int 3)) (.op .mod (.op .add (.op .add (.op .mul (.ix (.v 0) (.c (.int 3))) (.c (.int 40013))) (.op .mod (.v 2) (.c (.int 1000003)))) (.c (.int 1))) (.c (.int 2147483647)))]] .nil,.ite (.cmp .gt (.ix (.v 0) (.c (.int 2))) (.c (.int 0))) #v[.set 3 (.op .mod (.ix (.v 0) (.c (.int 2))) (.v 1)),.put (.v 0) (.c (.int 2)) (.op .fdiv (.ix (.v 0) (.c (.int 2))) (.v 1)),.ret (.v 3)] .nil,.put (.v 0) (.c (.int 4)) (.op .add (.ix (.v 0) (.c (.int 4))) (.c (.int 1))),.put (.v 0) (.c (.int 3)) (.op .mod (.op .add (.op .add (.op .mul (.ix (.v 0) (.c (.int 3))) (.c (.int 48271))) (.c (.int 12820163))) (.ix (.v 0) (.c (.int 4)))) (.c (.int 2147483647))),.ret (.op .mod (.op .fdiv (.op .mod (.op .mul (.op .add (.op .mod (.ix (.v 0) (.c (.int 3))) (.c (.int 65521))) (.c (.int 1))) (.op .add (.op .fdiv (.ix (.v 0) (.c (.int 3))) (.c (.int 65521))) (.c (.int 7919)))) (.c (.int 1000003))) (.c (.int 7))) (.v 1))]
abbrev da:Ss:=
 #v[.ite (.cmp .lt (.v 3) (.v 2)) #v[.ret (.ix (.ix (.ix (.v 1) (.v 2)) (.c (.int 1))) (.v 3))] .nil,.ret (.ix (.ix (.ix (.v 0) (.c (.int 1))) (.ix (.ix (.ix (.v 1) (.v 3)) (.c (.int 1))) (.v 2))) (.c (.int 1)))]
abbrev cW:Ss:=
 #v[.set 3 (.lst .nil),.loop (.nm 4) (.rng #v[.bi .len #v[.v 2]]) #v[.set 5 (.ix (.v 2) (.v 4)),.ex (.me .append (.v 3) #v[.tup #v[.ix (.ix (.v 1) (.v 5)) (.c (.int 0)),.bi .tuple #v[.comp (.own "_law_between" 4 #v[.v 3,.v 4,.v 2,.v 1]) (.nm 1) (.seq (.sl (.v 2) .no (.yes (.v 4)))) .nil [td,td,gV 5,gV 0,gV 1]]]])],.ret (.bi .tuple #v[.v 3])]
abbrev fO:Ss:=
 #v[.ret (.lst #v[.tup #v[.c (.int 0),.c (.int 1),.c (.int 2)],.tup #v[.c (.int 0),.c (.int 2),.c (.int 1)],.tup #v[.c (.int 1),.c (.int 0),.c (.int 2)],.tup #v[.c (.int 1),.c (.int 2),.c (.int 0)],.tup #v[.c (.int 2),.c (.int 0),.c (.int 1)],.tup #v[.c (.int 2),.c (.int 1),.c (.int 0)]])]
abbrev dB:Ss:=
 #v[.ret (.bi .min #v[.comp (.own "_law_part" 3 #v[.v 2,.v 3,.v 1]) (.nm 1) (.seq (.own "_law_turns" 0 .nil)) .nil [td,td,gV 0,gV 1]])]
abbrev eA:Ss:=
 #v[.set 2 (.ix (.lst #v[.lst #v[.tup #v[.c (.int 0)]],.lst #v[.tup #v[.c (.int 0),.c (.int 1)],.tup #v[.c (.int 1),.c (.int 0)]],.lst #v[.tup #v[.c (.int 0),.c (.int 1),.c (.int 2)],.tup #v[.c (.int 1),.c (.int 0),.c (.int 2)],.tup #v[.c (.int 0),.c (.int 2),.c (.int 1)]]]) (.op .sub (.v 1) (.c (.int 1)))),.ret (.ix (.v 2) (.own "_law_pick" 2 #v[.v 0,.bi .len #v[.v 2]]))]
abbrev db:Ss:=
 #v[.set 4 (.own "_law_names" 2 #v[.v 0,.op .add (.v 1) (.bi .len #v[.v 2])]),.set 5 (.bi .tuple #v[.comp (.tup #v[.ix (.v 4) (.op .add (.v 3) (.v 1)),.ix (.v 2) (.v 1)]) (.nm 1) (.rng #v[.bi .len #v[.v 2]]) .nil [td,td,gV 2,gV 1,gV 4]]),.ret (.tup #v[.sl (.v 4) .no (.yes (.v 1)),.v 5,.bi .tuple #v[.bi .sorted #v[.v 3]]])]
abbrev bX:Ss:=
 #v[.set 3 (.lst .nil),.loop (.nm 4) (.rng #v[.c (.int 3)]) #v[.ex (.me .append (.v 3) #v[.tup #v[.own "_law_pick" 2 #v[.v 0,.v 1],.bi .tuple #v[.comp (.own "_law_pick" 2 #v[.v 2,.v 3]) (.nm 1) (.rng #v[.v 4]) .nil [td,td,gV 0,gV 2]]]])],.ret (.bi .tuple #v[.v 3])]
abbrev eB:Ss:=
 #v[.set 1 (.lst #v[.tup #v[.c (.int 1),.c (.int 1)],.tup #v[.c (.int 2),.c (.int 1)],.tup #v[.c (.int 3),.c (.int 1)],.tup #v[.c (.int 1),.c (.int 2)],.tup #v[.c (.int 1),.c (.int 2)],.tup #v[.c (.int 2),.c (.int 2)],.tup #v[.c (.int 2),.c (.int 2)],.tup #v[.c (.int 3),.c (.int 2)],.tup #v[.c (.int 1),.c (.int 3)],.tup #v[.c (.int 1),.c (.int 3)],.tup #v[.c (.int 2),.c (.int 3)]]),.ret (.ix (.v 1) (.own "_law_pick" 2 #v[.v 0,.c (.int 11)]))]
abbrev cL:Ss:=
 #v[.asg [1,2] (.own "_law_sizes" 1 #v[.v 0]),.set 3 (.own "_law_rule_of" 4 #v[.v 0,.v 1,.own "_law_backs" 2 #v[.v 0,.v 2],.tup .nil]),.set 4 .dnew,.loop (.nm 5) (.rng #v[.own "_law_pick" 2 #v[.v 0,.c (.int 9)]]) #v[.put (.v 4) (.own "_law_figure" 2 #v[.v 3,.own "_law_free_three" 3 #v[.v 0,.v 1,.v 2]]) (.c (.bl true))],.ret (.tup #v[.ix (.v 3) (.c (.int 0)),.ix (.v 3) (.c (.int 1)),.bi .tuple #v[.bi .sorted #v[.v 4]]])]
abbrev bQ:Ss:=
 #v[.set 1 (.lst #v[.tup #v[.tup #v[.c (.int 1),.c (.int 0)],.disp #v[.tup #v[.c (.int 0),.c (.int 0)],.lst #v[.c (.int 0)]],.c (.int 3)],.tup #v[.tup #v[.c (.int 0),.c (.int 2),.c (.int 1)],.disp #v[.tup #v[.c (.int 1),.c (.int 1)],.lst #v[.c (.int 1)]],.c (.int 2)],.tup #v[.tup #v[.c (.int 0),.c (.int 1)],.disp #v[.tup #v[.c (.int 1),.c (.int 1)],.lst #v[.c (.int 1)]],.c (.int 3)]]),.ex (.me .append (.v 1) #v[.tup #v[.tup #v[.c (.int 0),.c (.int 1)],.disp #v[.tup #v[.c (.int 1),.c (.int 1)],.lst #v[.c (.int 1)],.tup #v[.c (.int 0),.c (.int 0)],.lst #v[.c (.int 1)]],.c (.int 3)]]),.ex (.me .append (.v 1) #v[.tup #v[.tup #v[.c (.int 0),.c (.int 1)],.disp #v[.tup #v[.c (.int 1),.c (.int 1)],.lst .nil],.c (.int 1)]]),.ex (.me .append (.v 1) #v[.tup #v[.tup #v[.c (.int 0),.c (.int 2),.c (.int 1)],.disp #v[.tup #v[.c (.int 0),.c (.int 0)],.lst #v[.c (.int 0)],.tup #v[.c (.int 0),.c (.int 1)],.lst #v[.c (.int 1)],.tup #v[.c (.int 1),.c (.int 0)],.lst #v[.c (.int 1)],.tup #v[.c (.int 1),.c (.int 1)],.lst #v[.c (.int 1)]],.c (.int 2)]]),.ex (.me .append (.v 1) #v[.tup #v[.tup #v[.c (.int 1),.c (.int 0)],.dnew,.c (.int 3)]]),.ex (.me .append (.v 1) #v[.tup #v[.tup #v[.c (.int 0),.c (.int 1),.c (.int 2)],.disp #v[.tup #v[.c (.int 2),.c (.int 2)],.lst #v[.c (.int 2)],.tup #v[.c (.int 1),.c (.int 2)],.lst #v[.c (.int 1)],.tup #v[.c (.int 2),.c (.int 1)],.lst #v[.c (.int 1)],.tup #v[.c (.int 1),.c (.int 1)],.lst #v[.c (.int 1),.c (.int 2)]],.c (.int 2)]]),.ex (.me .append (.v 1) #v[.tup #v[.tup #v[.c (.int 0),.c (.int 1),.c (.int 2)],.disp #v[.tup #v[.c (.int 0),.c (.int 0)],.lst #v[.c (.int 0),.c (.int 1)]],.c (.int 2)]]),.ret (.ix (.v 1) (.own "_law_pick" 2 #v[.v 0,.c (.int 9)]))]
abbrev dC:Ss:=
 #v[.set 5 (.disp #v[.tup #v[.c (.int 1),.c (.int 0)],.v 2,.tup #v[.c (.int 2),.c (.int 0)],.v 3,.tup #v[.c (.int 2),.c (.int 1)],.v 4]),.loop (.nm 6) (.seq (.bi .list #v[.v 5])) #v[.put (.v 5) (.tup #v[.ix (.v 6) (.c (.int 1)),.ix (.v 6) (.c (.int 0))]) (.ix (.v 0) (.ix (.v 5) (.v 6)))],.loop (.tp [7,8,9]) (.seq (.own "_law_turns" 0 .nil)) #v[.ite (.cmp .notin (.ix (.v 5) (.tup #v[.v 7,.v 9])) (.me .get (.v 1) #v[.tup #v[.ix (.v 5) (.tup #v[.v 7,.v 8]),.ix (.v 5) (.tup #v[.v 8,.v 9])],.lst #v[.ix (.v 5) (.tup #v[.v 7,.v 9])]])) #v[.ret (.c (.bl true))] .nil],.ret (.c (.bl false))]
abbrev bh:Ss:=
 #v[.set 3 (.bi .len #v[.v 1]),.set 4 (.lst #v[.lst #v[.tup #v[.c (.int 0)]],.lst #v[.tup #v[.c (.int 0),.c (.int 1)],.tup #v[.c (.int 1),.c (.int 0)]]]),.ex (.me .append (.v 4) #v[.lst #v[.tup #v[.c (.int 0),.c (.int 1),.c (.int 2)],.tup #v[.c (.int 0),.c (.int 2),.c (.int 1)],.tup #v[.c (.int 2),.c (.int 0),.c (.int 1)],.tup #v[.c (.int 2),.c (.int 1),.c (.int 0)]]]),.set 5 (.ix (.v 4) (.op .sub (.v 3) (.c (.int 1)))),.ite (.cmp .eq (.v 1) (.tup #v[.c (.int 0),.c (.int 1),.c (.int 2)])) #v[.set 5 (.own "_law_turns" 0 .nil)] .nil,.set 6 (.ix (.v 5) (.own "_law_pick" 2 #v[.v 0,.bi .len #v[.v 5]])),.set 7 (.op .mul (.lst #v[.c (.int 0)]) (.v 3)),.loop (.nm 8) (.rng #v[.v 3]) #v[.put (.v 7) (.ix (.v 6) (.v 8)) (.ix (.v 6) (.ix (.v 1) (.v 8)))],.set 9 .dnew,.loop (.tp [10,11]) (.seq (.v 2)) #v[.put (.v 9) (.tup #v[.ix (.v 6) (.v 10),.ix (.v 6) (.v 11)]) (.comp (.ix (.v 2) (.v 1)) (.nm 1) (.seq (.ix (.v 2) (.tup #v[.v 10,.v 11]))) .nil [td,td,gV 6])],.ret (.tup #v[.bi .tuple #v[.v 7],.v 9])]
abbrev bR:Ss:=
 #v[.set 1 (.own "_law_pick" 2 #v[.v 0,.c (.int 7)]),.ite (.cmp .eq (.v 1) (.c (.int 0))) #v[.ret (.own "_law_free_rule" 1 #v[.v 0])] .nil,.ite (.cmp .eq (.v 1) (.c (.int 1))) #v[.ret (.own "_law_one_way_rule" 1 #v[.v 0])] .nil,.asg [2,3,4] (.own "_law_laying_kind" 1 #v[.v 0]),.set 5 (.op .add (.c (.int 1)) (.own "_law_pick" 2 #v[.v 0,.v 4])),.asg [2,3] (.own "_law_numbered" 3 #v[.v 0,.v 2,.v 3]),.set 6 (.own "_law_rule_of" 4 #v[.v 0,.v 5,.v 2,.tup .nil]),.set 7 .dnew,.set 8 (.bi .len #v[.v 2]),.loop (.nm 9) (.rng #v[.op .mul (.op .mul (.v 8) (.v 8)) (.v 8)]) #v[.par 10 11 #v[.op .mod (.v 9) (.v 8),.op .mod (.op .fdiv (.v 9) (.v 8)) (.v 8)],.set 12 (.op .fdiv (.op .fdiv (.v 9) (.v 8)) (.v 8)),.ite (.own "_law_breaks" 5 #v[.v 2,.v 3,.v 10,.v 11,.v 12]) #v[.loop (.nm 13) (.seq (.own "_law_rising" 1 #v[.v 5])) #v[.set 14 (.tup #v[.tup #v[.ix (.v 13) (.c (.int 0)),.tup .nil],.tup #v[.ix (.v 13) (.c (.int 1)),.tup #v[.v 10]]]),.put (.v 7) (.own "_law_figure" 2 #v[.v 6,.op .add (.v 14) (.tup #v[.tup #v[.ix (.v 13) (.c (.int 2)),.tup #v[.v 11,.v 12]]])]) (.c (.bl true))]] .nil],.ret (.tup #v[.ix (.v 6) (.c (.int 0)),.ix (.v 6) (.c (.int 1)),.bi .tuple #v[.bi .sorted #v[.v 7]]])]
abbrev dD:Ss:=
 #v[.set 1 (.lst .nil),.loop (.nm 2) (.rng #v[.v 0]) #v[.loop (.nm 3) (.rng2 #v[.v 2,.v 0]) #v[.set 1 (.op .add (.v 1) (.comp (.tup #v[.v 2,.v 3,.v 1]) (.nm 1) (.rng2 #v[.v 3,.v 0]) .nil [td,td,gV 2,gV 3]))]],.ret (.v 1)]
abbrev cv:Ss:=
 #v[.asg [1,2] (.own "_law_sizes" 1 #v[.v 0]),.set 3 (.own "_law_rule_of" 4 #v[.v 0,.v 1,.own "_law_backs" 2 #v[.v 0,.v 2],.tup .nil]),.set 5 (.comp (.v 1) (.nm 1) (.rng #v[.v 2]) #v[.cmp .eq (.ix (.ix (.ix (.v 2) (.c (.int 1))) (.v 1)) (.c (.int 1))) (.v 1)] [td,td,gV 3]),.ite (.or (.cmp .eq (.v 5) (.lst .nil)) (.cmp .eq (.v 2) (.c (.int 1)))) #v[.ret (.v 3)] .nil,.set 6 (.ix (.v 5) (.own "_law_pick" 2 #v[.v 0,.bi .len #v[.v 5]])),.set 7 .dnew,.loop (.nm 4) (.rng #v[.own "_law_pick" 2 #v[.v 0,.c (.int 9)]]) #v[.set 8 (.own "_law_free_three" 3 #v[.v 0,.v 1,.v 2]),.ite (.and (.cmp .ne (.ix (.ix (.ix (.v 8) (.c (.int 1))) (.c (.int 1))) (.c (.int 0))) (.v 6)) (.cmp .notin (.v 6) (.ix (.ix (.v 8) (.c (.int 2))) (.c (.int 1))))) #v[.put (.v 7) (.own "_law_figure" 2 #v[.v 3,.v 8]) (.c (.bl true))] .nil],.ret (.tup #v[.ix (.v 3) (.c (.int 0)),.ix (.v 3) (.c (.int 1)),.bi .tuple #v[.bi .sorted #v[.v 7]]])]
abbrev bF:Ss:=
 #v[.set 1 (.op .add (.c (.int 1)) (.own "_law_pick" 2 #v[.v 0,.c (.int 3)])),.set 2 (.comp (.tup #v[.tup #v[.v 1,.tup .nil],.tup #v[.v 1,.tup #v[.c (.int 0)]],.tup #v[.v 1,.tup #v[.c (.int 0),.c (.int 0)]]]) (.nm 1) (.rng #v[.v 1]) #v[.cmp .eq (.own "_law_pick" 2 #v[.v 2,.c (.int 2)]) (.c (.int 0))] [td,td,gV 0]),.ret (.own "_law_rule_of" 4 #v[.v 0,.v 1,.tup #v[.c (.int 0)],.v 2])]
abbrev bc:Ss:=
 #v[.set 1 (.own "_law_pick" 2 #v[.v 0,.c (.int 3)]),.ite (.cmp .eq (.v 1) (.c (.int 0))) #v[.ret (.own "_law_rule_of" 4 #v[.v 0,.c (.int 1),.tup #v[.c (.int 0),.c (.int 1)],.comp (.tup #v[.tup #v[.c (.int 0),.tup .nil],.tup #v[.c (.int 0),.tup #v[.v 1]],.tup #v[.c (.int 0),.tup #v[.v 1,.v 1]]]) (.nm 1) (.rng #v[.c (.int 2)]) .nil [td,td]])] .nil,.ite (.cmp .eq (.v 1) (.c (.int 1))) #v[.set 2 (.own "_law_rule_of" 4 #v[.v 0,.c (.int 2),.tup #v[.c (.int 0),.c (.int 1)],.tup .nil]),.set 3 .dnew,.loop (.nm 4) (.seq (.own "_law_rising" 1 #v[.c (.int 2)])) #v[.loop (.tp [5,6,7]) (.seq (.lst #v[.tup #v[.c (.int 1),.c (.int 1),.c (.int 0)],.tup #v[.c (.int 1),.c (.int 1),.c (.int 1)],.tup #v[.c (.int 1),.c (.int 0),.c (.int 1)],.tup #v[.c (.int 0),.c (.int 1),.c (.int 1)]])) #v[.set 8 (.tup #v[.tup #v[.ix (.v 4) (.c (.int 0)),.tup .nil],.tup #v[.ix (.v 4) (.c (.int 1)),.tup #v[.v 5]]]),.put (.v 3) (.own "_law_figure" 2 #v[.v 2,.op .add (.v 8) (.tup #v[.tup #v[.ix (.v 4) (.c (.int 2)),.tup #v[.v 6,.v 7]]])]) (.c (.bl true))]],.ret (.tup #v[.ix (.v 2) (.c (.int 0)),.ix (.v 2) (.c (.int 1)),.bi .tuple #v[.bi .sorted #v[.v 3]]])] .nil,.set 9 (.op .add (.c (.int 2)) (.own "_law_pick" 2 #v[.v 0,.c (.int 2)])),.set 3 (.comp (.tup #v[.tup #v[.c (.int 0),.tup .nil],.tup #v[.v 1,.tup #v[.c (.int 0)]],.tup #v[.op .sub (.v 2) (.c (.int 1)),.tup #v[.c (.int 0),.c (.int 0)]]]) (.nm 1) (.rng #v[.v 9]) .nil [td,td,gV 9]),.ret (.own "_law_rule_of" 4 #v[.v 0,.v 9,.tup #v[.c (.int 0)],.sl (.v 3) .no (.yes (.op .add (.c (.int 1)) (.own "_law_pick" 2 #v[.v 0,.v 9])))])]
abbrev Is (defs:Gy (Hc×Df))(f:Hc)(np nn:GJ)(b:Ss):Prop:=∃df:Df,defs.lookup f=gV df/\df.ps.length=np/\df.N.length=nn/\df.body=b
def az {defs:Gy (Hc×Df)}{fuel d:GJ}{f:Hc}{np nn:GJ}{b:Ss}{ws:Gy W}{S:aa}{Q:QW}(h:Is defs f np nn b)(hl:ws.length=np)(ok:fM b=true)
  (hb:∀Q':QO,(∀w S',Q (w,S')->Q' (.rt w,S'))->wZ (au defs fuel d) fuel b (ws.map gV++Hy (nn - np) td) S Q'):wO (aP (au defs fuel (d+1)) f np ws S) Q:=by
 obtain⟨df,h1,h2,h3,h4⟩:=h;subst h4;show Ch h1 hl (hl.trans h2.symm) ok λQ' hR=>?_
 have:=hb Q' hR;unfold eW;rw[h3,hl];exact this
abbrev eC:Ss:=
 #v[.ret (.bi .tuple #v[.comp (.ix (.c (.str "abcdef")) (.v 1)) (.nm 1) (.rng #v[.v 1]) .nil [td,td]])]
structure Gen (defs:Gy (Hc×Df)):Prop where
 pick:Is defs ("_law_pick" : Hc) 2 4 cz
 names:Is defs ("_law_names" : Hc) 2 2 eC
 between:Is defs ("_law_between" : Hc) 4 4 da
 part:Is defs ("_law_part" : Hc) 3 6 cW
 turns:Is defs ("_law_turns" : Hc) 0 0 fO
 figure:Is defs ("_law_figure" : Hc) 2 2 dB
 backs:Is defs ("_law_backs" : Hc) 2 3 eA
 rule_of:Is defs ("_law_rule_of" : Hc) 4 6 db
 free_three:Is defs ("_law_free_three" : Hc) 3 5 bX
 sizes:Is defs ("_law_sizes" : Hc) 1 2 eB
 any_rule:Is defs ("_law_any_rule" : Hc) 1 6 cL
 laying_kind:Is defs ("_law_laying_kind" : Hc) 1 2 bQ
 breaks:Is defs ("_law_breaks" : Hc) 5 10 dC
 numbered:Is defs ("_law_numbered" : Hc) 3 12 bh
 laying_rule:Is defs ("_law_laying_rule" : Hc) 1 15 bR
 rising:Is defs ("_law_rising" : Hc) 1 4 dD
 free_rule:Is defs ("_law_free_rule" : Hc) 1 9 cv
 one_way_rule:Is defs ("_law_one_way_rule" : Hc) 1 3 bF
structure FlA (S:aa)(r q:GJ)(ns:Gy G1)(i c x n:G1):Prop where
 at_r:S[r]?=gV (.lst [.ref q,.int i,.int c,.int x,.int n])
 at_q:S[q]?=gV (.lst (ns.map W.int))
 lt:q < r
 i0:0<=i
 c0:0<=c
 x0:0<=x
 x1:x < 2147483647
def FlA.ne {S:aa}{r q:GJ}{ns:Gy G1}{i c x n:G1}(h:FlA S r q ns i c x n):q≠r:=Ho h.lt
abbrev Fl (S:aa)(r:GJ):Prop:=∃(q:GJ) (ns:Gy G1) (i c x n:G1),FlA S r q ns i c x n
def FlA.put {S:aa}{r q:GJ}{ns:Gy G1}{i c x n i' c' x' n':G1}(h:FlA S r q ns i c x n)(h1:0<=i')(h2:0<=c')(h3:0<=x')(h4:x' < 2147483647):FlA (S.set r (.lst [.ref q,.int i',.int c',.int x',.int n'])) r q ns i' c' x' n':=
 #[br h.at_r,by rw[bn (Ne.symm h.ne)]; exact h.at_q,h.lt,h1,h2,h3,h4]
def Fl.keep {S S':aa}{r:GJ}(h:Fl S r)(h1:S'[r]?=S[r]?)(k:Kp r S S'):Fl S' r:=
 let ⟨q,ns,i,c,x,n,f⟩:=h; #[q,ns,i,c,x,n,by rw[h1]; exact f.at_r,k.get _ _ f.ne f.at_q,f.lt,f.i0,f.c0,f.x0,f.x1]
def Fl.lt {S:aa}{r:GJ}(h:Fl S r):r < S.length:=let ⟨_,_,_,_,_,_,f⟩:=h; bP f.at_r
structure Ka (S S':aa):Prop where
 get:∀(j:GJ) (o:O),S[j]?=gV o->S'[j]?=gV o
 len:S.length<=S'.length
def Ka.refl {S:aa}:Ka S S:=#[λ_ _ h=>h,GY _]
def Ka.trans {S S' S'':aa}(a:Ka S S')(b:Ka S' S''):Ka S S'':=#[λj o h=>b.get j o (a.get j o h),HB a.len b.len]
def Ka.push {S:aa}{o:O}:Ka S (S++[o]):=#[λj u h=>aq h,by simp]
def Ka.late {t:GJ}{S0 S:aa}{o:O}(a:Ka S0 S)(h:S0.length<=t):Ka S0 (S.set t o):=
 #[λj u e=>by have:=bP e; rw[bn ∅]; exact a.get j u e,by simpa using a.len]
def Ka.kp {S S':aa}(a:Ka S S')(r:GJ):Kp r S S':=#[λj o _ h=>a.get j o h,a.len]
def Fl.ka {S S':aa}{r:GJ}(h:Fl S r)(k:Ka S S'):Fl S' r:=h.keep (by obtain⟨q,ns,i,c,x,n,f⟩:=h; rw[k.get _ _ f.at_r,f.at_r]) (k.kp r)
def Fl.own {S:aa}{r t:GJ}{o:O}(h:Fl S r)(ht:r < t):Fl (S.set t o) r:=by
 obtain⟨q,ns,i,c,x,n,f⟩:=h;have:=f.lt;exact#[q,ns,i,c,x,n,by rw[bn ∅]; exact f.at_r,by rw[bn ∅]; exact f.at_q,f.lt,f.i0,f.c0,f.x0,f.x1]
def dE {S:aa}{r:GJ}{xs:Gy W}{i:GJ}{w:W}{Q:QW}(h:S[r]?=gV (.lst xs))(hw:xs[i]?=gV w)(q:Q (w,S)):wO (jy (.ref r) (.int (i:G1)) S) Q:=ab (wm h (GR i) (by rw[G0]; exact hw)) q
def lV {S:aa}{r:GJ}{xs:Gy W}{i:GJ}{w:W}{Q:aa->Prop}(h:S[r]?=gV (.lst xs))(hi:PD (i+1) xs.length=true)(q:Q (S.set r (.lst (xs.set i w)))):wO (hX (.ref r) (.int (i:G1)) w S) Q:=ab (As h (GR i) (by rw[G0]; exact J3 hi)) (by rw[G0]; exact q)
section
variable{defs:Gy (Hc×Df)}{fuel d:GJ}{S:aa}{r:GJ}{Q:QW}
def aR (hd:Is defs ("_law_pick" : Hc) 2 4 cz){m:G1}(hf:Fl S r)(h0:0 < m)(h1:m < 1073741824)(k:∀v S',0<=v->v < m->Fl S' r->Kp r S S'->Q (.int v,S')) :
  wO (aP (au defs fuel (d+1)) "_law_pick" 2 [.ref r,.int m] S) Q:=by
 obtain⟨q,ns,i,c,x,n,f⟩:=hf;show az hd rfl rfl λQ' hR=>?_
 replace k:∀v S',0<=v->v < m->Fl S' r->Kp r S S'->Q' (.rt (.int v),S'):=λv S' a b c e=>hR _ _ (k v S' a b c e)
 clear hR;change wZ _ _ cz [gV (.ref r),gV (.int m),td,td] S Q';have cj:∀(S1:aa) (w2:GH W) (i1 c1 x1 n1:G1),FlA S1 r q ns i1 c1 x1 n1->Kp r S S1->wZ (au defs fuel d) fuel (match cz with|.cons _ ss=>ss|.nil=>.nil) [gV (.ref r),gV (.int m),w2,td] S1 Q':=by
  intro S1 w2 i1 c1 x1 n1 f1 k1;dsimp only[cz];show st ?_;dsimp only[wS,wT,wE,wV,wG];show dE (i:=2) f1.at_r rfl ?_;dsimp only[Cg,wO,wB];show ap (Q0:=Q') (λhg Q2 hn hr=>?_) (λhg Q2 hn hr=>?_)
  ·clear hn;show st ?_;dsimp only[wS,wE,wV,wG];show dE (i:=2) f1.at_r rfl (ab (kB h0) ?_);show st ?_;dsimp only[wS,wE,wV,wG,GX];show dE (i:=2) f1.at_r rfl (ab (nk h0 h1) (lV (i:=2) f1.at_r rfl ?_));show st ?_;dsimp only[wS,wE,wV,wG,GX];exact hr _ _ (k _ _ (JA _ ∅) (IY _ h0) #[q,ns,i1,c1 / m,x1,n1,f1.put f1.i0 (NX f1.c0 ∅) f1.x0 f1.x1] (k1.trans .set))
  ·show bg (hn _ _ ?_);clear hn hr;have f2:FlA (S1.set r (.lst [.ref q,.int i1,.int c1,.int x1,.int (n1+1)])) r q ns i1 c1 x1 (n1+1):=f1.put f1.i0 f1.c0 f1.x0 f1.x1;show st ?_;dsimp only[wS,wE,wV,wG];show dE (i:=4) f1.at_r rfl ?_;dsimp only[dX,wO];show lV (i:=4) f1.at_r rfl ?_;show st ?_;dsimp only[wS,wE,wV,wG,GX];show dE (i:=3) f2.at_r rfl (ab (rZ #v[] #v[]) ?_)
   dsimp only[dX,wO];show dE (i:=4) f2.at_r rfl ?_;dsimp only[dX,wO];show(lV (i:=3) f2.at_r rfl ?_);have f3:FlA ((S1.set r (.lst [.ref q,.int i1,.int c1,.int x1,.int (n1+1)])).set r (.lst [.ref q,.int i1,.int c1,.int ((x1*48271+12820163+(n1+1)) % 2147483647),.int (n1+1)])) r q ns i1 c1 ((x1*48271+12820163+(n1+1)) % 2147483647) (n1+1):=f2.put f1.i0 f1.c0 (JA _ #v[]) (IY _ #v[])
   dsimp only[GX];generalize(x1*48271+12820163+(n1+1)) % 2147483647=y at f3 ⊢;have b1:y / 65521+7919 < 2 ^ 64:=by
    have:=f3.x1;have:=Int.ediv_le_self 65521 f3.x0;omega
   have b2 : -(2 ^ 64) < y / 65521+7919:=by
    have:=NX f3.x0 (show(0:G1)<=65521 by decide)
    omega
   show st ?_;dsimp only[wS,wE,wV,wG,GX];show dE (i:=3) f3.at_r rfl (ab (kB #v[]) ?_)
   dsimp only[dX,wO];show dE (i:=3) f3.at_r rfl ?_;dsimp only[dX,wO];show ab (rZ b2 b1) ?_;show ab (kB h0) ?_;exact k _ _ (JA _ ∅) (IY _ h0) #[q,ns,_,_,_,_,f3] (k1.trans (Kp.set.trans .set))
 dsimp only[cz]at cj ⊢;show st ?_;dsimp only[wS,wT,wE,wV,wG,wA];show dE (i:=2) f.at_r rfl ?_;dsimp only[ll,wO,wB];have skip:∀Q2:QO,(∀Z' S',wZ (au defs fuel d) fuel _ Z' S' Q'->Q2 (.nx Z',S'))->Q2 (.nx [gV (.ref r),gV (.int m),td,td],S):=λQ2 hn=>hn _ _ (cj S td i c x n f .refl)
 show#[λ_=>?_,λ_ Q2 hn hr=>#[λz=>(by cases z),λ_=>(bg (skip Q2 hn)).out]]
 show dE (i:=1) f.at_r rfl (dE (i:=0) f.at_r rfl (ab (At f.at_q) ?_));dsimp only[qr,wO,wB];show ap (Q0:=Q') (λhl Q2 hn _=>?_) (λhg Q2 hn hr=>bg (skip Q2 hn))
 clear skip;have hl':i.toNat < ns.length:=by
  have:=HS hl;rw[Gz]at this;have:=f.i0;omega
 have hcell:(ns.map W.int)[i.toNat]?=gV (.int ns[i.toNat]):=by simp[hl']
 generalize ns[i.toNat]=cell at hcell;have f1:FlA (S.set r (.lst [.ref q,.int (i+1),.int c,.int x,.int n])) r q ns (i+1) c x n:=f.put (by have:=f.i0; omega) f.c0 f.x0 f.x1
 show st ?_;dsimp only[wS,wE,wV,wG];show dE (i:=0) f.at_r rfl (dE (i:=1) f.at_r rfl (ab (wm f.at_q f.i0 hcell) ?_));show st ?_;dsimp only[wS,wE,wV,wG,GX];show dE (i:=1) f.at_r rfl ?_;dsimp only[dX,wO];show lV (i:=1) f.at_r rfl ?_;show st ?_;dsimp only[wS,wT,wE,wV,wG,Ce,zB,wO,wB];show ap (Q0:=Q') (λhg Q3 hn3 _=>?_) (λhg Q3 hn3 _=>?_)
 ·show st ?_;dsimp only[wS,wE,wV,wG];show lV (i:=2) f1.at_r rfl (bg (hn3 _ _ (bg (hn _ _ ?_))));exact cj _ _ (i+1) cell x n (f1.put f1.i0 (by have:=HS hg; omega) f.x0 f.x1) (Kp.set.trans .set)
 ·show st ?_;dsimp only[wS,wE,wV,wG];show dE (i:=3) f1.at_r rfl (ab (rZ #v[] #v[]) (ab (kB #v[]) ?_))
  dsimp only[dX,wO];show lV (i:=3) f1.at_r rfl (bg (hn3 _ _ (bg (hn _ _ ?_))));exact cj _ _ (i+1) c _ n (f1.put f1.i0 f.c0 (JA _ #v[]) (IY _ #v[])) (Kp.set.trans .set)
end
abbrev dr:GJ->Ss->Ss
 | 0,ss=>ss
 | n+1,.cons _ ss=>dr n ss
 | _,.nil=>.nil
def aM {α:Type}{a:α}{Q:α->Prop}:wO (gV a) Q=Q a:=rfl
def aJ {M:Hc->FF}{fuel:GJ}{Z:Fm}{S:aa}{Q:QO}{s:Sm}{ss:Ss}(h:∀K:Fm->aa->Prop,(∀Z' S',wZ M fuel ss Z' S' Q->K Z' S')->wS M fuel s Z S K Q):wZ M fuel (.cons s ss) Z S Q:=st (h _ λ_ _ h=>h)
def Eg {M:Hc->FF}{fuel:GJ}{Z:Fm}{S:aa}{i:GJ}{e:E}{K:Fm->aa->Prop}{Q:QO}(h:wE M e Z S λp=>K (Z.set i (gV p.1)) p.2):wS M fuel (.set i e) Z S K Q:=h
def fP {n:GJ}(h:PD n 1000=true):n<=sizeLine:=HB (J3 h) (by rw[HR]; decide)
def lp {n:GJ}(h:n<=1000):n<=sizeLine:=HB h (by rw[HR]; decide)
def eD {S:aa}{r:GJ}{xs:Gy W}{i:G1}{w:W}{Q:QW}(h:S[r]?=gV (.lst xs))(h0:0<=i)(hw:xs[i.toNat]?=gV w)(q:Q (w,S)):wO (jy (.ref r) (.int i) S) Q:=ab (wm h h0 hw) q
def ah {S:aa}{xs:Gy W}{i:G1}{w:W}{Q:QW}(h0:0<=i)(hw:xs[i.toNat]?=gV w)(q:Q (w,S)):wO (jy (.tup xs) (.int i) S) Q:=ab (D8 h0 hw) q
def jl {S:aa}{r:GJ}{xs:Gy W}{y:W}{Q:QW}(h:S[r]?=gV (.lst xs))(hl:xs.length < 1000)(q:Q (.non,S.set r (.lst (xs++[y])))):wO (Me.append.fn (.ref r) [y] S) Q:=ab (r0 h (Hq hl (fP rfl))) q
def gI {S:aa}{r:GJ}{xs:Gy W}{Q:QW}(h:S[r]?=gV (.lst xs))(q:Q (.int xs.length,S)):wO (Bi.len.fn [.ref r] S) Q:=ab (At h) q
def aY {S:aa}{xs:Gy W}{Q:QW}(q:Q (.int xs.length,S)):wO (Bi.len.fn [.tup xs] S) Q:=q
def cF {S:aa}{r:GJ}{xs:Gy W}{Q:QW}(h:S[r]?=gV (.lst xs))(q:Q (.tup xs,S)):wO (Bi.tuple.fn [.ref r] S) Q:=ab (Ea h) q
section
variable{M:Hc->FF}{fuel:GJ}{Z:Fm}{S S1:aa}{K:Fm->aa->Prop}
def wp {t:E}{a:Ss}{Q:QO}(ht:∀Q:QB,Q (false,S1)->wT M t Z S Q)(h:K Z S1):wS M fuel (.ite t a .nil) Z S K Q:=by
 dsimp only[wS];exact ht _ λQ' h1 h2=>#[λz=>(by cases z),λ_=>(bg (h1 _ _ h)).out]
def Eh {t:E}{a b:Ss}{Q:QO}(ht:∀Q:QB,Q (true,S1)->wT M t Z S Q)(h:∀Q':QO,(∀Z' S',K Z' S'->Q' (.nx Z',S'))->(∀w S',Q (.rt w,S')->Q' (.rt w,S'))->wZ M fuel a Z S1 Q'):wS M fuel (.ite t a b) Z S K Q:=by
 dsimp only[wS];exact ht _ λQ' h1 h2=>#[λ_=>(h Q' h1 λw S' q=>h2 (.rt w) S' (λ_ z=>nomatch z) q).out,λz=>(by cases z)]
end
abbrev Ei (y:Hc):Prop:=∀c∈y.cps.toList,97<=c/\c<=122
abbrev Name (y:Hc):Prop:=1<=y.cps.toList.length/\y.cps.toList.length<=8/\Ei y
def nu {α:Type}{f:α->W}{xs:Gy α}{i:GJ}(h:i < xs.length):∃x∈xs,(xs.map f)[i]?=gV (f x):=#[xs[i],HA _,by rw[GM,G5 h]; rfl]
def iV {α:Type}[J5 α]:∀(l m:Gy α),l.Nodup->(∀x∈l,x∈m)->l.length<=m.length
 | [],_,_,_=>IH _
 | x::l,m,hn,hs=>by
  rw[Jy]at hn;have hx:x∈m:=hs x (.head _);have h1:=iV l (m.erase x) hn.2 λy hy=>(List.mem_erase_of_ne (λ(e:y=x)=>hn.1 (by rw[<- e]; exact hy))).mpr (hs y (.tail _ hy))
  rw[List.length_erase_of_mem hx]at h1;have:=List.length_pos_of_mem hx;rw[HJ]; omega
abbrev zG (k:GJ):Hc:=#[[97+k].toArray]
def tR {k:GJ}(h:k < 26):Name (zG k):=#[GY 1,(by decide:1<=8),λc hc=>by
 cases G8.mp (show c∈[97+k]from hc)
 omega]
abbrev qt:Gy Hc:=["marks","ways","bar","some","each","not","and","or","is"]
def eL {xs:Gy W}{k:GJ}:jw xs td (gV (k:G1))=xs.take k:=by
 unfold jw;rw[HT.jQ,HT.qU,Og,Nn]
 by_cases h:k<=xs.length
 ·rw[NY h]
 ·rw[NL ∅,KO (GY _),KO ∅]
def wq {xs:Gy W}{k:GJ}:jw xs (gV (k:G1)) td=xs.drop k:=by
 unfold jw;rw[HT.jQ,HT.qU]
 by_cases h:k<=xs.length
 ·rw[NY h,KO (by rw[JR]; exact GY _)]
 ·rw[NL ∅,LV (GY _),LV ∅]; exact List.take_nil
section
variable{defs:Gy (Hc×Df)}{fuel d:GJ}{S:aa}{r:GJ}{Q:QW}
def wt:∀m,m<=6->(qt++(GL m).map zG).Nodup:=λm hm=>by
 rcases(show m=0\/m=1\/m=2\/m=3\/m=4\/m=5\/m=6 by omega)with rfl|rfl|rfl|rfl|rfl|rfl|rfl <;> decide
def zH:∀k:Fin 6,("abcdef" : Hc).cps.toList[k.val]?=gV (97+k.val):=by decide
def zI (hfu:20 < fuel)(G:Gen defs){m:GJ}(hf:Fl S r)(h1:m<=6)(k:∀(ys:Gy Hc) S',ys.length=m->(∀y∈ys,Name y)->(qt++ys).Nodup->Fl S' r->Kp r S S'->Q (.tup (ys.map W.str),S')) :
  wO (aP (au defs fuel (d+4)) "_law_names" 2 [.ref r,.int m] S) Q:=by
 show az G.names rfl rfl λQ' hR=>?_
 change wZ _ _ eC [gV (.ref r),gV (.int m)] S Q';dsimp only[eC];show st ?_;dsimp only[wS,wE,wA];show ey (m:G1) (λi ys Z2 S2=>(∃a1,Z2=[td,a1])/\ys=((GL i).map zG).map W.str/\S2=S) rfl rfl rfl ∅ #[rfl,#[td,rfl],rfl,rfl] ?_ ?_
 ·rintro i ys Z2 S2 hi ⟨⟨a1,rfl⟩,rfl,rfl⟩;dsimp only[fu,wC,wE,wV,wG,GX];show#[λ_=>ab (D9 (c:=97+i) #v[] (GR i) ?_) #[#[_,rfl],?_,rfl],λz=>by cases z]
  ·rw[G0]; exact zH #[i,∅]
  ·rw[Jg,Hk,Hk]; rfl
 ·rintro ys Z2 S2 ⟨_,rfl,rfl⟩;rw[G0];show#[lp (by rw[Gz,Gz,Hg]; omega),cF ak (hR _ _ (k ((GL m).map zG) _ (by rw[Gz,Hg]) (λy hy=>?_) (wt m h1) (hf.ka .push) .push))]
  obtain⟨i,hi,rfl⟩:=G4.mp hy;exact tR (by have:=G2.mp hi; omega)
end
noncomputable abbrev Pt:=G1×Gy G1
noncomputable abbrev Wd:=Gy Pt
abbrev aK (p:Pt):W:=.tup [.int p.1,.tup (p.2.map W.int)]
abbrev aA (u:Wd):W:=.tup (u.map aK)
abbrev gJ (p:Pt):T:=.tup [.int p.1,.tup (p.2.map T.int)]
abbrev aL (u:Wd):T:=.tup (u.map gJ)
def sa:∀xs:Gy G1,T.ws (xs.map T.int)=xs.map W.int
 | []=>rfl
 | x::xs=>by simp[T.ws,T.w,sa xs]
def Ej (p:Pt):(gJ p).w=aK p:=by simp[gJ,aK,T.w,T.ws,sa]
def wu:∀u:Wd,T.ws (u.map gJ)=u.map aK
 | []=>rfl
 | p::u=>by simp[T.ws,Ej,wu u]
def ww (u:Wd):(aL u).w=aA u:=by simp[aL,aA,T.w,wu]
def Ek (u:Wd):W.t (aA u)=gV (aL u):=by rw[<- ww]; exact T.w_t _
def wx:∀us:Gy Wd,T.ws (us.map aL)=us.map aA
 | []=>rfl
 | u::us=>by simp[T.ws,ww,wx us]
def Ay (us:Gy Wd):W.ts (us.map aA)=gV (us.map aL):=by rw[<- wx]; exact T.ws_ts _
def kD:∀xs:Gy G1,T.depths (xs.map T.int)=0
 | []=>rfl
 | x::xs=>by simp[T.depths,T.depth,kD xs]
def wy (p:Pt):(gJ p).depth=2:=by simp[gJ,T.depth,T.depths,kD]
def lW:∀u:Wd,T.depths (u.map gJ)<=2
 | []=>by simp[T.depths]
 | p::u=>by
  have:=lW u;simp only[HX,T.depths,wy]; omega
def oR (u:Wd):(aL u).depth<=3:=by
 have:=lW u;simp only[aL,T.depth]; omega
def iW:∀us:Gy Wd,T.depths (us.map aL)<=3
 | []=>by simp[T.depths]
 | u::us=>by
  have:=iW us;have:=oR u;simp only[HX,T.depths]; omega
def nv (u:Wd):gz (aA u)=gV (aL u):=by
 unfold gz;rw[Ek];show(if (aL u).isTup=true/\(aL u).depth<=bf then _ else _)=_
 rw[Hf #[rfl,by have:=oR u; unfold bf; omega]]
mutual
def oS:T->T->Hi
 | .int _,.int _=>true
 | .str _,.str _=>true
 | .tup xs,.tup ys=>ik xs ys
 | _,_=>false
def ik:Gy T->Gy T->Hi
 | [],_=>true
 | _,[]=>true
 | x::xs,y::ys=>oS x y&&ik xs ys
end
mutual
theorem qu:∀x y:T,oS x y=true->(fA x y).isSome=true
 | .int _,.int _,_=>rfl
 | .str _,.str _,_=>rfl
 | .tup xs,.tup ys,h=>by
  dsimp only[oS]at h;dsimp only[fA];exact sd xs ys h
 | .int _,.str _,h|.int _,.tup _,h|.str _,.int _,h|.str _,.tup _,h|.tup _,.int _,h|.tup _,.str _,h=>by cases h
theorem sd:∀xs ys:Gy T,ik xs ys=true->(cO xs ys).isSome=true
 | [],[],_=>rfl
 | [],_::_,_=>rfl
 | _::_,[],_=>rfl
 | x::xs,y::ys,h=>by
  dsimp only[ik]at h; simp only[GK]at h
  dsimp only[cO];split
  ·exact sd xs ys h.2
  ·exact qu x y h.1
end
def oT:∀xs ys:Gy G1,ik (xs.map T.int) (ys.map T.int)=true
 | [],_=>rfl
 | _::_,[]=>rfl
 | x::xs,y::ys=>by dsimp only[Oh,ik,oS]; simp[oT xs ys]
def wz (p q:Pt):oS (gJ p) (gJ q)=true:=by dsimp only[gJ,oS,ik]; simp[oT]
def se:∀u v:Wd,ik (u.map gJ) (v.map gJ)=true
 | [],_=>rfl
 | _::_,[]=>rfl
 | p::u,q::v=>by dsimp only[Oh,ik]; simp[wz,se u v]
def Ci (u v:Wd):oS (aL u) (aL v)=true:=by dsimp only[aL,oS]; exact se _ _
def gh (us:Gy Wd):eg (us.map aL)=true:=by
 unfold eg;rw[G7];intro x hx;obtain⟨u,_,rfl⟩:=G4.mp hx;rw[G7];intro y hy;obtain⟨v,_,rfl⟩:=G4.mp hy;exact qu _ _ (Ci u v)
def Cj (us:Gy Wd)(h:∀u∈us,u≠[]):(xK (us.map aL)).isSome=true:=by
 unfold xK;split
 ·rfl
 ·split
  ·rfl
  ·split
   ·rfl
   ·split
    ·rfl
    ·split
     ·rfl
     ·rename_i h5;exfalso;apply h5;rw[G7];intro x hx;obtain⟨u,hu,rfl⟩:=G4.mp hx;cases u with
      | nil=>exact absurd rfl (h [] hu)
      | cons p u=>rfl
abbrev bK (bs:Gy G1)(u:Wd)(i j:GJ):G1:=if j < i then((u.getD i (0,[])).2).getD j 0 else bs.getD (((u.getD j (0,[])).2).getD i 0).toNat 0
abbrev ag (bs:Gy G1)(u:Wd)(ps:Gy GJ):Wd:=(GL ps.length).map λk=>((u.getD (ps.getD k 0) (0,[])).1,(ps.take k).map λj=>bK bs u (ps.getD k 0) j)
abbrev ar:Gy (Gy GJ):=[[0,1,2],[0,2,1],[1,0,2],[1,2,0],[2,0,1],[2,1,0]]
abbrev bz (bs:Gy G1)(u:Wd):Wd:=(ar.map (ag bs u)).getD (gP ((ar.map (ag bs u)).map aL)) []
abbrev aF (n:Hc)(b:G1):W:=.tup [.str n,.int b]
structure GoodW (a n:GJ)(u:Wd):Prop where
 mark:∀(k:GJ) (p:Pt),u[k]?=gV p->0<=p.1/\p.1 < a
 len:∀(k:GJ) (p:Pt),u[k]?=gV p->p.2.length=k
 way:∀(k:GJ) (p:Pt),u[k]?=gV p->∀w∈p.2,0<=w/\w < n
abbrev GoodB (bs:Gy G1):Prop:=bs=[0]\/bs=[0,1]\/bs=[1,0]\/bs=[0,1,2]\/bs=[1,0,2]\/bs=[0,2,1]
def GoodB.rng {bs:Gy G1}(h:GoodB bs):∀k:GJ,k < bs.length->∃b:G1,bs[k]?=gV b/\0<=b/\b < bs.length:=by
 rcases h with rfl|rfl|rfl|rfl|rfl|rfl <;> intro k hk
 ·match k,hk with
  | 0,_=>exact#[0,rfl,#v[],#v[]]
 ·match k,hk with
  | 0,_=>exact#[0,rfl,#v[],#v[]]
  | 1,_=>exact#[1,rfl,#v[],#v[]]
 ·match k,hk with
  | 0,_=>exact#[1,rfl,#v[],#v[]]
  | 1,_=>exact#[0,rfl,#v[],#v[]]
 ·match k,hk with
  | 0,_=>exact#[0,rfl,#v[],#v[]]
  | 1,_=>exact#[1,rfl,#v[],#v[]]
  | 2,_=>exact#[2,rfl,#v[],#v[]]
 ·match k,hk with
  | 0,_=>exact#[1,rfl,#v[],#v[]]
  | 1,_=>exact#[0,rfl,#v[],#v[]]
  | 2,_=>exact#[2,rfl,#v[],#v[]]
 ·match k,hk with
  | 0,_=>exact#[0,rfl,#v[],#v[]]
  | 1,_=>exact#[2,rfl,#v[],#v[]]
  | 2,_=>exact#[1,rfl,#v[],#v[]]
def getD_some {α:Type}{xs:Gy α}{i:GJ}{x d:α}(h:xs[i]?=gV x):xs.getD i d=x:=by simp[h]
def am {α:Type}{xs:Gy α}{i:GJ}{d:α}(h:i < xs.length):xs[i]?=gV (xs.getD i d):=by simp[h]
def iX {ns:Gy Hc}{bs:Gy G1}{k:GJ}{n:Hc}{b:G1}(h1:ns[k]?=gV n)(h2:bs[k]?=gV b):(G3 aF ns bs)[k]?=gV (aF n b):=by
 rw[List.getElem?_zipWith,h1,h2]
abbrev aj (ps:Gy GJ):Gy W:=ps.map λ(p:GJ)=>W.int (p:G1)
def eX {ps:Gy GJ}{k p:GJ}(h:ps[k]?=gV p):(aj ps)[k]?=gV (.int p):=by simp[aj,h]
def aI (bs:Gy G1)(u:Wd)(ps:Gy GJ):(ag bs u ps).length=ps.length:=by unfold ag; rw[Gz,Hg]
def cM {u:Wd}{i:GJ}(hi:i < u.length):(u.map aK)[((i:GJ):G1).toNat]?=gV (aK (u.getD i (0,[]))):=by
 rw[G0,GM,am hi]; rfl
section
variable{defs:Gy (Hc×Df)}{fuel d:GJ}{S:aa}{r:GJ}{Q:QW}
def wD {M:Hc->FF}{m0 b0:W}{ns:Gy Hc}{bs:Gy G1}{a:GJ}{u:Wd}{i j:GJ}{Q:QO}(hb:GoodB bs)(hl:ns.length=bs.length)(hu:GoodW a bs.length u)(hi:i < u.length)(hj:j < u.length)(hij:i≠j)(k:Q (.rt (.int (bK bs u i j)),S)) :
  wZ M fuel da [gV (.tup [m0,.tup (G3 aF ns bs),b0]),gV (aA u),gV (.int i),gV (.int j)] S Q:=by
 have hpi:=am (d:=(0,[])) hi;have hpj:=am (d:=(0,[])) hj;unfold bK at k;dsimp only[da];nofun
 dsimp only[wS,wT,wE,wV,wG,qr,wO,wB,aA];show ap (Q0:=Q) (λh Q2 _ hr=>?_) (λh Q2 hn _=>?_)
 ·have hji:j < i:=by have:=HS h; omega
  rw[Hf hji]at k;have hw:j < (u.getD i (0,[])).2.length:=by rw[hu.len i _ hpi]; exact hji
  show st ?_;dsimp only[wS,wE,wV,wG];show ah (GR i) (cM hi) (ah #v[] rfl (ah (GR j) ?_ (hr _ _ k)))
  rw[G0,GM,am (d:=0) hw]; rfl
 ·have hji:¬ j < i:=by have:=Kw h; omega
  rw[Hl hji]at k;show bg (hn _ _ (hK _ _ ?_));clear hn hK;have hw:i < (u.getD j (0,[])).2.length:=by rw[hu.len j _ hpj]; omega
  have hg:=am (d:=0) hw;obtain⟨g1,g2⟩:=hu.way j _ hpj _ (GV hg);obtain⟨b,hb1,hb2,hb3⟩:=hb.rng ((u.getD j (0,[])).2.getD i 0).toNat ∅
  have hn:((u.getD j (0,[])).2.getD i 0).toNat < ns.length:=∅
  rw[getD_some hb1]at k;show st ?_;dsimp only[wS,wE,wV,wG];show ah #v[] rfl (ah (GR j) (cM hj) (ah #v[] rfl (ah (GR i) ?_ (ah g1 (iX (G5 hn) hb1) (ah #v[] rfl k)))))
  rw[G0,GM,hg]; rfl
def lX (G:Gen defs){m0 b0:W}{ns:Gy Hc}{bs:Gy G1}{a:GJ}{u:Wd}{i j:GJ}(hb:GoodB bs)(hl:ns.length=bs.length)(hu:GoodW a bs.length u)(hi:i < u.length)(hj:j < u.length)(hij:i≠j)(k:Q (.int (bK bs u i j),S)) :
  wO (aP (au defs fuel (d+1)) "_law_between" 4 [.tup [m0,.tup (G3 aF ns bs),b0],aA u,.int i,.int j] S) Q:=
 az G.between rfl rfl λQ' hR=>wD hb hl hu hi hj hij (hR _ _ k)
def wF (G:Gen defs){m0 b0:W}{ns:Gy Hc}{bs:Gy G1}{a:GJ}{u:Wd}{ps:Gy GJ}(hb:GoodB bs)(hl:ns.length=bs.length)(hu:GoodW a bs.length u)(hps:∀p∈ps,p < u.length)(hnd:ps.Nodup)(hsz:ps.length < 1000)(k:∀S',Ka S S'->Q (aA (ag bs u ps),S')) :
  wO (aP (au defs fuel (d+2)) "_law_part" 3 [.tup [m0,.tup (G3 aF ns bs),b0],aA u,.tup (aj ps)] S) Q:=by
 show az G.part rfl rfl λQ' hR=>?_
 replace k:∀S',Ka S S'->Q' (.rt (aA (ag bs u ps)),S'):=λS' a=>hR _ _ (k S' a)
 clear hR;change wZ _ _ cW [gV (.tup [m0,.tup (G3 aF ns bs),b0]),gV (aA u),gV (.tup (aj ps)),td,td,td] S Q';generalize hR0:W.tup [m0,.tup (G3 aF ns bs),b0]=R;dsimp only[cW];show st ?_;dsimp only[wS,wE,wA,GX];nofun
 have nl:(aj ps).length=ps.length:=Gz ..;show cu (ps.length:G1) (λk Z S'=>∃a4 a5,Z=[gV R,gV (aA u),gV (.tup (aj ps)),gV (.ref S.length),a4,a5]/\S'[S.length]?=gV (.lst (((ag bs u ps).take k).map aK))/\Ka S S') rfl rfl ∅ ?_ ?_ ?_
 ·dsimp only[wE,wA,wV,wG];show aY ?_;rw[nl];exact#[rfl,td,td,rfl,ak,.push]
 ·rintro i Z S1 hi ⟨a4,a5,rfl,e1,k1⟩ Q2 hn _;clear hK;have hi':i < ps.length:=∅
  have hp:ps[i]?=gV ps[i]:=G5 hi';have hpu:ps[i] < u.length:=hps _ (HA hi');show st ?_;dsimp only[wS,wE,wV,wG,GX];show ah (GR i) (by rw[G0]; exact eX hp) ?_
  show st ?_;left;show#[cg e1,ah (GR _) (cM hpu) (ah #v[] rfl ?_)]
  show r8 (aj (ps.take i)) (λj ys Z2 S2=>(∃a1,Z2=[td,a1,gV (.int ps[i]),gV R,gV (aA u)])/\ys=((ps.take i).take j).map (λq=>W.int (bK bs u ps[i] q))/\Ka S1 S2) rfl rfl rfl ?_ ?_ ?_
  ·dsimp only[wE,wP,wV,wG,wN];show ab (a:=(.tup (aj (ps.take i)),S1)) ?_ #[rfl,#[td,rfl],rfl,.refl];simp only[mE,eL];unfold aj;rw[Kr]
  ·rintro j w ys Z2 S2 hw ⟨⟨a1,rfl⟩,rfl,k2⟩;have hjl:j < (ps.take i).length:=by
    have:=(G9.mp hw).1;unfold aj at this
    rwa [Gz]at this
   have hq:(ps.take i)[j]?=gV (ps.take i)[j]:=G5 hjl;cases(eX hq).symm.trans hw;have hj:j < i:=by rw[Hu]at hjl; omega
   have eq:(ps.take i)[j]=ps[j]'∅:=JG
   generalize(ps.take i)[j]=q at hq eq ⊢;show ab (show fX (.nm 1) (.int (q:G1)) [td,a1,gV (.int ps[i]),gV R,gV (aA u)] S2=gV ([td,gV (.int (q:G1)),gV (.int ps[i]),gV R,gV (aA u)],S2)from rfl) ?_
   dsimp only[fu,wC,wE,wA,wV,wG];subst hR0;show#[λ_=>lX (d:=d) G hb hl hu hpu (by rw[eq]; exact hps _ (HA _)) ?_ #[#[_,rfl],?_,k2],λz=>by cases z]
   ·rw[eq];intro h;have:=(Iq hnd).mp h;omega
   ·rw[HK,hq];simp
  ·rintro ys Z2 S2 ⟨_,rfl,k2⟩;rw[show(aj (ps.take i)).length=(ps.take i).length from Gz ..,HY]
   show#[lp (by rw[Gz,Hu]; omega),cF ak ?_]
   have e2:=aq (u:=O.lst ((ps.take i).map λq=>W.int (bK bs u ps[i] q))) (k2.get _ _ e1)
   show jl e2 (by rw[Gz,Hu]; omega) (bg (hn _ _ #[_,_,rfl,?_,((k1.trans k2).trans .push).late (GY _)]))
   rw[br e2];have ep:(ag bs u ps)[i]?=gV ((u.getD ps[i] (0,[])).1,(ps.take i).map λq=>bK bs u ps[i] q):=by
    unfold ag;rw[GM,IG hi',Hv,getD_some hp]
   rw[HK,ep];simp[aK,Ls]
 ·rintro Z S1 ⟨a4,a5,rfl,e1,k1⟩;rw[G0,<- aI bs u ps,HY]at e1;show hK _ _ (st ?_);left;exact cF e1 (k _ k1)
def jF (G:Gen defs)(k:Q (.ref S.length,S++[.lst (ar.map λt=>W.tup (aj t))])):wO (aP (au defs fuel (d+1)) "_law_turns" 0 [] S) Q:=by
 show az G.turns rfl rfl λQ' hR=>?_
 dsimp only[fO];show st ?_;dsimp only[wS,wE,wA];exact hR _ _ k
def cX (bt:GJ->GJ->Hi):∀n:GJ,argBest bt n<=n
 | 0=>GY _
 | n+1=>by have:=cX bt n; simp only[argBest]; split <;> omega
def fQ (G:Gen defs){m0 b0:W}{ns:Gy Hc}{bs:Gy G1}{a:GJ}{u:Wd}(hb:GoodB bs)(hl:ns.length=bs.length)(hu:GoodW a bs.length u)(h3:u.length=3)(k:∀S',Ka S S'->Q (aA (bz bs u),S')) :
  wO (aP (au defs fuel (d+3)) "_law_figure" 2 [.tup [m0,.tup (G3 aF ns bs),b0],aA u] S) Q:=by
 show az G.figure rfl rfl λQ' hR=>?_
 replace k:∀S',Ka S S'->Q' (.rt (aA (bz bs u)),S'):=λS' a=>hR _ _ (k S' a)
 clear hR;change wZ _ _ dB [gV (.tup [m0,.tup (G3 aF ns bs),b0]),gV (aA u)] S Q';generalize hR0:W.tup [m0,.tup (G3 aF ns bs),b0]=R;dsimp only[dB];show st ?_;dsimp only[wS,wE,wA];show r9 S.length (ar.map λt=>W.tup (aj t)) (λi ys Z2 S2=>(∃a1,Z2=[td,a1,gV R,gV (aA u)])/\ys=((ar.take i).map λt=>aA (ag bs u t))/\Ka (S++[.lst (ar.map λt=>W.tup (aj t))]) S2) rfl rfl rfl ?_ ?_ ?_ ?_
 ·dsimp only[wE,wA];exact jF (d:=d+1) G #[rfl,#[td,rfl],rfl,.refl]
 ·rintro i ys Z2 S2 ⟨_,_,k2⟩;exact k2.get _ _ ak
 ·rintro i w ys Z2 S2 hw ⟨⟨a1,rfl⟩,rfl,k2⟩;rw[GM,GD]at hw;obtain⟨t,ht,rfl⟩:=hw;have ht3:(∀p∈t,p < 3)/\t.Nodup/\t.length < 1000:=by
   have:∀t∈ar,(∀p∈t,p < 3)/\t.Nodup/\t.length < 1000:=by decide
   exact this t (GV ht)
  show ab (show fX (.nm 1) (.tup (aj t)) [td,a1,gV R,gV (aA u)] S2=gV ([td,gV (.tup (aj t)),gV R,gV (aA u)],S2)from rfl) ?_
  dsimp only[fu,wC,wE,wA,wV,wG];subst hR0;show#[λ_=>wF (d:=d) G hb hl hu (λp hp=>by rw[h3]; exact ht3.1 p hp) ht3.2.1 ht3.2.2 λS3 k3=>#[#[_,rfl],?_,k2.trans k3],λz=>by cases z]
  rw[HK,ht];simp
 ·rintro ys Z2 S2 ⟨_,rfl,k2⟩;have e:((ar.take (ar.map λt=>W.tup (aj t)).length).map λt=>aA (ag bs u t))=(ar.map (ag bs u)).map aA:=by
   rw[Gz,HY,HL]; rfl
  rw[e];show#[fP rfl,ab (a:=(aA (bz bs u),S2++[.lst ((ar.map (ag bs u)).map aA)])) ?_ (k _ ((Ka.push.trans k2).trans .push))]
  (dsimp only[Bi.fn,yI]; simp only[aD ak,Ay])
  rw[Hf #[by have:=iW (ar.map (ag bs u)); unfold eh; omega,gh _]]
  unfold bz;have hlt:gP ((ar.map (ag bs u)).map aL) < (ar.map (ag bs u)).length:=Lg (cX _ _) (by decide:5 < 6)
  rw[GM,am (d:=[]) hlt];rfl
end
abbrev ac (xs:Gy G1):Gy W:=xs.map W.int
abbrev ft (us:Gy Wd):Gy Wd:=d6 (lH (us.map aL)) [] us
def oU {α β:Type}{lt:GJ->GJ->Hi}{d:α}{d':β}{f:α->β}{us:Gy α}:d6 lt d' (us.map f)=(d6 lt d us).map f:=by
 unfold d6;rw[Gz];split
 ·rfl
 ·rw[HL];show HH λi hi=>?_
  have hl:i < us.length:=mQ ∅ i hi
  simp[hl]
def qv {S:aa}{x:W}{us:Gy Wd}(h:cJ S x=gV (us.map aA))(h64:us.length < 64)(hne:∀u∈us,u≠[]):eV [x] S=gV (.ref S.length,S++[.lst ((ft us).map aA)]):=by
 have ok:iH (us.map aL)=true:=by
  unfold iH;simp only[GK,ID,Hm,Gz];exact#[#[h64,by have:=iW us; unfold eh; omega],.inr #[Cj us hne,gh us]]
 simp only[eV,h,Ay];rw[Hf ok,oU (d:=[])];rfl
abbrev bY (ms ns:Gy Hc)(bs:Gy G1)(us:Gy Wd):W:=.tup [.tup (ms.map W.str),.tup (G3 aF ns bs),.tup (us.map aA)]
structure GoodN (ms ns:Gy Hc):Prop where
 name:∀y∈ms++ns,Name y
 nd:(qt++(ms++ns)).Nodup
def GoodW.nil {a n:GJ}:GoodW a n []:=#[λk p h=>(by simp at h),λk p h=>(by simp at h),λk p h=>(by simp at h)]
def GoodW.snoc {a n:GJ}{u:Wd}{m:G1}{ws:Gy G1}(h:GoodW a n u)(h1:0<=m/\m < a)(h2:ws.length=u.length)(h3:∀w∈ws,0<=w/\w < (n:G1)):GoodW a n (u++[(m,ws)]):=by
 have key:∀(k:GJ) (p:Pt),(u++[(m,ws)])[k]?=gV p->u[k]?=gV p\/(k=u.length/\p=(m,ws)):=λk p e=>by
  rcases No k u.length with hk|hk
  ·rw[Hr hk]at e; exact .inl e
  ·rw[Ii hk]at e;have:k - u.length=0:=by
    have:=(G9.mp e).1;simp at this; omega
   rw[this]at e;cases e;exact .inr #[∅,rfl]
 show#[λk p e=>?_,λk p e=>?_,λk p e=>?_] <;> rcases key k p e with e|⟨rfl,rfl⟩
 ·exact h.mark k p e
 ·exact h1
 ·exact h.len k p e
 ·exact h2
 ·exact h.way k p e
 ·exact h3
def GoodB.inv {bs:Gy G1}(h:GoodB bs):∀k:GJ,k < bs.length->bs.getD (bs.getD k 0).toNat 0=k:=by
 rcases h with rfl|rfl|rfl|rfl|rfl|rfl <;> decide
def GoodB.at {bs:Gy G1}(h:GoodB bs){x:G1}(h0:0<=x)(h1:x < bs.length):bs[x.toNat]?=gV (bs.getD x.toNat 0)/\0<=bs.getD x.toNat 0/\bs.getD x.toNat 0 < bs.length:=by
 obtain⟨b,h2,h3⟩:=h.rng x.toNat ∅
 rw[getD_some h2];exact#[h2,h3]
def qw {S:aa}{x:W}{us:Gy Wd}{Q:QW}(h:cJ S x=gV (us.map aA))(h64:us.length < 64)(hne:∀u∈us,u≠[])(q:Q (.ref S.length,S++[.lst ((ft us).map aA)])):wO (Bi.sorted.fn [x] S) Q:=by
 show ab ?_ q;exact qv h h64 hne
abbrev wH:Gy (GJ×GJ):=[(1,1),(2,1),(3,1),(1,2),(1,2),(2,2),(2,2),(3,2),(1,3),(1,3),(2,3)]
def wI:∀p∈wH,1<=p.1/\p.1<=3/\1<=p.2/\p.2<=3/\p.1*p.2<=6:=by decide
abbrev kE:GJ->Gy (Gy G1)
 | 1=>[[0]]
 | 2=>[[0,1],[1,0]]
 | _=>[[0,1,2],[1,0,2],[0,2,1]]
def wJ:∀n:GJ,1<=n->n<=3->(∀b∈kE n,GoodB b/\b.length=n)/\0 < (kE n).length/\(kE n).length<=3
 | 1,_,_=>#[λb h=>by cases G8.mp h; exact#[.inl rfl,rfl],#v[],#v[]]
 | 2,_,_=>#[λb h=>by
   rcases Hj.mp h with rfl|h
   ·exact#[.inr (.inl rfl),rfl]
   ·cases G8.mp h; exact#[.inr (.inr (.inl rfl)),rfl],#v[],#v[]]
 | 3,_,_=>#[λb h=>by
   rcases Hj.mp h with rfl|h
   ·exact#[.inr (.inr (.inr (.inl rfl))),rfl]
   ·rcases Hj.mp h with rfl|h
    ·exact#[.inr (.inr (.inr (.inr (.inl rfl)))),rfl]
    ·cases G8.mp h; exact#[.inr (.inr (.inr (.inr (.inr rfl)))),rfl],#v[],#v[]]
 | 0,h,_=>absurd h #v[]
 | n+4,_,h=>absurd h ∅
section
variable{defs:Gy (Hc×Df)}{fuel d:GJ}{S:aa}{r:GJ}{Q:QW}
def sf (G:Gen defs)(hf:Fl S r)(k:∀(a n:GJ) S',1<=a->a<=3->1<=n->n<=3->a*n<=6->Fl S' r->Kp r S S'->Q (.tup [.int a,.int n],S')) :
  wO (aP (au defs fuel (d+2)) "_law_sizes" 1 [.ref r] S) Q:=by
 show az G.sizes rfl rfl λQ' hR=>?_
 change wZ _ _ eB [gV (.ref r),td] S Q';dsimp only[eB];show st ?_;dsimp only[wS,wE,wA,GX];show st ?_;left;show aR (d:=d) G.pick (hf.ka .push) #v[] #v[] λv S1 v0 v1 f1 k1=>?_
 have e:=k1.get _ _ (JC hf.lt) ak;obtain⟨p,hp,ep⟩:=nu (f:=λp:GJ×GJ=>W.tup [.int p.1,.int p.2]) (xs:=wH) (i:=v.toNat) (by change v.toNat < 11; omega)
 obtain⟨a1,a3,n1,n3,an⟩:=wI p hp;exact eD e v0 ep (hR _ _ (k _ _ _ a1 a3 n1 n3 an f1 (Kp.push.trans k1)))
def sg (G:Gen defs){n:GJ}(hf:Fl S r)(h1:1<=n)(h3:n<=3)(k:∀(bs:Gy G1) S',GoodB bs->bs.length=n->Fl S' r->Kp r S S'->Q (.tup (ac bs),S')) :
  wO (aP (au defs fuel (d+2)) "_law_backs" 2 [.ref r,.int n] S) Q:=by
 show az G.backs rfl rfl λQ' hR=>?_
 replace k:∀(bs:Gy G1) S',GoodB bs->bs.length=n->Fl S' r->Kp r S S'->Q' (.rt (.tup (ac bs)),S'):=λz S' a b c e=>hR _ _ (k z S' a b c e)
 clear hR;change wZ _ _ eA [gV (.ref r),gV (.int n),td] S Q';dsimp only[eA];nofun
 left;dsimp only[kA,aM];obtain⟨hg,g0,g3⟩:=wJ n h1 h3;have fin:∀(t:GJ) (S1:aa),S.length<=t->S1[t]?=gV (.lst ((kE n).map λb=>.tup (ac b)))->Ka S S1->K [gV (.ref r),gV (.int n),gV (.ref t)] S1:=by
  intro t S1 ht et ka;show hK _ _ (st ?_);left;show gI et ?_;rw[Gz];show aR (d:=d) G.pick (hf.ka ka) ∅ ∅ λv S2 v0 v1 f2 k2=>?_
  have e2:=k2.get _ _ (by have:=hf.lt; omega) et
  obtain⟨b,hb,eb⟩:=nu (f:=λb:Gy G1=>W.tup (ac b)) (xs:=kE n) (i:=v.toNat) ∅
  exact eD e2 v0 eb (k b S2 (hg b hb).1 (hg b hb).2 f2 ((ka.kp r).trans k2))
 clear hK g0 g3 hg;rcases(show n=1\/n=2\/n=3 by omega)with rfl|rfl|rfl
 ·exact dE (i:=0) ak rfl (fin _ _ (GY _) (aq (aq (aq ak))) (Ka.push.trans (Ka.push.trans (Ka.push.trans .push))))
 ·exact dE (i:=1) ak rfl (fin _ _ (by simp) (aq (aq ak)) (Ka.push.trans (Ka.push.trans (Ka.push.trans .push))))
 ·exact dE (i:=2) ak rfl (fin _ _ (by simp only[GQ]; omega) (aq ak) (Ka.push.trans (Ka.push.trans (Ka.push.trans .push))))
def gk (hfu:20 < fuel)(G:Gen defs){a:GJ}{bs:Gy G1}{x:W}{us:Gy Wd}(hf:Fl S r)(ha:a<=3)(hb:bs.length<=3)(hx:∀S',Kp r S S'->cJ S' x=gV (us.map aA))(h64:us.length < 64)(hne:∀u∈us,u≠[])
  (k:∀(ms ns:Gy Hc) S',ms.length=a->ns.length=bs.length->GoodN ms ns->Fl S' r->Kp r S S'->Q (bY ms ns bs (ft us),S')) :
  wO (aP (au defs fuel (d+5)) "_law_rule_of" 4 [.ref r,.int a,.tup (ac bs),x] S) Q:=by
 show az G.rule_of rfl rfl λQ' hR=>?_
 replace k:∀(ms ns:Gy Hc) S',ms.length=a->ns.length=bs.length->GoodN ms ns->Fl S' r->Kp r S S'->Q' (.rt (bY ms ns bs (ft us)),S'):=λz y S' a b c e f=>hR _ _ (k z y S' a b c e f)
 clear hR;change wZ _ _ db [gV (.ref r),gV (.int a),gV (.tup (ac bs)),gV x,td,td] S Q';have hbl:(ac bs).length=bs.length:=Gz ..;dsimp only[db];nofun
 left;show aY ?_;rw[hbl];dsimp only[dX,aM];show zI (d:=d) (m:=a+bs.length) hfu G hf ∅ λys S1 q2 q3 q4 f1 k1=>hK _ _ ?_
 clear hK K;have hzl:(G3 aF (ys.drop a) bs).length=bs.length:=by
  rw[Jh,JR]; omega
 nofun
 dsimp only[wS,wE,wA,GX];show ey (bs.length:G1) (λk zs Z2 S2=>(∃a1,Z2=[td,a1,gV (.tup (ac bs)),gV (.int a),gV (.tup (ys.map W.str))])/\zs=((G3 aF (ys.drop a) bs).take k)/\S2=S1) rfl rfl rfl ∅ ?_ ?_ ?_
 ·dsimp only[wE,wA,wV,wG];show aY ?_;rw[hbl];exact#[rfl,#[td,rfl],rfl,rfl]
 ·rintro i zs Z2 S2 hi ⟨⟨a1,rfl⟩,rfl,rfl⟩;clear hK;have hi':i < bs.length:=∅
  have h1:a+i < ys.length:=∅
  dsimp only[fu,wC,wE,wA,wV,wG,GX,dX,aM];show#[λ_=>ah ∅ (w:=.str ys[a+i]) ?_ (ah ∅ (w:=.int bs[i]) ?_ #[#[_,rfl],?_,rfl]),λz=>by cases z]
  ·rw[show((a:G1)+(i:G1)).toNat=a+i by omega,GM,G5 h1]; rfl
  ·unfold ac;rw[G0,GM,G5 hi']; rfl
  ·have ez:(G3 aF (ys.drop a) bs)[i]?=gV (aF ys[a+i] bs[i]):=iX (by rw[List.getElem?_drop]; exact G5 h1) (G5 hi')
   rw[HK,ez];rfl
 ·rintro zs Z2 S2 ⟨_,rfl,rfl⟩;rw[G0,<- hzl,HY];show#[lp ∅,cF ak (hK _ _ ?_)]
  clear hK K;show st ?_;dsimp only[wS,wE,wA,wP,wV,wG,wN];have hs:mE (.tup (ys.map W.str)) td (gV (a:G1)) (S2++[O.lst (G3 aF (ys.drop a) bs)])=gV (.tup ((ys.take a).map W.str),S2++[O.lst (G3 aF (ys.drop a) bs)]):=by
   simp only[mE,eL];rw[Kr]
  show ab hs (qw (hx _ (k1.trans .push)) h64 hne (cF ak ?_));show k (ys.take a) (ys.drop a) _ ?_ ?_ #[?_,?_] ((f1.ka .push).ka .push) (k1.trans (Kp.push.trans .push))
  ·rw[Hu]; omega
  ·rw[JR]; omega
  ·rw[KP]; exact q3
  ·rw[KP]; exact q4
def eY (hfu:20 < fuel)(G:Gen defs){a:GJ}{bs:Gy G1}(hf:Fl S r)(ha:a<=3)(hb:bs.length<=3)
  (k:∀(ms ns:Gy Hc) S',ms.length=a->ns.length=bs.length->GoodN ms ns->Fl S' r->Kp r S S'->Q (bY ms ns bs [],S')) :
  wO (aP (au defs fuel (d+5)) "_law_rule_of" 4 [.ref r,.int a,.tup (ac bs),.tup []] S) Q:=
 gk hfu G hf ha hb (us:=[]) (λ_ _=>rfl) #v[] (λ_ h=>nomatch h) k
def draws {M:Hc->FF}{Z:Fm}{elt e:E}{cap:Gy (GH GJ)}{n i:GJ}{R:Fm}(oe:dq elt=true)(oi:dq e=true)(h1:i<=1000)(hc:d7 cap Z=td::td::R)(hf:Fl S r)(he:∀Q:QW,Q (.int i,S)->wE M e Z S Q)
  (hp:∀(a:GH W) (S1:aa) (Q:QW),Fl S1 r->(∀v S',0<=v->v < (n:G1)->Fl S' r->Kp r S1 S'->Q (.int v,S'))->wE M elt (td::a::R) S1 Q)
  (k:∀(vs:Gy G1) S',vs.length=i->(∀w∈vs,0<=w/\w < (n:G1))->Fl S' r->Kp r S S'->Q (.ref S'.length,S'++[.lst (ac vs)])) :
  Wp (aC M (.comp elt (.nm 1) (.rng #v[e]) .nil cap) Z S) Q:=by
 show ey (i:G1) (λj ys Z2 S3=>(∃a1,Z2=td::a1::R)/\(∃vs:Gy G1,ys=ac vs/\vs.length=j/\∀w∈vs,0<=w/\w < (n:G1))/\Fl S3 r/\Kp r S S3) oi oe rfl ∅ (he _ #[rfl,#[td,hc],#[[],rfl,rfl,λ_ h=>nomatch h],hf,.refl]) ?_ ?_
 ·rintro j ys Z2 S3 hj ⟨⟨a1,rfl⟩,⟨vs,rfl,hvl,hv⟩,f3,k3⟩;show#[λ_=>hp _ _ _ f3 λv S4 v0 v1 f4 k4=>#[#[_,rfl],#[vs++[v],(Hk (l₁:=vs) (l₂:=[v])).symm,by rw[GQ,hvl]; rfl,λw hw=>?_],f4,k3.trans k4],λz=>by cases z]
  rcases HF.mp hw with h|h
  ·exact hv w h
  ·rw[G8.mp h]; exact#[v0,v1]
 ·rintro ys Z2 S3 ⟨_,⟨vs,rfl,hvl,hv⟩,f3,k3⟩;rw[G0]at hvl;exact#[lp (by rw[show(ac vs).length=vs.length from Gz ..]; omega),k vs S3 hvl hv f3 k3]
def im (G:Gen defs){a n:GJ}(hf:Fl S r)(ha:0 < a)(ha3:a<=3)(hn:0 < n)(hn3:n<=3)(k:∀(u:Wd) S',u.length=3->GoodW a n u->Fl S' r->Kp r S S'->Q (aA u,S')) :
  wO (aP (au defs fuel (d+2)) "_law_free_three" 3 [.ref r,.int a,.int n] S) Q:=by
 show az G.free_three rfl rfl λQ' hR=>?_
 replace k:∀(u:Wd) S',u.length=3->GoodW a n u->Fl S' r->Kp r S S'->Q' (.rt (aA u),S'):=λz S' a b c e=>hR _ _ (k z S' a b c e)
 clear hR;change wZ _ _ bX [gV (.ref r),gV (.int a),gV (.int n),td,td] S Q';dsimp only[bX];have hrt:=hf.lt;show st ?_;dsimp only[wS,wE,wA,GX];nofun
 show cu 3 (λk Z S'=>∃a4 u,Z=[gV (.ref r),gV (.int a),gV (.int n),gV (.ref S.length),a4]/\S'[S.length]?=gV (.lst (u.map aK))/\u.length=k/\GoodW a n u/\Fl S' r/\Kp r S S') rfl rfl #v[] #[rfl,td,[],rfl,ak,rfl,.nil,hf.ka .push,.push] ?_ ?_
 ·rintro i Z S1 hi ⟨a4,u,rfl,e1,hul,hu,f1,k1⟩ Q2 hn' _;clear hK;show st ?_;left;show#[cg e1,aR (d:=d) G.pick f1 ∅ ∅ λv S2 v0 v1 f2 k2=>?_]
  have e2:=k2.get _ _ ∅ e1
  show draws (n:=n) (i:=i) (R:=[gV (.ref r),gV (.int n)]) rfl rfl ∅ rfl f2 (λQ q=>q) (λa S1 Q f q=>aR (d:=d) G.pick f ∅ ∅ q) λvs S3 hvl hv f3 k3=>?_
  have e3:=aq (u:=O.lst (ac vs)) (k3.get _ _ ∅ e2)
  show cF ak (jl e3 (by rw[Gz]; omega) (bg (hn' _ _ #[_,u++[(v,vs)],rfl,?_,by rw[GQ,hul]; rfl,hu.snoc #[v0,v1] (hvl.trans hul.symm) hv,(f3.ka .push).own hrt,(k1.trans (k2.trans (k3.trans .push))).late (GY _)])))
  rw[br e3,Hk]; rfl
 ·rintro Z S1 ⟨a4,u,rfl,e1,hul,hu,f1,k1⟩;show hK _ _ (st ?_);left;exact cF e1 (k u _ hul hu f1 k1)
end
abbrev d8 (n:GJ):Gy G1:=(GL n).map λ(k:GJ)=>(k:G1)
abbrev oV (a n:GJ):Gy Wd:=(d8 a).flatMap λm0=>(d8 a).flatMap λm1=>(d8 a).flatMap λm2=>(d8 n).flatMap λw1=>(d8 n).flatMap λw2=>(d8 n).map λw3=>[(m0,[]),(m1,[w1]),(m2,[w2,w3])]
abbrev aE (a:GJ)(bs:Gy G1):Gy Wd:=((oV a bs.length).map (bz bs)).eraseDups
def cN {n:GJ}{x:G1}(h0:0<=x)(h1:x < n):x∈d8 n:=G4.mpr #[x.toNat,G2.mpr ∅,∅]
def tU {a n:GJ}{u:Wd}(h:GoodW a n u)(h3:u.length=3):u∈oV a n:=by
 match u,h3 with
 | [(m0,w0),(m1,w1),(m2,w2)],_=>
  have l0:=h.len 0 _ rfl;have l1:=h.len 1 _ rfl;have l2:=h.len 2 _ rfl;simp only at l0 l1 l2
  match w0,l0 with
  | [],_=>
   match w1,l1 with
   | [x],_=>
    match w2,l2 with
    | [y,z],_=>
     have a0:=h.mark 0 _ rfl;have a1:=h.mark 1 _ rfl;have a2:=h.mark 2 _ rfl;have b1:=h.way 1 _ rfl x (by simp)
     have b2:=h.way 2 _ rfl y (by simp)
     have b3:=h.way 2 _ rfl z (by simp)
     unfold oV;simp only[Ke,G4];exact#[m0,cN a0.1 a0.2,m1,cN a1.1 a1.2,m2,cN a2.1 a2.2,x,cN b1.1 b1.2,y,cN b2.1 b2.2,z,cN b3.1 b3.2,rfl]
def jG {a:GJ}{bs:Gy G1}{u:Wd}(h:GoodW a bs.length u)(h3:u.length=3):bz bs u∈aE a bs:=by
 unfold aE;rw[JZ];exact G4.mpr #[u,tU h h3,rfl]
structure SizeOk (a:GJ)(bs:Gy G1):Prop where
 pos:0 < a
 good:GoodB bs
 most:a*bs.length<=6
 a3:a<=3
def FP:(aE 1 [0]).length < 64/\(aE 2 [0]).length < 64/\(aE 3 [0]).length < 64:=by decide +kernel
def EN:(aE 1 [0,1]).length < 64/\(aE 2 [0,1]).length < 64/\(aE 1 [1,0]).length < 64/\(aE 2 [1,0]).length < 64:=by decide +kernel
def FQ:(aE 1 [0,1,2]).length < 64/\(aE 1 [1,0,2]).length < 64/\(aE 1 [0,2,1]).length < 64:=by decide +kernel
def FR:(aE 3 [0,1]).length < 64:=by decide +kernel
def FU:(aE 3 [1,0]).length < 64:=by decide +kernel
def FV:(aE 2 [0,1,2]).length < 64:=by decide +kernel
def FW:(aE 2 [1,0,2]).length < 64:=by decide +kernel
def FX:(aE 2 [0,2,1]).length < 64:=by decide +kernel
def ny {a:GJ}{bs:Gy G1}(h:SizeOk a bs):(aE a bs).length < 64:=by
 obtain⟨h0,hb,hm,h3⟩:=h;have ha:a=1\/a=2\/a=3:=∅
 rcases hb with rfl|rfl|rfl|rfl|rfl|rfl <;> rcases ha with rfl|rfl|rfl
 ·exact FP.1
 ·exact FP.2.1
 ·exact FP.2.2
 ·exact EN.1
 ·exact EN.2.1
 ·exact FR
 ·exact EN.2.2.1
 ·exact EN.2.2.2
 ·exact FU
 ·exact FQ.1
 ·exact FV
 ·simp at hm
 ·exact FQ.2.1
 ·exact FW
 ·simp at hm
 ·exact FQ.2.2
 ·exact FX
 ·simp at hm
def wK (bs:Gy G1)(u:Wd):∃t∈ar,bz bs u=ag bs u t:=by
 have h7:(ar.map (ag bs u)).length=6:=by rw[Gz]; rfl
 have h8:((ar.map (ag bs u)).map aL).length=6:=by rw[Gz,h7]
 have hlt:gP ((ar.map (ag bs u)).map aL) < (ar.map (ag bs u)).length:=by
  unfold gP;have h6:=cX (lH ((ar.map (ag bs u)).map aL)) (((ar.map (ag bs u)).map aL).length - 1);rw[h7]; omega
 unfold bz;rw[getD_some (G5 hlt)];obtain⟨t,ht,e⟩:=G4.mp (HA hlt);exact#[t,ht,e.symm]
def zJ (bs:Gy G1)(u:Wd):bz bs u≠[]:=by
 obtain⟨t,ht,e⟩:=wK bs u;rw[e];have:∀t∈ar,t≠[]:=by decide
 have h:=this t ht;intro z;have hl:(ag bs u t).length=t.length:=by simp[ag]
 rw[z]at hl;exact h (JT.mp hl.symm)
def oW:∀ {xs ys:Gy G1},xs.map T.int=ys.map T.int->xs=ys
 | [],[],_=>rfl
 | [],_::_,h=>by cases h
 | _::_,[],h=>by cases h
 | x::xs,y::ys,h=>by
  rw[HX,HX]at h;injection h with h1 h2
  injection h1 with h1
  rw[h1,oW h2]
def zK {p q:Pt}(h:gJ p=gJ q):p=q:=by
 unfold gJ at h;injection h with h
 injection h with h1 h2
 injection h1 with h1
 injection h2 with h2 _
 injection h2 with h2
 exact OS h1 (oW h2)
def io {u v:Wd}(h:aL u=aL v):u=v:=by
 unfold aL at h;injection h with h
 have inj:∀ {u v:Wd},u.map gJ=v.map gJ->u=v:=by
  intro u
  induction u with
  | nil=>intro v h; cases v with
   | nil=>rfl
   | cons _ _=>cases h
  | cons p u ih=>intro v h; cases v with
   | nil=>cases h
   | cons q v=>
    rw[HX,HX]at h;injection h with h1 h2
    rw[zK h1,ih h2]
 exact inj h
def iY {U:Gy (T×W)}{k:T}{v:W}:(d4 U k v).map (·.1)=if k∈U.map (·.1)then U.map (·.1)else U.map (·.1)++[k]:=by
 have hany:(U.any λp=>decide (p.1=k))=decide (k∈U.map (·.1)):=by
  induction U with
  | nil=>rfl
  | cons p U ih=>
   rw[Jm,ih,HX]
   by_cases e:p.1=k
   ·subst e; simp
   ·rw[Hs e,MJ];have:(k∈p.1::U.map (·.1))=(k∈U.map (·.1)):=by simp[Ne.symm e]
    simp only[this]
 unfold d4;rw[hany]
 by_cases h:k∈U.map (·.1)
 ·rw[Hf h,Hf (HI h),HL];show HH λp _=>?_
  show(if p.1=k then(p.1,v)else p).1=p.1
  split <;> rfl
 ·rw[Hl h,Hl (by simpa using h),Hk]
  rfl
structure FigD (L:Gy Wd)(U:Gy (T×W))(fs:Gy Wd):Prop where
 keys:U.map (·.1)=fs.map aL
 nd:fs.Nodup
 mem:∀f∈fs,f∈L
def FigD.nil {L:Gy Wd}:FigD L [] []:=#[rfl,Mp,λ_ h=>nomatch h]
def FigD.len {L:Gy Wd}{U:Gy (T×W)}{fs:Gy Wd}(h:FigD L U fs):U.length=fs.length/\fs.length<=L.length:=by
 have:=congrArg NO h.keys;rw[Gz,Gz]at this;exact#[this,iV fs L h.nd h.mem]
def FigD.put {L:Gy Wd}{U:Gy (T×W)}{fs:Gy Wd}{f:Wd}{v:W}(h:FigD L U fs)(hf:f∈L):∃fs',FigD L (d4 U (aL f) v) fs':=by
 by_cases hm:f∈fs
 ·show#[fs,?_,h.nd,h.mem];rw[iY,Hf (by rw[h.keys]; exact G4.mpr #[f,hm,rfl]),h.keys]
 ·show#[fs++[f],?_,?_,λg hg=>?_]
  ·rw[iY,Hl,h.keys,Hk]
   ·rfl
   ·rw[h.keys];intro z;obtain⟨g,hg,e⟩:=G4.mp z;exact hm (io e ▸ hg)
  ·rw[Lv];show#[h.nd,by simp,λa ha b hb e=>?_]
   rw[G8.mp hb]at e;exact hm (e ▸ ha)
  ·rcases HF.mp hg with h'|h'
   ·exact h.mem g h'
   ·rw[G8.mp h']; exact hf
def FigD.items {S:aa}{t:GJ}{L:Gy Wd}{U:Gy (T×W)}{fs:Gy Wd}(h:FigD L U fs)(e:S[t]?=gV (.dic U)):cJ S (.ref t)=gV (fs.map aA):=by
 simp only[cJ,nq e,bV e,Hv];congr 1;have:(U.map (·.1)).map T.w=(fs.map aL).map T.w:=by rw[h.keys]
 rw[HL,HL]at this
 calc U.map (λp=>p.1.w)=U.map (T.w∘λx=>x.1):=rfl
  _=fs.map (T.w∘aL):=this
  _=fs.map aA:=by
   show HH λf _=>?_
   exact ww f
def kF {a:GJ}{bs:Gy G1}{f:Wd}(h:f∈aE a bs):f≠[]:=by
 unfold aE at h;rw[JZ]at h;obtain⟨u,_,rfl⟩:=G4.mp h;exact zJ bs u
def wL {S:aa}{t:GJ}{U:Gy (T×W)}{u:Wd}{v:W}(h:S[t]?=gV (.dic U))(hl:U.length < sizeLine):hX (.ref t) (aA u) v S=gV (S.set t (.dic (d4 U (aL u) v))):=by
 have hk:=nv u;unfold aA at hk ⊢
 (dsimp only[hX,mL]; simp only[h,hk])
 rw[Hf hl]
structure RuleAt (a:GJ)(bs:Gy G1)(ms ns:Gy Hc)(gs:Gy Wd):Prop where
 size:SizeOk a bs
 ml:ms.length=a
 nl:ns.length=bs.length
 nm:GoodN ms ns
 nd:gs.Nodup
 mem:∀g∈gs,g∈aE a bs
abbrev cY (w:W):Prop:=∃a bs ms ns gs,w=bY ms ns bs (ft gs)/\RuleAt a bs ms ns gs
section
variable{M:Hc->FF}{fuel:GJ}{Z:Fm}{S:aa}{K:Fm->aa->Prop}{Q:QO}
def kG {i0:GJ}{e:E}{b:Ss}(oe:dq e=true)(ok:fM b=true)(he:wE M e Z S λp=>∃(j:G1) (I:GJ->Fm->aa->Prop),p.1=.int j/\(-(2 ^ 62)<=j/\j < 2 ^ 62)/\I 0 Z p.2/\
  (∀(i:GJ) (Z:Fm) (S:aa),(i:G1) < j->I i Z S->tQ M fuel b (Z.set i0 (gV (.int i))) S (I (i+1)) Q)/\∀Z S,I j.toNat Z S->K Z S):Wp (fB M fuel (.loop (.nm i0) (.rng #v[e]) b) Z S) (oQ K Q):=by
 obtain⟨w,S1,e1,j,I,rfl,hj,h0,hs,hend⟩:=bE oe he;have hl:(cQ 0 j.toNat).length=j.toNat:=by simp[cQ]
 show fN (mi:=.its (cQ 0 j.toNat)) (S1:=S1) (xs:=cQ 0 j.toNat) I ok ?_ (λ_ _ _ _=>rfl) rfl h0 (λi w Z S hw hI=>?_) λZ S hI=>hend Z S (hl ▸ hI)
 ·(dsimp only[iP,cR,dw,ib,qg]; simp only[e1])
  rw[Hf hj]
 ·rw[dU]at hw;split at hw
  ·rename_i hk;cases hw;rw[KN];exact hs i Z S ∅ hI
  ·cases hw
def eM {tg:Tg}{e:E}{b:Ss}(oe:dq e=true)(ok:fM b=true)(he:wE M e Z S λp=>∃(t:GJ) (xs:Gy W) (I:GJ->Fm->aa->Prop),p.1=.ref t/\I 0 Z p.2/\(∀i Z S,I i Z S->S[t]?=gV (.lst xs))/\
  (∀(i:GJ) (w:W) (Z:Fm) (S:aa),xs[i]?=gV w->I i Z S->wO (fX tg w Z S) λq=>tQ M fuel b q.1 q.2 (I (i+1)) Q)/\∀Z S,I xs.length Z S->K Z S):Wp (fB M fuel (.loop tg (.seq e) b) Z S) (oQ K Q):=by
 obtain⟨w,S1,e1,t,xs,I,rfl,h0,hat,hs,hend⟩:=bE oe he;exact fN (mi:=.live t) (S1:=S1) I ok (by simp only[iP,eu,e1,aD (hat _ _ _ h0)]) (λi Z S h=>by simp only[MI.at,aD (hat _ _ _ h)]) (by simp only[MI.len,aD (hat _ _ _ h0),Hv]) h0 hs hend
end
section
variable{defs:Gy (Hc×Df)}{fuel d:GJ}{S:aa}{r:GJ}{Q:QW}
def sh {q:GJ}{a:GJ}{bs:Gy G1}{ms ns:Gy Hc}{fs0:Gy Wd}{U:Gy (T×W)}{fs:Gy Wd}(h3:S[q]?=gV (.dic U))(h4:FigD (aE a bs) U fs)(hs:SizeOk a bs)(hml:ms.length=a)(hnl:ns.length=bs.length)(hnm:GoodN ms ns)(k:∀w S',cY w->Ka S S'->Q (w,S')) :
  wO (jy (bY ms ns bs fs0) (.int 0) S) λp=>wO (jy (bY ms ns bs fs0) (.int 1) p.2) λq'=>wO (Bi.sorted.fn [.ref q] q'.2) λs=>wO (Bi.tuple.fn [s.1] s.2) λz=>Q (.tup [p.1,q'.1,z.1],z.2):=by
 show ah #v[] rfl (ah #v[] rfl ?_)
 have hl:=h4.len;exact qw (h4.items h3) (by have:=ny hs; omega) (λf hf=>kF (h4.mem f hf)) (cF ak (k _ _ #[a,bs,ms,ns,fs,rfl,hs,hml,hnl,hnm,h4.nd,h4.mem] .push))
def si {q:GJ}{a:GJ}{bs:Gy G1}{u:Wd}{U:Gy (T×W)}{fs:Gy Wd}{Q:aa->Prop}(h3:S[q]?=gV (.dic U))(h4:FigD (aE a bs) U fs)(hs:SizeOk a bs)(hu:GoodW a bs.length u)(hu3:u.length=3)
  (k:∀o,(∃U fs,(S.set q o)[q]?=gV (.dic U)/\FigD (aE a bs) U fs)->Q (S.set q o)):wO (hX (.ref q) (aA (bz bs u)) (.bl true) S) Q:=by
 have hl:=h4.len;have:=ny hs;obtain⟨fs',h5⟩:=h4.put (v:=.bl true) (jG hu hu3);exact ab (wL h3 (by rw[HR]; omega)) (k _ #[_,fs',br h3,h5])
def qx (hfu:20 < fuel)(G:Gen defs)(hf:Fl S r)(k:∀w S',cY w->Fl S' r->Kp r S S'->Q (w,S')):wO (aP (au defs fuel (d+6)) "_law_any_rule" 1 [.ref r] S) Q:=by
 show az G.any_rule rfl rfl λQ' hR=>?_
 replace k:∀w S',cY w->Fl S' r->Kp r S S'->Q' (.rt w,S'):=λz S' a b c=>hR _ _ (k z S' a b c)
 clear hR;change wZ _ _ cL [gV (.ref r),td,td,td,td,td] S Q';dsimp only[cL];nofun
 left;show sf (d:=d+3) G hf λa n S1 a1 a3 n1 n3 an f1 k1=>?_
 dsimp only[wU];show ab (show cf [1,2] [.int a,.int n] [gV (.ref r),td,td,td,td,td]=gV [gV (.ref r),gV (.int a),gV (.int n),td,td,td]from rfl) (hK _ _ ?_)
 clear hK K;nofun
 left;show sg (d:=d+3) G f1 n1 n3 λbs S2 hb hbl f2 k2=>?_
 have hsz:SizeOk a bs:=#[∅,hb,by rw[hbl]; exact an,a3]
 show eY (d:=d) hfu G f2 a3 ∅ λms ns S3 hml hnl hnm f3 k3=>hK _ _ ?_
 clear hK K;have hrt:=f3.lt;replace k3:Kp r S S3:=k1.trans (k2.trans k3);clear k1 k2 f1 f2;show st ?_;dsimp only[wS,wE,GX];nofun
 show kG rfl rfl ?_;dsimp only[wE,wA,wV,wG];show aR (d:=d+4) G.pick (f3.ka .push) #v[] #v[] λv S4 v0 v9 f4 k4=>?_
 show#[v,λk Z S'=>(∃a5,Z=[gV (.ref r),gV (.int a),gV (.int n),gV (bY ms ns bs []),gV (.ref S3.length),a5])/\(∃U fs,S'[S3.length]?=gV (.dic U)/\FigD (aE a bs) U fs)/\Fl S' r/\Kp r S S',rfl,∅,#[#[td,rfl],#[[],[],k4.get _ _ ∅ ak,.nil],f4,(k3.trans .push).trans k4],?_,?_]
 ·rintro i Z S5 hi ⟨⟨a5,rfl⟩,⟨U,fs,e5,hd⟩,f5,k5⟩ Q2 hn _;clear hK;show st ?_;left;show im (d:=d+3) G f5 ∅ a3 ∅ n3 λu S6 hu3 hu f6 k6=>?_
  have hu:GoodW a bs.length u:=hbl.symm ▸ hu;show fQ (d:=d+2) G hb hnl hu hu3 λS7 k7=>?_
  have e7:=k7.get _ _ (k6.get _ _ ∅ e5)
  exact si e7 hd hsz hu hu3 λo ho=>bg (hn _ _ #[#[_,rfl],ho,(f6.ka k7).own hrt,((k5.trans k6).trans (k7.kp r)).late k3.len])
 ·rintro Z S5 ⟨⟨a5,rfl⟩,⟨U,fs,e5,hd⟩,f5,k5⟩;show hK _ _ (st ?_);left;exact sh (Q:=λp=>Q' (.rt p.1,p.2)) e5 hd hsz hml hnl hnm λw S6 hw k6=>k w S6 hw (f5.ka k6) (k5.trans (k6.kp r))
end
abbrev eN (t:G1×G1×G1):W:=.tup [.int t.1,.int t.2.1,.int t.2.2]
abbrev oX (a:GJ)(t:G1×G1×G1):Prop:=(0<=t.1/\t.1 < a)/\(0<=t.2.1/\t.2.1 < a)/\(0<=t.2.2/\t.2.2 < a)
abbrev wM (k:G1):Wd:=[(k,[]),(k,[0]),(k,[0,0])]
def FY:∀k∈d8 1,wM k∈aE 1 [0]:=by decide +kernel
def FZ:∀k∈d8 2,wM k∈aE 2 [0]:=by decide +kernel
def F0:∀k∈d8 3,wM k∈aE 3 [0]:=by decide +kernel
def zL {a:GJ}{k:G1}(h0:1<=a)(h3:a<=3)(hk:0<=k)(hk2:k < a):wM k∈aE a [0]:=by
 have ha:a=1\/a=2\/a=3:=∅
 rcases ha with rfl|rfl|rfl
 ·exact FY k (cN hk hk2)
 ·exact FZ k (cN hk hk2)
 ·exact F0 k (cN hk hk2)
def zM {a b:G1}(h:wM a=wM b):a=b:=by
 unfold wM at h;injection h with h1 h2
 injection h1
def ip:GoodB [0]:=.inl rfl
def Az {S:aa}{i j:GJ}{xs:Gy W}(h1:S[i]?=gV (.lst xs))(h2:S[j]?=gV (.lst [])):bo .eq (.ref i) (.ref j) S=gV (.bl xs.isEmpty,S):=by
 show(iE S (19+1) (.ref i) (.ref j)).map _=_
 (dsimp only[iE]; simp only[bx h1,bx h2])
 cases xs with
 | nil=>rfl
 | cons x xs=>rfl
def zN {S:aa}{f:G1}{ws:Gy G1}:∃b,bo .notin (.int f) (.tup (ac ws)) S=gV (.bl b,S):=by
 have hf:(aV (.int f)&&(ac ws).all aV)=true:=by
  (dsimp only[aV]; simp only[JM,G7])
  intro x hx;obtain⟨z,_,rfl⟩:=G4.mp hx;rfl
 show#[!(ac ws).any λz=>nH z (.int f),?_]
 change dz .notin (.int f) (.tup (ac ws)) S=_
 (dsimp only[dz,ut,yA,dc]; simp only[hf,JE,Hv])
section
variable{M:Hc->FF}{fuel:GJ}{Z:Fm}{S:aa}{K:Fm->aa->Prop}{Q:QO}
def iq {i0:GJ}{a b:E}{bd:Ss}(i j:G1)(I:GJ->Fm->aa->Prop)(oa:dq a=true)(ob:dq b=true)(ok:fM bd=true)(hj : -(2 ^ 62)<=i/\i < 2 ^ 62/\-(2 ^ 62)<=j/\j < 2 ^ 62)(he:wE M a Z S λp=>p.1=.int i/\wE M b Z p.2 λq=>q.1=.int j/\I 0 Z q.2)
  (hstep:∀(k:GJ) (Z:Fm) (S:aa),(k:G1) < j - i->I k Z S->tQ M fuel bd (Z.set i0 (gV (.int (i+k)))) S (I (k+1)) Q) (hend:∀Z S,I (j - i).toNat Z S->K Z S):Wp (fB M fuel (.loop (.nm i0) (.rng2 #v[a,b]) bd) Z S) (oQ K Q):=by
 obtain⟨w,S1,e1,rfl,h1⟩:=bE oa he;obtain⟨w,S2,e2,rfl,h0⟩:=bE ob h1;have hl:(cQ i (j - i).toNat).length=(j - i).toNat:=by simp[cQ]
 show fN (mi:=.its (cQ i (j - i).toNat)) (S1:=S2) (xs:=cQ i (j - i).toNat) I ok ?_ (λ_ _ _ _=>rfl) rfl h0 (λk w Z S hw hI=>?_) λZ S hI=>hend Z S (hl ▸ hI)
 ·simp only[iP,cR,dw,ib,iRng2,e1,e2];rw[Hf hj]
 ·rw[dU]at hw;split at hw
  ·rename_i hk;cases hw;exact hstep k Z S ∅ hI
  ·cases hw
def wQ {elt a b:E}{i0:GJ}{cs:Es}{cap:Gy (GH GJ)}{Q:QW}(i j:G1)(I:GJ->Gy W->Fm->aa->Prop)(oa:dq a=true)(ob:dq b=true)(oe:dq elt=true)(oc:lU cs=true)(hj : -(2 ^ 62)<=i/\i < 2 ^ 62/\-(2 ^ 62)<=j/\j < 2 ^ 62)(he:wE M a Z S λp=>p.1=.int i/\wE M b Z p.2 λq=>q.1=.int j/\I 0 [] (d7 cap Z) q.2)
  (hstep:∀(k:GJ) (ys:Gy W) (Z:Fm) (S:aa),(k:G1) < j - i->I k ys Z S->fu M elt cs (Z.set i0 (gV (.int (i+k)))) S (λy=>I (k+1) (ys++[y])) (I (k+1) ys))
  (hend:∀ys Z S,I (j - i).toNat ys Z S->ys.length<=sizeLine/\Q (.ref S.length,S++[.lst ys])):Wp (aC M (.comp elt (.nm i0) (.rng2 #v[a,b]) cs cap) Z S) Q:=by
 obtain⟨w,S1,e1,rfl,h1⟩:=bE oa he;obtain⟨w,S2,e2,rfl,h0⟩:=bE ob h1;have hl:(cQ i (j - i).toNat).length=(j - i).toNat:=by simp[cQ]
 show kC (mi:=.its (cQ i (j - i).toNat)) (S1:=S2) (xs:=cQ i (j - i).toNat) I oe oc ?_ (λ_ _ _ _ _=>rfl) rfl h0 (λk w ys Z S hw hI=>?_) λys Z S hI=>hend ys Z S (hl ▸ hI)
 ·simp only[iP,cR,dw,ib,iRng2,e1,e2];rw[Hf hj]
 ·rw[dU]at hw;split at hw
  ·rename_i hk;cases hw;exact hstep k ys Z S ∅ hI
  ·cases hw
end
section
variable{defs:Gy (Hc×Df)}{fuel d:GJ}{S:aa}{r:GJ}{Q:QW}
def oY (G:Gen defs){a:GJ}(ha:a<=3)(k:∀(q:GJ) (ts:Gy (G1×G1×G1)) (S':aa),S'[q]?=gV (.lst (ts.map eN))->(∀t∈ts,oX a t)->S.length<=q->Ka S S'->Q (.ref q,S')) :
  wO (aP (au defs fuel (d+1)) "_law_rising" 1 [.int a] S) Q:=by
 show az G.rising rfl rfl λQ' hR=>?_
 replace k:∀(q:GJ) (ts:Gy (G1×G1×G1)) (S':aa),S'[q]?=gV (.lst (ts.map eN))->(∀t∈ts,oX a t)->S.length<=q->Ka S S'->Q' (.rt (.ref q),S'):=λq ts S' a b c e=>hR _ _ (k q ts S' a b c e)
 clear hR;change wZ _ _ dD [gV (.int a),td,td,td] S Q';dsimp only[dD];show st ?_;dsimp only[wS,wE,wA,GX];nofun
 show cu (a:G1) (λi Z S'=>∃(q:GJ) (ts:Gy (G1×G1×G1)) (a2 a3:GH W),Z=[gV (.int a),gV (.ref q),a2,a3]/\S'[q]?=gV (.lst (ts.map eN))/\(∀t∈ts,oX a t)/\S.length<=q/\ts.length<=9*i/\Ka S S') rfl rfl ∅ #[rfl,_,[],_,_,rfl,ak,λ_ h=>(nomatch h),GY _,IH _,.push] ?_ ?_
 ·rintro i Z S1 hi ⟨q,ts,a2,a3,rfl,e1,ht,hq,hl,k1⟩ Q2 hn _;clear hK k;nofun
  show iq (i:G1) (a:G1) (λj Z S'=>∃(q:GJ) (ts:Gy (G1×G1×G1)) (a3:GH W),Z=[gV (.int a),gV (.ref q),gV (.int i),a3]/\S'[q]?=gV (.lst (ts.map eN))/\(∀t∈ts,oX a t)/\S.length<=q/\ts.length<=9*i+3*j/\Ka S S') rfl rfl rfl ∅ #[rfl,rfl,q,ts,a3,rfl,e1,ht,hq,∅,k1] ?_ ?_
  ·rintro j Z S2 hj ⟨q,ts,a3,rfl,e2,ht,hq,hl,k2⟩ Q3 hn3 _;clear hK hn;show st ?_;dsimp only[wS,wE,wV,wG,GX];show wQ ((i:G1)+j) (a:G1) (λm ys Z2 S3=>(∃a1,Z2=[td,a1,gV (.int i),gV (.int ((i:G1)+j))])/\(∃us:Gy (G1×G1×G1),ys=us.map eN/\us.length=m/\∀t∈us,oX a t)/\S3=S2) rfl rfl rfl rfl ∅ #[rfl,rfl,#[td,rfl],#[[],rfl,rfl,λ_ h=>nomatch h],rfl] ?_ ?_
   ·rintro m ys Z2 S3 hm ⟨⟨a1,rfl⟩,⟨us,rfl,hul,hu⟩,rfl⟩;show#[λ_=>#[#[_,rfl],#[us++[((i:G1),(i:G1)+j,(i:G1)+j+m)],by rw[Hk]; rfl,by rw[GQ,hul]; rfl,λt h=>?_],rfl],λz=>by cases z]
    rcases HF.mp h with h|h
    ·exact hu t h
    ·rw[G8.mp h];exact#[#[∅,∅],#[by dsimp only; omega,by dsimp only; omega],#[by dsimp only; omega,by dsimp only; omega]]
   ·rintro ys Z2 S3 ⟨_,⟨us,rfl,hul,hu⟩,rfl⟩;show#[lp (by rw[Gz]; omega),ab (qp (aq e2) ak ?_) (bg (hn3 _ _ #[_,ts++us,_,rfl,?_,λt h=>(HF.mp h).elim (ht t) (hu t),?_,?_,k2.trans (Ka.push.trans .push)]))]
    ·show lp ?_;rw[GQ,Gz,Gz];omega
    ·rw[Hk]; exact ak
    ·have:=k2.len;simp only[GQ]; omega
    ·rw[GQ]; omega
  ·rintro Z S2 ⟨q,ts,a3,rfl,e2,ht,hq,hl,k2⟩;exact hK _ _ (bg (hn _ _ #[q,ts,_,_,rfl,e2,ht,hq,∅,k2]))
 ·rintro Z S1 ⟨q,ts,a2,a3,rfl,e1,ht,hq,hl,k1⟩;show hK _ _ (st ?_);exact k q ts S1 e1 ht hq k1
def tV (hfu:20 < fuel)(G:Gen defs)(hf:Fl S r)(k:∀w S',cY w->Fl S' r->Kp r S S'->Q (w,S')):wO (aP (au defs fuel (d+6)) "_law_one_way_rule" 1 [.ref r] S) Q:=by
 show az G.one_way_rule rfl rfl λQ' hR=>?_
 replace k:∀w S',cY w->Fl S' r->Kp r S S'->Q' (.rt w,S'):=λz S' a b c=>hR _ _ (k z S' a b c)
 clear hR;change wZ _ _ bF [gV (.ref r),td,td] S Q';dsimp only[bF];nofun
 left;show aR (d:=d+4) G.pick hf #v[] #v[] λv S1 v0 v3 f1 k1=>?_
 dsimp only[dX,aM];obtain⟨a,ea⟩ : ∃a:GJ,1+v=a:=#[(1+v).toNat,∅]
 rw[ea];show hK _ _ ?_;clear hK K;nofun
 dsimp only[wS,wE,GX];show ey (a:G1) (λk zs Z2 S2=>(∃a1,Z2=[td,a1,gV (.ref r)])/\(∃ks:Gy G1,zs=(ks.map wM).map aA/\ks.Pairwise (·≠·)/\ks.length<=k/\∀x∈ks,0<=x/\x < k)/\Fl S2 r/\Kp r S1 S2) rfl rfl rfl ∅ #[rfl,#[td,rfl],#[[],rfl,.nil,GY _,λ_ h=>(nomatch h)],f1,.refl] ?_ ?_
 ·rintro i zs Z2 S2 hi ⟨⟨a1,rfl⟩,⟨ks,rfl,hkp,hkl,hks⟩,f2,k2⟩;clear hK k;dsimp only[fu,wC,wT,wE,wA,wV,wG,GX];show aR (d:=d+4) G.pick f2 #v[] #v[] λv S3 _ _ f3 k3=>?_
  dsimp only[ll,aM,wB];show#[λ_=>#[#[_,rfl],#[ks++[(i:G1)],by simp[wM,aA,aK],?_,by rw[GQ]; exact KS hkl,λx hx=>?_],f3,k2.trans k3],λ_=>#[#[_,rfl],#[ks,rfl,hkp,∅,λx hx=>#[(hks x hx).1,by have:=(hks x hx).2; omega]],f3,k2.trans k3]]
  ·rw[List.pairwise_append];show#[hkp,by simp,λx hx y hy e=>?_]
   have:=(hks x hx).2;rw[G8.mp hy]at e;omega
  ·rcases HF.mp hx with h|h
   ·exact#[(hks x h).1,by have:=(hks x h).2; omega]
   ·rw[G8.mp h]; omega
 ·rintro zs Z2 S2 ⟨_,⟨ks,rfl,hkp,hkl,hks⟩,f2,k2⟩;rw[G0]at hkl hks;show#[lp (by rw[Gz,Gz]; omega),hK _ _ (st ?_)]
  clear hK K;left;have hlt:=f2.lt;show gk (d:=d) (a:=a) (bs:=[0]) (us:=ks.map wM) hfu G (f2.ka .push) ∅ #v[] (λS' kk=>?_) (by rw[Gz]; omega) (λu hu=>by obtain⟨x,_,rfl⟩:=G4.mp hu; exact NM _ _) λms ns S3 hml hnl hnm f3 k3=>?_
  ·simp only[cJ,aD (kk.get _ _ ∅ ak)]
  show k _ _ #[a,[0],ms,ns,ks.map wM,rfl,#[#[∅,ip,by simp; omega,∅],hml,hnl,hnm,?_,λg hg=>?_]] f3 (k1.trans (k2.trans (Kp.push.trans k3)))
  ·unfold Pf;rw[IT];exact hkp.imp λh e=>h (zM e)
  ·obtain⟨x,hx,rfl⟩:=G4.mp hg;exact zL ∅ ∅ (hks x hx).1 (hks x hx).2
def oZ (hfu:20 < fuel)(G:Gen defs)(hf:Fl S r)(k:∀w S',cY w->Fl S' r->Kp r S S'->Q (w,S')):wO (aP (au defs fuel (d+6)) "_law_free_rule" 1 [.ref r] S) Q:=by
 show az G.free_rule rfl rfl λQ' hR=>?_
 replace k:∀w S',cY w->Fl S' r->Kp r S S'->Q' (.rt w,S'):=λz S' a b c=>hR _ _ (k z S' a b c)
 clear hR;change wZ _ _ cv [gV (.ref r),td,td,td,td,td,td,td,td] S Q';dsimp only[cv];nofun
 left;show sf (d:=d+3) G hf λa n S1 a1 a3 n1 n3 an f1 k1=>?_
 dsimp only[wU];show ab (show cf [1,2] [.int a,.int n] [gV (.ref r),td,td,td,td,td,td,td,td]=gV [gV (.ref r),gV (.int a),gV (.int n),td,td,td,td,td,td]from rfl) (hK _ _ ?_)
 clear hK K;nofun
 left;show sg (d:=d+3) G f1 n1 n3 λbs S2 hb hbl f2 k2=>?_
 have hsz:SizeOk a bs:=#[∅,hb,by rw[hbl]; exact an,a3]
 show eY (d:=d) hfu G f2 a3 ∅ λms ns S3 hml hnl hnm f3 k3=>hK _ _ ?_
 clear hK K;have hrt:=f3.lt;replace k3:Kp r S S3:=k1.trans (k2.trans k3);clear k1 k2 f1 f2;nofun
 dsimp only[wS,wE,GX];show ey (n:G1) (λi zs Z2 S2=>(∃a1,Z2=[td,a1,gV (bY ms ns bs [])])/\(∃ks:Gy G1,zs=ac ks/\ks.length<=i)/\S2=S3) rfl rfl rfl ∅ #[rfl,#[td,rfl],#[[],rfl,GY _],rfl] ?_ ?_
 ·rintro i zs Z2 S2 hi ⟨⟨a1,rfl⟩,⟨ks,rfl,hkl⟩,rfl⟩;clear hK k;have hi':i < bs.length:=∅
  dsimp only[fu,wC,wT,wE,wA,wV,wG,GX];show ah #v[] rfl (ah (GR i) (by rw[G0]; exact iX (G5 ∅) (G5 hi')) (ah #v[] rfl ?_))
  dsimp only[ll,aM,wB];exact#[λ_=>#[#[_,rfl],#[ks++[(i:G1)],by unfold ac; rw[Hk]; rfl,by rw[GQ]; exact KS hkl],rfl],λ_=>#[#[_,rfl],#[ks,rfl,∅],rfl]]
 ·rintro zs Z2 S2 ⟨_,⟨ks,rfl,hkl⟩,rfl⟩;rw[G0]at hkl;have il:(ac ks).length=ks.length:=Gz ..;show#[lp ∅,hK _ _ ?_]
  clear hK K;nofun
  dsimp only[wS,wT,wE,wA,wV,wG,GX];show ab (Az (aq ak) ak) ?_;dsimp only[wB];have f4:=(f3.ka (Ka.push (o:=O.lst (ac ks)))).ka (Ka.push (o:=O.lst []));have k4:=k3.trans ((Kp.push (o:=O.lst (ac ks))).trans (Kp.push (o:=O.lst [])));have e4:=aq (u:=O.lst []) (ak (S:=S2) (o:=O.lst (ac ks)));have hl4:S2.length < (S2++[O.lst (ac ks)]++[O.lst []]).length:=by simp
  generalize hS4:S2++[O.lst (ac ks)]++[O.lst []]=S4 at f4 k4 e4 hl4;clear hS4;have ret:∀Q2:QO,(∀w S',Q' (.rt w,S')->Q2 (.rt w,S'))->wZ (au defs fuel (d+5)) fuel #v[.ret (.v 3)] [gV (.ref r),gV (.int a),gV (.int n),gV (bY ms ns bs []),td,gV (.ref S2.length),td,td,td] S4 Q2:=λQ2 hr=>st (hr _ _ (k _ _ #[a,bs,ms,ns,[],rfl,hsz,hml,hnl,hnm,.nil,λ_ h=>(nomatch h)] f4 k4))
  show#[λ_=>ap (Q0:=Q') (λ_ Q2 _ hr=>ret Q2 hr) (λz=>by cases z),λhne=>?_]
  dsimp only[ll,aM,wB];show ap (Q0:=Q') (λ_ Q2 _ hr=>ret Q2 hr) (λ_ Q2 hn _=>bg (hn _ _ (hK _ _ ?_)))
  clear hK ret hn;have hk0:0 < ks.length:=by
   cases ks with
   | nil=>cases hne
   | cons x ks=>exact Nat.succ_pos _
  nofun
  left;show gI e4 ?_;rw[il];show aR (d:=d+4) G.pick f4 ∅ ∅ λv S5 v0 v1 f5 k5=>?_
  have e5:=k5.get _ _ ∅ e4
  obtain⟨x,_,ex⟩:=nu (f:=W.int) (xs:=ks) (i:=v.toNat) ∅
  show eD e5 v0 ex (hK _ _ ?_);clear hK K;replace k5:Kp r S S5:=k4.trans k5;have hrt5:=f5.lt;show st ?_;dsimp only[wS,wE,GX];nofun
  show kG rfl rfl ?_;dsimp only[wE,wA,wV,wG];show aR (d:=d+4) G.pick (f5.ka .push) #v[] #v[] λv S6 v0 v9 f6 k6=>?_
  show#[v,λ_ Z S'=>(∃a4 a8,Z=[gV (.ref r),gV (.int a),gV (.int n),gV (bY ms ns bs []),a4,gV (.ref S2.length),gV (.int x),gV (.ref S5.length),a8])/\(∃U fs,S'[S5.length]?=gV (.dic U)/\FigD (aE a bs) U fs)/\Fl S' r/\Kp r S S',rfl,∅,#[#[td,td,rfl],#[[],[],k6.get _ _ ∅ ak,.nil],f6,(k5.trans .push).trans k6],?_,?_]
  ·rintro i Z S7 hi ⟨⟨a4,a8,rfl⟩,⟨U,fs,e7,hd⟩,f7,k7⟩ Q2 hn _;clear hK k;show st ?_;left;show im (d:=d+3) G f7 ∅ a3 ∅ n3 λu S8 hu3 hu f8 k8=>?_
   have hu:GoodW a bs.length u:=hbl.symm ▸ hu;have e8:=k8.get _ _ ∅ e7
   obtain⟨p0,p1,p2,rfl⟩ : ∃p0 p1 p2,u=[p0,p1,p2]:=by
    match u,hu3 with
    | [p0,p1,p2],_=>exact#[p0,p1,p2,rfl]
   have l1:=hu.len 1 p1 rfl;obtain⟨m1,ws1⟩:=p1;obtain⟨w1,rfl⟩ : ∃w1,ws1=[w1]:=by
    match ws1,l1 with
    | [w1],_=>exact#[w1,rfl]
   obtain⟨b,hb2⟩:=zN (S:=S8) (f:=x) (ws:=p2.2);have kk:=k7.trans k8;nofun
   dsimp only[wS,wT,wE,wA,wV,wG];show ah #v[] rfl (ah #v[] rfl (ah #v[] rfl ?_))
   dsimp only[Cf,aM,wB];have skip:K [gV (.ref r),gV (.int a),gV (.int n),gV (bY ms ns bs []),gV (.int i),gV (.ref S2.length),gV (.int x),gV (.ref S5.length),gV (aA [p0,(m1,[w1]),p2])] S8:=hK _ _ (bg (hn _ _ #[#[_,_,rfl],#[U,fs,e8,hd],f8,kk]));show#[λ_=>?_,λ_=>ap (Q0:=Q2) (λz=>by cases z) λ_ Q3 hn3 _=>bg (hn3 _ _ skip)]
   show ah #v[] rfl (ah #v[] rfl (ab hb2 ?_))
   dsimp only[wB];show ap (Q0:=Q2) (λ_ Q3 hn3 _=>?_) λ_ Q3 hn3 _=>bg (hn3 _ _ skip)
   clear skip;show st ?_;left;show fQ (d:=d+2) G hb hnl hu hu3 λS9 k9=>?_
   exact si (k9.get _ _ e8) hd hsz hu hu3 λo ho=>bg (hn3 _ _ (hK _ _ (bg (hn _ _ #[#[_,_,rfl],ho,(f8.ka k9).own hrt5,(kk.trans (k9.kp r)).late k5.len]))))
  ·rintro Z S7 ⟨⟨a4,a8,rfl⟩,⟨U,fs,e7,hd⟩,f7,k7⟩;show hK _ _ (st ?_);left;exact sh (Q:=λp=>Q' (.rt p.1,p.2)) e7 hd hsz hml hnl hnm λw S8 hw k8=>k w S8 hw (f7.ka k8) (k7.trans (k8.kp r))
end
abbrev bD (u v:G1):T:=.tup [.int u,.int v]
abbrev dg (u v:G1):W:=.tup [.int u,.int v]
def iu {u v:G1}:gz (dg u v)=gV (bD u v):=rfl
def wR {U:Gy (T×W)}{k:T}{v:W}{p:T×W}(h:p∈d4 U k v):p∈U\/p=(k,v):=by
 unfold d4 at h;split at h
 ·obtain⟨q,hq,rfl⟩:=G4.mp h;split
  ·rename_i e; exact .inr (by rw[e])
  ·exact .inl hq
 ·rcases HF.mp h with h|h
  ·exact .inl h
  ·exact .inr (G8.mp h)
def kH {U:Gy (T×W)}{k:T}{v:W}(h:bS U k=gV v):(k,v)∈U:=by
 unfold bS at h;rw[GD]at h;obtain⟨p,h1,rfl⟩:=h;have:=KZ h1;rw[<- HS this];exact Lm h1
def sj {U:Gy (T×W)}{p:T×W}(h:p∈U):∃v,bS U p.1=gV v:=by
 unfold bS;cases e:U.find? λq=>decide (q.1=p.1)with
 | some q=>exact#[q.2,rfl]
 | none=>exact absurd (Jr.mp e p h) (by simp)
abbrev MustE (S:aa)(n b:GJ)(U:Gy (T×W)):Prop:=∀p∈U,∃(u v:G1) (l:GJ) (ws:Gy G1),p=(bD u v,W.ref l)/\(0<=u/\u < n)/\(0<=v/\v < n)/\b<=l/\S[l]?=gV (.lst (ac ws))/\ws.length<=3/\∀w∈ws,0<=w/\w < (n:G1)
def MustE.mono {S S':aa}{n b:GJ}{U:Gy (T×W)}(h:MustE S n b U)(k:∀(l:GJ) (ws:Gy G1),b<=l->S[l]?=gV (.lst (ac ws))->S'[l]?=gV (.lst (ac ws))):MustE S' n b U:=λp hp=>
 let ⟨u,v,l,ws,h1,h2,h3,h4,h5,h6⟩:=h p hp
 #[u,v,l,ws,h1,h2,h3,h4,k l ws h4 h5,h6]
def MustE.ka {S S':aa}{n b:GJ}{U:Gy (T×W)}(h:MustE S n b U)(k:Ka S S'):MustE S' n b U:=h.mono λl ws _ e=>k.get _ _ e
def MustE.kp {S S':aa}{n b r:GJ}{U:Gy (T×W)}(h:MustE S n b U)(hr:r < b)(k:Kp r S S'):MustE S' n b U:=h.mono λl ws hl e=>k.get _ _ ∅ e
def MustE.set {S:aa}{n b t:GJ}{U k:Gy (T×W)}{o:O}(h:MustE S n b U)(ht:S[t]?=gV (.dic k)):MustE (S.set t o) n b U:=h.mono λl ws hl e=>by
 rw[bn (by rintro rfl; rw[ht]at e; cases e)]; exact e
def MustE.put {S:aa}{n b:GJ}{U:Gy (T×W)}{u v:G1}{l:GJ}{ws:Gy G1}(h:MustE S n b U)(h2:0<=u/\u < n)(h3:0<=v/\v < n)(h4:b<=l)(h5:S[l]?=gV (.lst (ac ws)))(h6:ws.length<=3)(h7:∀w∈ws,0<=w/\w < (n:G1)):MustE S n b (d4 U (bD u v) (.ref l)):=λp hp=>by
 rcases wR hp with hp|rfl
 ·exact h p hp
 ·exact#[u,v,l,ws,rfl,h2,h3,h4,h5,h6,h7]
noncomputable abbrev zO:=G1×G1×Gy G1
abbrev o4 (ws:Gy G1):Es:=ws.foldr (λw es=>.cons (.c (.int w)) es) .nil
abbrev sn:Gy zO->Es
 | []=>.nil
 | e::L=>.cons (.tup #v[.c (.int e.1),.c (.int e.2.1)]) (.cons (.lst (o4 e.2.2)) (sn L))
abbrev tW:Gy zO->GJ->Gy W
 | [],_=>[]
 | e::L,s=>dg e.1 e.2.1::.ref s::tW L (s+1)
abbrev tX (L:Gy zO):aa:=L.map λe=>O.lst (ac e.2.2)
abbrev sr (n:GJ)(e:zO):Hi:=decide ((0<=e.1/\e.1 < n)/\(0<=e.2.1/\e.2.1 < n)/\e.2.2.length<=3)&&e.2.2.all λw=>decide (0<=w/\w < (n:G1))
section
variable{M:Hc->FF}{Z:Fm}
def qy {S:aa}:∀ {ws:Gy G1} {Q:Gy W×aa->Prop},Q (ac ws,S)->wA M (o4 ws) Z S Q
 | [],Q,q=>by change wA M .nil Z S Q; exact q
 | w::ws,Q,q=>by change wA M (.cons (.c (.int w)) (o4 ws)) Z S Q; dsimp only[wA,wE]; exact qy q
def wW:∀ {L:Gy zO} {S:aa} {Q:Gy W×aa->Prop},Q (tW L S.length,S++tX L)->wA M (sn L) Z S Q
 | [],S,Q,q=>by
  change wA M .nil Z S Q;dsimp only[wA]
  rwa [show S++tX []=S from Iv S]at q
 | e::L,S,Q,q=>by
  change wA M (.cons (.tup #v[.c (.int e.1),.c (.int e.2.1)]) (.cons (.lst (o4 e.2.2)) (sn L))) Z S Q;dsimp only[wA,wE];show qy (wW ?_);rw[GQ,J4];exact q
end
def lZ {S:aa}{n b:GJ}:∀(L:Gy zO) (s:GJ) (U:Gy (T×W)),MustE S n b U->b<=s->(∀e∈L,sr n e=true)->(∀i e,L[i]?=gV e->S[s+i]?=gV (.lst (ac e.2.2)))->∃U',dt U (tW L s)=gV U'/\MustE S n b U'/\U'.length<=U.length+L.length
 | [],s,U,hm,hb,hL,hS=>#[U,by simp[tW,dt],hm,by simp]
 | e::L,s,U,hm,hb,hL,hS=>by
  have h1:=hL e (by simp)
  unfold sr at h1;rw[GK,G7]at h1;obtain⟨h2,h3,h4⟩:=HS h1.1;obtain⟨U',k1,k2,k3⟩:=lZ L (s+1) (d4 U (bD e.1 e.2.1) (.ref s)) (hm.put h2 h3 hb (by have:=hS 0 e rfl; simpa using this) h4 (λw hw=>HS (h1.2 w hw))) ∅ (λx hx=>hL x (by simp[hx])) (λi x hx=>by have:=hS (i+1) x (by simpa using hx); rw[show s+1+i=s+(i+1) by omega]; exact this)
  show#[U',?_,k2,?_]
  ·simp only[tW,dt,iu]; exact k1
  ·have:=cC U (bD e.1 e.2.1) (.ref s);rw[HJ]; omega
abbrev KB:Gy (Gy G1):=[[1,0],[0,2,1],[0,1],[0,1,2]]
abbrev KindOk (S:aa)(b:GJ)(w:W):Prop:=∃(bs:Gy G1) (q:GJ) (U:Gy (T×W)) (most:G1),w=.tup [.tup (ac bs),.ref q,.int most]/\bs∈KB/\1<=most/\most<=3/\most*bs.length<=6/\S[q]?=gV (.dic U)/\b<=q/\U.length<=4/\MustE S bs.length b U
def KindOk.mono {S S':aa}{b:GJ}{w:W}(h:KindOk S b w)(k1:∀(l:GJ) (ws:Gy G1),b<=l->S[l]?=gV (.lst (ac ws))->S'[l]?=gV (.lst (ac ws)))(k2:∀(l:GJ) (U:Gy (T×W)),b<=l->S[l]?=gV (.dic U)->S'[l]?=gV (.dic U)):KindOk S' b w:=
 let ⟨bs,q,U,most,h1,h2,h3,h4,h5,h6,h7,h8,h9⟩:=h
 #[bs,q,U,most,h1,h2,h3,h4,h5,k2 _ _ h7 h6,h7,h8,h9.mono k1]
def KindOk.ka {S S':aa}{b:GJ}{w:W}(h:KindOk S b w)(k:Ka S S'):KindOk S' b w:=h.mono (λl ws _ e=>k.get _ _ e) (λl ws _ e=>k.get _ _ e)
abbrev wX (bs:Gy G1)(L:Gy zO)(most:G1):E:=.tup #v[.tup (o4 bs),.disp (sn L),.c (.int most)]
section
variable{M:Hc->FF}{Z:Fm}{S:aa}
def nz (bs:Gy G1)(L:Gy zO)(most:G1){b:GJ}{Q:QW}(hb:b<=S.length)(h1:bs∈KB)(h2:1<=most/\most<=3/\most*bs.length<=6)(hL:∀e∈L,sr bs.length e=true)(h4:L.length<=4)(k:∀w S',KindOk S' b w->Ka S S'->Q (w,S')) :
  wE M (wX bs L most) Z S Q:=by
 unfold wX;dsimp only[wE,wA];show qy (wW ?_);obtain⟨U,k1,k2,k3⟩:=lZ (S:=S++[O.dic []]++tX L) (n:=bs.length) (b:=b) L (S.length+1) [] (λ_ h=>nomatch h) ∅ hL (λi e he=>by
  rw[Ii (by simp),show S.length+1+i - (S++[O.dic []]).length=i by simp]
  simp[tX,he])
 have hat:(S++[O.dic []]++tX L)[S.length]?=gV (.dic []):=by
  rw[Hr (by simp)]; exact ak
 show#[hat,ab (show dt [] (tW L (S++[O.dic []]).length)=gV U by rw[GQ]; exact k1) (k _ _ #[bs,S.length,U,most,rfl,h1,h2.1,h2.2.1,h2.2.2,br hat,hb,?_,k2.set hat] #[λj o h=>?_,by simp])]
 ·simp only[IL]at k3; omega
 ·have:j < S.length:=bP h;show((S++[O.dic []]++tX L).set S.length (O.dic U))[j]?=gV o;rw[bn ∅,Hr (by simp; omega)]
  exact aq h
structure Menu (S0 S:aa)(r t m:GJ):Prop where
 at_t:∃xs:Gy W,S[t]?=gV (.lst xs)/\xs.length=m/\∀x∈xs,KindOk S S0.length x
 pos:0 < m
 lp:m<=9
 fl:Fl S r
 kp:Kp r S0 S
 lt:S0.length<=t
 rlt:r < S0.length
def o5 {S0 S S':aa}{r t m:GJ}{w:W}(h:Menu S0 S r t m)(hw:KindOk S' S0.length w)(k:Ka S S')(hm:m < 9):∃xs,S'[t]?=gV (.lst xs)/\xs.length < sizeLine/\Menu S0 (S'.set t (.lst (xs++[w]))) r t (m+1):=by
 obtain⟨⟨xs,h1,h2,h3⟩,hp,hf,fl,kp,lt,rlt⟩:=h;have e:S'[t]?=gV (.lst xs):=k.get _ _ h1;have stay:∀x,KindOk S' S0.length x->KindOk (S'.set t (.lst (xs++[w]))) S0.length x:=λx hx=>hx.mono (λl ws hl el=>by
  by_cases hlt:t=l
  ·exfalso;subst hlt;rw[e]at el;injection el with el
   injection el with el
   match xs,h2,h3 with
   | [],h2,_=>simp at h2; omega
   | x::xs,_,h3=>
    obtain⟨bs,q,U,most,hx,_⟩:=h3 x (by simp)
    subst hx
    match ws with
    | []=>simp[ac]at el
    | w::ws=>simp[ac]at el
  ·rw[bn hlt]; exact el) (λl U hl el=>by
  rw[bn (by rintro rfl; rw[e]at el; cases el)]; exact el)
 show#[xs,e,(by rw[HR]; omega),#[xs++[w],br e,by simp; omega,λx hx=>?_],∅,∅,(fl.ka k).own ∅,(kp.trans (k.kp r)).late lt,lt,rlt]
 rcases HF.mp hx with hx|hx
 ·exact stay x ((h3 x hx).ka k)
 ·rw[G8.mp hx]; exact stay w hw
def o7 (bs:Gy G1)(L:Gy zO)(most:G1){fuel:GJ}{S0:aa}{r t m:GJ}{x0:GH W}{K:Fm->aa->Prop}{Q:QO}(h:Menu S0 S r t m)(hm:m < 9)(h1:bs∈KB)(h2:1<=most/\most<=3/\most*bs.length<=6)(hL:∀e∈L,sr bs.length e=true)(h4:L.length<=4)(k:∀S',Menu S0 S' r t (m+1)->K [x0,gV (.ref t)] S') :
  wS M fuel (.ex (.me .append (.v 1) #v[wX bs L most])) [x0,gV (.ref t)] S K Q:=by
 left;obtain⟨xs,e1,e2,e3⟩:=h.at_t;show#[cg e1,nz bs L most (HB h.lt (Kb (bP e1))) h1 h2 hL h4 λw S' k1 k2=>?_]
 obtain⟨xs',f1,f2,f3⟩:=o5 h k1 k2 hm;exact ab (r0 f1 f2) (k _ f3)
def lq {defs:Gy (Hc×Df)}{fuel d:GJ}{r:GJ}{Q:QW}(G:Gen defs)(hf:Fl S r)(k:∀w S',KindOk S' S.length w->Fl S' r->Kp r S S'->Q (w,S')):wO (aP (au defs fuel (d+2)) "_law_laying_kind" 1 [.ref r] S) Q:=by
 show az G.laying_kind rfl rfl λQ' hR=>?_
 replace k:∀w S',KindOk S' S.length w->Fl S' r->Kp r S S'->Q' (.rt w,S'):=λz S' a b c=>hR _ _ (k z S' a b c)
 clear hR;change wZ _ _ bQ [gV (.ref r),td] S Q';have hrt:=hf.lt;unfold bQ;nofun
 show Eg ?_;change wA _ _ _ _ _; change wE _ _ _ _ _
 show nz [1,0] [(0,0,[0])] 3 (b:=S.length) (GY _) #v[] #v[] #v[] #v[] λw1 S1 k1 a1=>?_
 change wE _ _ _ _ _;show nz [0,2,1] [(1,1,[1])] 2 (b:=S.length) a1.len #v[] #v[] #v[] #v[] λw2 S2 k2 a2=>?_
 have a12:=a1.trans a2;change wE _ _ _ _ _;show nz [0,1] [(1,1,[1])] 3 (b:=S.length) a12.len #v[] #v[] #v[] #v[] λw3 S3 k3 a3=>?_
 have a13:=a12.trans a3;dsimp only[wA];show hK _ _ ?_;clear hK K;have m3:Menu S (S3++[O.lst [w1,w2,w3]]) r S3.length 3:=by
  show#[#[[w1,w2,w3],ak,rfl,λx hx=>?_],#v[],#v[],(hf.ka a13).ka .push,(a13.trans .push).kp r,a13.len,hrt]
  rcases Hj.mp hx with rfl|hx
  ·exact(k1.ka (a2.trans a3)).ka .push
  ·rcases Hj.mp hx with rfl|hx
   ·exact(k2.ka a3).ka .push
   ·rw[G8.mp hx];exact k3.ka .push
 dsimp only[GX];clear k1 k2 k3 a1 a2 a3 a12 a13;generalize S3.length=t at m3;generalize S3++[O.lst [w1,w2,w3]]=S3' at m3;show aJ λK hK=>o7 [0,1] [(1,1,[1]),(0,0,[1])] 3 m3 #v[] #v[] #v[] #v[] #v[] λS4 m4=>hK _ _ ?_
 show aJ λK hK=>o7 [0,1] [(1,1,[])] 1 m4 #v[] #v[] #v[] #v[] #v[] λS5 m5=>hK _ _ ?_
 show aJ λK hK=>o7 [0,2,1] [(0,0,[0]),(0,1,[1]),(1,0,[1]),(1,1,[1])] 2 m5 #v[] #v[] #v[] #v[] #v[] λS6 m6=>hK _ _ ?_
 nofun
 left;obtain⟨xs,e1,e2,e3⟩:=m6.at_t;obtain⟨xs',f1,f2,m7⟩:=o5 (S':=S6++[O.dic []]) (w:=.tup [.tup (ac [1,0]),.ref S6.length,.int 3]) m6 #[[1,0],S6.length,[],3,rfl,#v[],#v[],#v[],#v[],ak,m6.kp.len,#v[],λ_ h=>(nomatch h)] .push #v[]
 show#[cg e1,ab (r0 f1 f2) (hK _ _ ?_)];show aJ λK hK=>o7 [0,1,2] [(2,2,[2]),(1,2,[1]),(2,1,[1]),(1,1,[1,2])] 2 m7 #v[] #v[] #v[] #v[] #v[] λS8 m8=>hK _ _ ?_
 show aJ λK hK=>o7 [0,1,2] [(0,0,[0,1])] 2 m8 #v[] #v[] #v[] #v[] #v[] λS9 m9=>hK _ _ ?_
 show st ?_;left;show aR (d:=d) G.pick m9.fl #v[] #v[] λv S10 v0 v9 f10 k10=>?_
 obtain⟨xs,g1,g2,g3⟩:=m9.at_t;have hlt:=m9.lt;have hv:v.toNat < xs.length:=∅
 exact eD (k10.get _ _ ∅ g1) v0 (G5 hv) (k _ _ ((g3 _ (HA hv)).mono (λl ws hl e=>k10.get _ _ ∅ e) (λl ws hl e=>k10.get _ _ ∅ e)) f10 (m9.kp.trans k10))
end
abbrev o8 (bs:Gy G1):Gy (Gy G1):=if bs=[0,1,2]then[[0,1,2],[0,2,1],[1,0,2],[1,2,0],[2,0,1],[2,1,0]]else if bs.length=2 then[[0,1],[1,0]]else[[0,1,2],[0,2,1],[2,0,1],[2,1,0]]
abbrev gK (bs nm:Gy G1):GJ->Gy G1
 | 0=>Hy bs.length 0
 | k+1=>(gK bs nm k).set (nm.getD k 0).toNat (nm.getD (bs.getD k 0).toNat 0)
def iZ (bs nm:Gy G1):∀k,(gK bs nm k).length=bs.length
 | 0=>by simp[gK]
 | k+1=>by simp[gK,iZ bs nm k]
def zP:∀bs∈KB,∀nm∈o8 bs,nm.length=bs.length/\(∀x∈nm,0<=x/\x < (bs.length:G1))/\(∀x∈bs,0<=x/\x < (bs.length:G1))/\GoodB (gK bs nm bs.length):=by
 unfold GoodB;decide +kernel
def wY:∀bs∈KB,(bs.length=2\/bs.length=3)/\0 < (o8 bs).length/\(o8 bs).length < 10:=by decide
section
variable{M:Hc->FF}{fuel:GJ}{Z:Fm}{S:aa}{K:Fm->aa->Prop}{Q:QO}
def zQ {tg:Tg}{e:E}{b:Ss}(r:GJ)(U:Gy (T×W))(I:GJ->Fm->aa->Prop)(oe:dq e=true)(ok:fM b=true)(he:wE M e Z S λp=>p.1=.ref r/\p.2[r]?=gV (.dic U)/\I 0 Z (p.2.set r (.frd U)))
  (hstep:∀(i:GJ) (p:T×W) (Z:Fm) (S:aa),U[i]?=gV p->I i Z S->wO (fX tg p.1.w Z S) λq=>tQ M fuel b q.1 q.2 (I (i+1)) Q) (hend:∀Z S,I U.length Z S->K Z S):Wp (fB M fuel (.loop tg (.seq e) b) Z S) (oQ K Q):=by
 obtain⟨w,S1,e1,rfl,e2,h0⟩:=bE oe he;show fN (mi:=.its (U.map λp=>p.1.w)) (S1:=S1.set r (.frd U)) (xs:=U.map λp=>p.1.w) I ok (by simp only[iP,eu,e1,nq e2,bV e2]) (λ_ _ _ _=>rfl) rfl h0 (λi w Z S hw hI=>?_) λZ S hI=>hend Z S (by rwa [Gz]at hI)
 rw[GM,GD]at hw;obtain⟨p,hp,rfl⟩:=hw;exact hstep i p Z S hp hI
end
section
variable{defs:Gy (Hc×Df)}{fuel d:GJ}{S:aa}{r:GJ}{Q:QW}
def AA {i n:GJ}{x:W}(h:S[i]?=gV (.lst [x]))(hn:n<=1000)(q:Q (.ref S.length,S++[.lst (Hy n x)])):wO (g5 .mul (.ref i) (.int (n:G1)) S) Q:=by
 show ab ?_ q;have:n<=sizeLine:=lp hn;simp only[g5,yn,bx h];rw[Hf #[∅,∅,by simpa using this]]
 unfold la;simp[this]
def l4 {q:GJ}{U:Gy (T×W)}{u v:G1}{w:W}(h:jx S q=gV U)(hg:bS U (bD u v)=gV w):jy (.ref q) (.tup [.int u,.int v]) S=gV (w,S):=by
 have hk:gz (.tup [.int u,.int v])=gV (bD u v):=iu;simp only[jy,h,hk,hg,Hv]
def w6 {q:GJ}{U:Gy (T×W)}{u v:G1}{w:W}(h:S[q]?=gV (.dic U))(hl:U.length < sizeLine):hX (.ref q) (.tup [.int u,.int v]) w S=gV (S.set q (.dic (d4 U (bD u v) w))):=by
 have hk:gz (.tup [.int u,.int v])=gV (bD u v):=iu;simp only[hX,mL,h,hk];rw[Hf hl]
def i3 {xs:Gy G1}{x:G1}(h0:0<=x)(h1:x.toNat < xs.length):(ac xs)[x.toNat]?=gV (.int (xs.getD x.toNat 0)):=by
 unfold ac;rw[GM,am (d:=0) h1]; rfl
def fR {xs:Gy G1}{i:GJ}(h:i < xs.length):xs.getD i 0∈xs:=GV (am (d:=0) h)
def lr (G:Gen defs){Q:QO}{bs:Gy G1}{x0 x2:GH W}(hb:bs∈KB)
  (hk:∀(m s:GJ) (S':aa),Ka S S'->S'[s]?=gV (.lst ((o8 bs).map λnm=>W.tup (ac nm)))->S.length<=s->wZ (au defs fuel (d+1)) fuel (dr 5 bh) [x0,gV (.tup (ac bs)),x2,gV (.int bs.length),gV (.ref m),gV (.ref s),td,td,td,td,td,td] S' Q) :
  wZ (au defs fuel (d+1)) fuel bh [x0,gV (.tup (ac bs)),x2,td,td,td,td,td,td,td,td,td] S Q:=by
 generalize hd5:dr 5 bh=cj at hk;unfold bh at hd5 ⊢;dsimp only[dr]at hd5;rw[hd5];clear hd5;nofun
 left;show aY ?_;rw[show(ac bs).length=bs.length from Gz ..]
 show hK _ _ ?_;clear hK K;nofun
 left;have hm:(((S++[O.lst [.tup [.int 0]]])++[O.lst [.tup [.int 0,.int 1],.tup [.int 1,.int 0]]])++[O.lst [.ref S.length,.ref (S++[O.lst [.tup [.int 0]]]).length]])[((S++[O.lst [.tup [.int 0]]])++[O.lst [.tup [.int 0,.int 1],.tup [.int 1,.int 0]]]).length]?=gV (.lst [.ref S.length,.ref (S++[O.lst [.tup [.int 0]]]).length]):=ak;show hK _ _ ?_;clear hK K;generalize hS1:S++[O.lst [.tup [.int 0]]]=S1 at hm ⊢;generalize hS2:S1++[O.lst [.tup [.int 0,.int 1],.tup [.int 1,.int 0]]]=S2 at hm ⊢;generalize hS3:S2++[O.lst [.ref S.length,.ref S1.length]]=S3 at hm ⊢;have l1:S1.length=S.length+1:=by rw[<- hS1]; simp
 have l2:S2.length=S1.length+1:=by rw[<- hS2]; simp
 have l3:S3.length=S2.length+1:=by rw[<- hS3]; simp
 have kS2:Ka S S2:=by rw[<- hS2,<- hS1]; exact Ka.push.trans .push
 nofun
 left;show#[cg hm,jl (aq hm) (by decide:2 < 1000) (hK _ _ ?_)]
 clear hK K;generalize hS5:(S3++[O.lst [.tup [.int 0,.int 1,.int 2],.tup [.int 0,.int 2,.int 1],.tup [.int 2,.int 0,.int 1],.tup [.int 2,.int 1,.int 0]]]).set S2.length (.lst ([.ref S.length,.ref S1.length]++[.ref S3.length]))=S5;have k5:Ka S S5:=by
  rw[<- hS5,<- hS3];exact Ka.late (kS2.trans (Ka.push.trans .push)) ∅
 have m5:S5[S2.length]?=gV (.lst [.ref S.length,.ref S1.length,.ref S3.length]):=by
  rw[<- hS5]; exact br (aq hm)
 have p5:S5[S1.length]?=gV (.lst [.tup [.int 0,.int 1],.tup [.int 1,.int 0]]):=by
  rw[<- hS5,bn ∅,<- hS3,<- hS2]
  exact aq (aq ak)
 have t5:S5[S3.length]?=gV (.lst [.tup [.int 0,.int 1,.int 2],.tup [.int 0,.int 2,.int 1],.tup [.int 2,.int 0,.int 1],.tup [.int 2,.int 1,.int 0]]):=by
  rw[<- hS5,bn ∅]
  exact ak
 have h1:S.length<=S1.length:=∅
 have h3:S.length<=S3.length:=∅
 clear hS1 hS2 hS3 hS5 hm l1 l2 l3 kS2;nofun
 dsimp only[wS,wE,wA,wV,wG,GX,kA,aM];have hb':bs=[1,0]\/bs=[0,2,1]\/bs=[0,1]\/bs=[0,1,2]:=by simpa [KB]using hb
 rcases hb' with rfl|rfl|rfl|rfl
 ·show dE (i:=1) m5 rfl (hK _ _ (aJ λK hK=>wp (λQ q=>q) (hK _ _ (hk _ _ _ k5 p5 h1))))
 ·show dE (i:=2) m5 rfl (hK _ _ (aJ λK hK=>wp (λQ q=>q) (hK _ _ (hk _ _ _ k5 t5 h3))))
 ·show dE (i:=1) m5 rfl (hK _ _ (aJ λK hK=>wp (λQ q=>q) (hK _ _ (hk _ _ _ k5 p5 h1))))
 ·show dE (i:=2) m5 rfl (hK _ _ (aJ λK hK=>Eh (λQ q=>q) λQ2 hn _=>?_))
  show st ?_;left;exact jF (d:=d) G (bg (hn _ _ (hK _ _ (hk _ _ _ (k5.trans .push) ak k5.len))))
def qz (G:Gen defs){S0:aa}{bs:Gy G1}{q:GJ}{U:Gy (T×W)}(hb:bs∈KB)(hf:Fl S r)(hr:r < S0.length)(kp:Kp r S0 S)(hq:S[q]?=gV (.dic U))(hq0:S0.length<=q)(h4:U.length<=4)(hm:MustE S bs.length S0.length U)
  (k:∀(bs':Gy G1) (q':GJ) (U':Gy (T×W)) S',GoodB bs'->bs'.length=bs.length->S'[q']?=gV (.dic U')->S0.length<=q'->MustE S' bs.length S0.length U'->Fl S' r->Kp r S0 S'->Q (.tup [.tup (ac bs'),.ref q'],S')) :
  wO (aP (au defs fuel (d+2)) "_law_numbered" 3 [.ref r,.tup (ac bs),.ref q] S) Q:=by
 show az G.numbered rfl rfl λQ' hR=>?_
 replace k:∀(bs':Gy G1) (q':GJ) (U':Gy (T×W)) S',GoodB bs'->bs'.length=bs.length->S'[q']?=gV (.dic U')->S0.length<=q'->MustE S' bs.length S0.length U'->Fl S' r->Kp r S0 S'->Q' (.rt (.tup [.tup (ac bs'),.ref q']),S'):=λa b c e f g h i j l m=>hR _ _ (k a b c e f g h i j l m)
 clear hR;show lr (d:=d) G hb ?_;intro m s S1 k1 e1 hs;dsimp only[dr,bh];have hrt:=hf.lt;obtain⟨hb1,hb2,hb3⟩:=wY bs hb;nofun
 left;show gI e1 ?_;rw[Gz];show aR (d:=d) G.pick (hf.ka k1) ∅ ∅ λv S2 v0 v1 f2 k2=>?_
 obtain⟨nm,hnmm,enm⟩:=nu (f:=λnm=>W.tup (ac nm)) (xs:=o8 bs) (i:=v.toNat) ∅
 obtain⟨n1,n2,n3,n4⟩:=zP bs hb nm hnmm;show eD (k2.get _ _ ∅ e1) v0 enm (hK _ _ ?_)
 clear hK K;nofun
 left;show AA ak ∅ (hK _ _ ?_)
 clear hK K;generalize hS4:S2++[O.lst [.int 0]]=S4;have k24:Ka S2 S4:=hS4 ▸ .push;have f4:Fl S4 r:=f2.ka k24;have kp4:Kp r S0 S4:=(kp.trans (k1.kp r)).trans (k2.trans (k24.kp r));have q4:S4[q]?=gV (.dic U):=k24.get _ _ (k2.get _ _ ∅ (k1.get _ _ hq))
 have m4:MustE S4 bs.length S0.length U:=((hm.ka k1).kp hr k2).ka k24;clear hS4 k24 hm hq f2 k2 k1 e1 enm hf;nofun
 show cu (bs.length:G1) (λk Z S'=>(∃x8,Z=[gV (.ref r),gV (.tup (ac bs)),gV (.ref q),gV (.int bs.length),gV (.ref m),gV (.ref s),gV (.tup (ac nm)),gV (.ref S4.length),x8,td,td,td])/\S'[S4.length]?=gV (.lst (ac (gK bs nm k)))/\Ka S4 S') rfl rfl ∅ #[rfl,#[_,rfl],?_,.push] ?_ ?_
 ·rw[ak]; simp[gK,ac]
 ·rintro i Z S5 hi ⟨⟨x8,rfl⟩,e5,k5⟩ Q2 hn _;clear hK k;have hi':i < bs.length:=∅
  have hi1:i < nm.length:=∅
  have c:=n3 _ (fR hi');have c2:=n2 _ (fR hi1);show st ?_;left;show ah (GR i) (i3 (GR i) hi') (ah c.1 (i3 c.1 (by rw[G0]; omega)) (ah (GR i) (i3 (GR i) hi1) ?_))
  rw[G0];show ab (As e5 c2.1 (by rw[show(ac (gK bs nm i)).length=_ from Gz ..,iZ]; omega)) (bg (hn _ _ #[#[_,rfl],?_,k5.late (GY _)]))
  rw[br e5];unfold ac;rw[gK,OL]
 ·rintro Z S5 ⟨⟨x8,rfl⟩,e5,k5⟩;rw[G0]at e5;show hK _ _ (st ?_);clear hK K;dsimp only[wS,wE,GX];have f5:Fl S5 r:=f4.ka k5;have q5:S5[q]?=gV (.dic U):=k5.get _ _ q4;have m5:MustE S5 bs.length S0.length U:=m4.ka k5;have kp5:Kp r S0 S5:=kp4.trans (k5.kp r);have hq5:=bP q5;have ht5:=bP e5;have hqt:q≠S4.length:=by rintro rfl; rw[e5]at q5; cases q5
  have hn9:(bs.length:G1)<=3:=∅
  have hr5:=f5.lt;clear k5 m4 q4 f4;nofun
  show zQ q U (λk Z S'=>(∃x10 x11,Z=[gV (.ref r),gV (.tup (ac bs)),gV (.ref q),gV (.int bs.length),gV (.ref m),gV (.ref s),gV (.tup (ac nm)),gV (.ref S4.length),x8,gV (.ref S5.length),x10,x11])/\S'[q]?=gV (.frd U)/\MustE S' bs.length S0.length U/\S'[S4.length]?=gV (.lst (ac (gK bs nm bs.length)))/\(∃U',S'[S5.length]?=gV (.dic U')/\U'.length<=k/\MustE S' bs.length S0.length U')/\Fl S' r/\Kp r S0 S') rfl rfl #[rfl,aq q5,#[td,td,rfl],br (aq q5),(m5.ka .push).set (aq q5),?_,#[[],?_,GY _,λ_ h=>(nomatch h)],(f5.ka .push).own ∅,(kp5.trans .push).late hq0] ?_ ?_
  ·rw[bn hqt]; exact aq e5
  ·rw[bn ∅]; exact ak
  ·rintro i p Z S6 hp ⟨⟨x10,x11,rfl⟩,q6,m6,t6,⟨U',o6,l6,mm6⟩,f6,kp6⟩;clear hK k;have hpm:=GV hp;have hil:=(G9.mp hp).1;obtain⟨u,v',l,ws,rfl,hu,hv',hl,hws,hl3,hw3⟩:=m6 p hpm;obtain⟨g,hg⟩:=sj hpm;obtain⟨u2,v2,l2,ws2,he2,_,_,hl2,hws2,hl32,hw32⟩:=m6 _ (kH hg);injection he2 with _ he2
   subst he2;have hul:u.toNat < nm.length:=∅
   have hvl:v'.toNat < nm.length:=∅
   show ab (show fX (.tp [10,11]) (bD u v',W.ref l).1.w [gV (.ref r),gV (.tup (ac bs)),gV (.ref q),gV (.int bs.length),gV (.ref m),gV (.ref s),gV (.tup (ac nm)),gV (.ref S4.length),x8,gV (.ref S5.length),x10,x11] S6=gV ([gV (.ref r),gV (.tup (ac bs)),gV (.ref q),gV (.int bs.length),gV (.ref m),gV (.ref s),gV (.tup (ac nm)),gV (.ref S4.length),x8,gV (.ref S5.length),gV (.int u),gV (.int v')],S6)from rfl) λQ2 hn _=>?_
   show st ?_;left;show r9 l2 (ac ws2) (λi zs Z2 S7=>(∃a1,Z2=[td,a1,gV (.tup (ac nm))])/\zs=ac ((ws2.take i).map λw=>nm.getD w.toNat 0)/\S7=S6) rfl rfl rfl ?_ ?_ ?_ ?_
   ·dsimp only[wE,wA,wV,wG];exact ab (l4 (zD q6) hg) #[rfl,#[_,rfl],rfl,rfl]
   ·rintro i zs Z2 S7 ⟨_,_,rfl⟩;exact hws2
   ·rintro i w zs Z2 S7 hw ⟨⟨a1,rfl⟩,rfl,rfl⟩;unfold ac at hw;rw[GM,GD]at hw;obtain⟨x,hx,rfl⟩:=hw;obtain⟨x0,x1⟩:=hw32 x (GV hx);have hxl:x.toNat < nm.length:=∅
    show ab (show fX (.nm 1) (.int x) [td,a1,gV (.tup (ac nm))] S7=gV ([td,gV (.int x),gV (.tup (ac nm))],S7)from rfl) ?_
    dsimp only[fu,wC,wE,wA,wV,wG];show#[λ_=>ah x0 (i3 x0 hxl) #[#[_,rfl],?_,rfl],λz=>by cases z]
    rw[HK,hx];simp[ac]
   ·rintro zs Z2 S7 ⟨_,rfl,rfl⟩;rw[show(ac ws2).length=ws2.length from Gz ..,HY]
    show#[lp (by simp[ac]; omega),ah hu.1 (i3 hu.1 hul) (ah hv'.1 (i3 hv'.1 hvl) ?_)]
    show ab (w6 (aq o6) (by rw[HR]; omega)) (bg (hn _ _ #[#[_,_,rfl],?_,(m6.ka .push).set (aq o6),?_,#[_,br (aq o6),?_,?_],(f6.ka .push).own ∅,(kp6.trans .push).late kp5.len]))
    ·rw[bn ∅]; exact aq q6
    ·rw[bn ∅]; exact aq t6
    ·exact HB (cC ..) (KS l6)
    ·show((mm6.ka .push).put (n2 _ (fR hul)) (n2 _ (fR hvl)) kp6.len ak (by simp; omega) ?_).set (aq o6)
     intro w hw;obtain⟨x,hx,rfl⟩:=G4.mp hw;obtain⟨x0,x1⟩:=hw32 x hx;exact n2 _ (fR ∅)
  ·rintro Z S6 ⟨⟨x10,x11,rfl⟩,q6,m6,t6,⟨U',o6,l6,mm6⟩,f6,kp6⟩;show hK _ _ (st ?_);left;exact cF t6 (k _ _ U' _ n4 (iZ _ _ _) o6 kp5.len mm6 f6 kp6)
end
abbrev tY (x y z:G1):Gy (T×W):=[(bD 1 0,.int x),(bD 2 0,.int y),(bD 2 1,.int z)]
abbrev zR (x y z a b c:G1):GJ->Gy (T×W)
 | 0=>tY x y z
 | 1=>tY x y z++[(bD 0 1,.int a)]
 | 2=>tY x y z++[(bD 0 1,.int a),(bD 0 2,.int b)]
 | _=>tY x y z++[(bD 0 1,.int a),(bD 0 2,.int b),(bD 1 2,.int c)]
def Ck {n x y z a b c:G1}(hx:0<=x/\x < n)(hy:0<=y/\y < n)(hz:0<=z/\z < n)(ha:0<=a/\a < n)(hb:0<=b/\b < n)(hc:0<=c/\c < n):∀i j:GJ,i < 3->j < 3->i≠j->∃p:G1,bS (zR x y z a b c 3) (bD i j)=gV (.int p)/\0<=p/\p < n:=by
 intro i j hi hj hij
 match i,j,hi,hj,hij with
 | 0,0,_,_,h=>exact absurd rfl h
 | 0,1,_,_,_=>exact#[a,by rfl,ha]
 | 0,2,_,_,_=>exact#[b,by rfl,hb]
 | 1,0,_,_,_=>exact#[x,by rfl,hx]
 | 1,1,_,_,h=>exact absurd rfl h
 | 1,2,_,_,_=>exact#[c,by rfl,hc]
 | 2,0,_,_,_=>exact#[y,by rfl,hy]
 | 2,1,_,_,_=>exact#[z,by rfl,hz]
 | 2,2,_,_,h=>exact absurd rfl h
def o9:∀t∈ar,t.length=3/\t.getD 0 0 < 3/\t.getD 1 0 < 3/\t.getD 2 0 < 3/\t.getD 0 0≠t.getD 1 0/\t.getD 1 0≠t.getD 2 0/\t.getD 0 0≠t.getD 2 0:=by decide
def w8 {t:Gy GJ}(h:t∈ar):∃i j k:GJ,t=[i,j,k]/\i < 3/\j < 3/\k < 3/\i≠j/\j≠k/\i≠k:=by
 obtain⟨h1,h2⟩:=o9 t h
 match t,h1,h2 with
 | [i,j,k],_,h2=>exact#[i,j,k,rfl,h2]
section
variable{defs:Gy (Hc×Df)}{fuel d:GJ}{S:aa}{r:GJ}{Q:QW}
def w9 {l:GJ}{f:G1}{ws:Gy G1}(h:S[l]?=gV (.lst (ac ws))):∃b,bo .notin (.int f) (.ref l) S=gV (.bl b,S):=by
 have hf:(aV (.int f)&&(ac ws).all aV)=true:=by
  (dsimp only[aV]; simp only[JM,G7])
  intro x hx;obtain⟨z,_,rfl⟩:=G4.mp hx;rfl
 show#[!(ac ws).any λz=>nH z (.int f),?_]
 (dsimp only[bo,dz,ut,yA,dc]; simp only[gf h,aD h,hf,JE,Hv])
def Cm {q:GJ}{U:Gy (T×W)}(h:S[q]?=gV (.dic U)):tyOk "dict" S (.ref q)=true:=by simp[tyOk,bV h]
def zS {q:GJ}{U:Gy (T×W)}(h:S[q]?=gV (.dic U))(k:Q (.ref S.length,S++[.lst (U.map λp=>p.1.w)])):wO (Bi.list.fn [.ref q] S) Q:=by
 show ab ?_ k;have h1:sW S q=td:=by simp[sW,h]
 have h2:g8 [.ref q] S=td:=by(dsimp only[g8,gE,dc]; simp[h1,nq h])
 simp only[Bi.fn,B0,h2,j4,bV h]
def xf (G:Gen defs){bs:Gy G1}{q b0:GJ}{U:Gy (T×W)}{x y z:G1}(hb:GoodB bs)(hx:0<=x/\x < bs.length)(hy:0<=y/\y < bs.length)(hz:0<=z/\z < bs.length)(hq:S[q]?=gV (.dic U))(hm:MustE S bs.length b0 U)
  (k:∀b S',Ka S S'->Q (.bl b,S')):wO (aP (au defs fuel (d+2)) "_law_breaks" 5 [.tup (ac bs),.ref q,.int x,.int y,.int z] S) Q:=by
 show az G.breaks rfl rfl λQ' hR=>?_
 replace k:∀b S',Ka S S'->Q' (.rt (.bl b),S'):=λa b c=>hR _ _ (k a b c)
 clear hR;change wZ _ _ dC [gV (.tup (ac bs)),gV (.ref q),gV (.int x),gV (.int y),gV (.int z),td,td,td,td,td] S Q';obtain⟨a,ha1,ha⟩:=hb.rng x.toNat ∅
 obtain⟨b,hb1,hb2⟩:=hb.rng y.toNat ∅
 obtain⟨c,hc1,hc⟩:=hb.rng z.toNat ∅
 have hqt:=bP hq;unfold dC;nofun
 left;show#[ak,ab (show dt [] [.tup [.int 1,.int 0],.int x,.tup [.int 2,.int 0],.int y,.tup [.int 2,.int 1],.int z]=gV (tY x y z)from rfl) (hK _ _ ?_)]
 clear hK K;have e1:((S++[O.dic []]).set S.length (.dic (tY x y z)))[S.length]?=gV (.dic (tY x y z)):=br ak;have k1:Ka S ((S++[O.dic []]).set S.length (.dic (tY x y z))):=Ka.push.late (GY _);have l1:((S++[O.dic []]).set S.length (.dic (tY x y z))).length=S.length+1:=by simp
 generalize(S++[O.dic []]).set S.length (.dic (tY x y z))=S1 at e1 k1 l1 ⊢;nofun
 show eM rfl rfl ?_;dsimp only[wE,wA,wV,wG];show zS e1 #[S1.length,[dg 1 0,dg 2 0,dg 2 1],(λk Z S'=>(∃x6,Z=[gV (.tup (ac bs)),gV (.ref q),gV (.int x),gV (.int y),gV (.int z),gV (.ref S.length),x6,td,td,td])/\S'[S.length]?=gV (.dic (zR x y z a b c k))/\S'[S1.length]?=gV (.lst [dg 1 0,dg 2 0,dg 2 1])/\Ka S S'),rfl,#[#[_,rfl],aq e1,ak,k1.trans .push],λi Z S' h=>h.2.2.1,?_,?_]
 ·have step:∀(u v f g:G1) (kv kv':Gy (T×W)) (S':aa) (i:GJ),bS kv (bD u v)=gV (.int f)->0<=f->bs[f.toNat]?=gV g->kv.length < 10->d4 kv (bD v u) (.int g)=kv'->zR x y z a b c (i+1)=kv'->∀x6:GH W,S'[S.length]?=gV (.dic kv)->S'[S1.length]?=gV (.lst [dg 1 0,dg 2 0,dg 2 1])->Ka S S'->
    wO (fX (.nm 6) (dg u v) [gV (.tup (ac bs)),gV (.ref q),gV (.int x),gV (.int y),gV (.int z),gV (.ref S.length),x6,td,td,td] S') λp=>tQ (au defs fuel (d+1)) fuel #v[.put (.v 5) (.tup #v[.ix (.v 6) (.c (.int 1)),.ix (.v 6) (.c (.int 0))]) (.ix (.v 0) (.ix (.v 5) (.v 6)))] p.1 p.2 (λZ S'=>(∃x6,Z=[gV (.tup (ac bs)),gV (.ref q),gV (.int x),gV (.int y),gV (.int z),gV (.ref S.length),x6,td,td,td])/\S'[S.length]?=gV (.dic (zR x y z a b c (i+1)))/\S'[S1.length]?=gV (.lst [dg 1 0,dg 2 0,dg 2 1])/\Ka S S') Q':=by
   clear hK k;intro u v f g kv kv' S' i h1 h2 h3 h4 h5 h6 x6 e e' k;show ab (show fX (.nm 6) (dg u v) [gV (.tup (ac bs)),gV (.ref q),gV (.int x),gV (.int y),gV (.int z),gV (.ref S.length),x6,td,td,td] S'=gV ([gV (.tup (ac bs)),gV (.ref q),gV (.int x),gV (.int y),gV (.int z),gV (.ref S.length),gV (dg u v),td,td,td],S')from rfl) λQ2 hn _=>?_
   show st ?_;left;show ab (l4 (bV e) h1) (ah h2 (w:=.int g) (by unfold ac; rw[GM,h3]; rfl) (ah #v[] rfl (ah #v[] rfl ?_)))
   show ab (w6 e (by rw[HR]; omega)) (bg (hn _ _ #[#[_,rfl],?_,?_,k.late (GY _)]))
   ·rw[br e,h5,h6]
   ·rw[bn ∅]; exact e'
  rintro i w Z S2 hw ⟨⟨x6,rfl⟩,e2,l2,k2⟩
  match i,hw,e2 with
  | 0,hw,e2=>cases hw; exact step 1 0 x a _ _ S2 0 (by rfl) hx.1 ha1 (by simp[zR,tY]) (by rfl) (by rfl) x6 e2 l2 k2
  | 1,hw,e2=>cases hw; exact step 2 0 y b _ _ S2 1 (by rfl) hy.1 hb1 (by simp[zR,tY]) (by rfl) (by rfl) x6 e2 l2 k2
  | 2,hw,e2=>cases hw; exact step 2 1 z c _ _ S2 2 (by rfl) hz.1 hc1 (by simp[zR,tY]) (by rfl) (by rfl) x6 e2 l2 k2
  | n+3,hw,_=>simp at hw
 ·rintro Z S2 ⟨⟨x6,rfl⟩,e2,l2,k2⟩;have hv:=Ck hx hy hz ha hb2 hc;have e2:S2[S.length]?=gV (.dic (zR x y z a b c 3)):=e2;show hK _ _ ?_;clear hK K;have hlt2:=bP e2;nofun
  show eM rfl rfl ?_;dsimp only[wE,wA,wV,wG];show jF (d:=d) G #[S2.length,ar.map (λt=>W.tup (aj t)),(λk Z S'=>(∃x7 x8 x9,Z=[gV (.tup (ac bs)),gV (.ref q),gV (.int x),gV (.int y),gV (.int z),gV (.ref S.length),x6,x7,x8,x9])/\S'[S.length]?=gV (.dic (zR x y z a b c 3))/\S'[S2.length]?=gV (.lst (ar.map (λt=>W.tup (aj t))))/\Ka S S'),rfl,#[#[_,_,_,rfl],aq e2,ak,k2.trans .push],λi Z S' h=>h.2.2.1,?_,?_]
  ·rintro i w Z S3 hw ⟨⟨x7,x8,x9,rfl⟩,e3,l3,k3⟩;clear hK;rw[GM,GD]at hw;obtain⟨t,ht,rfl⟩:=hw;obtain⟨i1,j1,h1,rfl,hi1,hj1,hh1,n1,n2,n3⟩:=w8 (GV ht);obtain⟨p1,g1,r1⟩:=hv i1 j1 hi1 hj1 n1;obtain⟨p2,g2,r2⟩:=hv j1 h1 hj1 hh1 n2;obtain⟨p3,g3,r3⟩:=hv i1 h1 hi1 hh1 n3;have q3:=k3.get _ _ hq;show ab (show fX (.tp [7,8,9]) (W.tup (aj [i1,j1,h1])) [gV (.tup (ac bs)),gV (.ref q),gV (.int x),gV (.int y),gV (.int z),gV (.ref S.length),x6,x7,x8,x9] S3=gV ([gV (.tup (ac bs)),gV (.ref q),gV (.int x),gV (.int y),gV (.int z),gV (.ref S.length),x6,gV (.int i1),gV (.int j1),gV (.int h1)],S3)from rfl) λQ2 hn hr=>?_
   nofun
   dsimp only[wS,wT,wE,wA,wV,wG];show ab (l4 (bV e3) g3) #[Cm q3,ab (l4 (bV e3) g1) (ab (l4 (bV e3) g2) (ab (l4 (bV e3) g3) ?_))];have hget:Me.get.fn (.ref q) [.tup [.int p1,.int p2],.ref S3.length] (S3++[O.lst [.int p3]])=gV ((bS U (bD p1 p2)).getD (.ref S3.length),S3++[O.lst [.int p3]]):=by
    have hk:gz (.tup [.int p1,.int p2])=gV (bD p1 p2):=iu
    (dsimp only[Me.fn,rq]; simp only[bV (aq q3),hk])
   show ab hget ?_;have hres:∃(l:GJ) (ws:Gy G1),(bS U (bD p1 p2)).getD (.ref S3.length)=.ref l/\(S3++[O.lst [.int p3]])[l]?=gV (.lst (ac ws)):=by
    cases hg:bS U (bD p1 p2)with
    | none=>exact#[S3.length,[p3],rfl,ak]
    | some g=>
     obtain⟨u,v,l,ws,he,_,_,_,hl,_⟩:=(hm.ka k3) _ (kH hg);injection he with _ he
     subst he;exact#[l,ws,rfl,aq hl]
   obtain⟨l,ws,hl1,hl2⟩:=hres;dsimp only;rw[hl1];obtain⟨kb,hkb⟩:=w9 (f:=p3) hl2;show ab hkb ?_;dsimp only[wB];show ap (Q0:=Q2) (λ_ Q3 _ hr3=>st (hr3 _ _ (hr _ _ (k _ _ (k3.trans .push))))) λ_ Q3 hn3 _=>bg (hn3 _ _ (hK _ _ (bg (hn _ _ #[#[_,_,_,rfl],aq e3,aq l3,k3.trans .push]))))
  ·rintro Z S3 ⟨⟨x7,x8,x9,rfl⟩,e3,l3,k3⟩;exact hK _ _ (st (k _ _ k3))
end
abbrev CM (k:G1):Wd:=[(0,[]),(0,[k]),(0,[k,k])]
def zT:∀g∈[CM 0,CM 1],g∈aE 1 [0,1]:=by decide +kernel
abbrev xg (a k:G1):Wd:=[(0,[]),(k,[0]),(a - 1,[0,0])]
def xh:∀k∈d8 2,xg 2 k∈aE 2 [0]:=by decide +kernel
def xi:∀k∈d8 3,xg 3 k∈aE 3 [0]:=by decide +kernel
def zU {a x y:G1}(h:xg a x=xg a y):x=y:=by
 unfold xg at h;injection h with _ h
 injection h with h _
 injection h
def AB {a n:GJ}{m0 m1 m2 x y z:G1}(h0:0<=m0/\m0 < a)(h1:0<=m1/\m1 < a)(h2:0<=m2/\m2 < a)(hx:0<=x/\x < n)(hy:0<=y/\y < n)(hz:0<=z/\z < n):GoodW a n [(m0,[]),(m1,[x]),(m2,[y,z])]:=by
 show#[λk p h=>?_,λk p h=>?_,λk p h=>?_] <;> match k,h with
 | 0,h=>cases h; first|exact h0|rfl|(intro w hw; cases hw)
 | 1,h=>cases h; first|exact h1|rfl|(intro w hw; rw[G8.mp hw]; exact hx)
 | 2,h=>cases h; first|exact h2|rfl|(intro w hw; rcases Hj.mp hw with e|hw <;> first|exact e ▸ hy|(rw[G8.mp hw]; exact hz))
 | n+3,h=>simp at h
def Cn {M:Hc->FF}{Z:Fm}{S:aa}{i n:GJ}{Q:QW}(hv:∀Q:W->Prop,Q (.int n)->wV Z i Q)(hn:n<=3)(k:∀j:G1,0<=j->j<=27->j=(n:G1)*n*n->Q (.int j,S)):wE M (.op .mul (.op .mul (.v i) (.v i)) (.v i)) Z S Q:=by
 have b1 : -(2 ^ 64) < (n:G1):=∅
 have b2:(n:G1) < 2 ^ 64:=∅
 have hc:(n:G1)*n*n<=27/\0<=(n:G1)*n*n:=by rcases(show n=0\/n=1\/n=2\/n=3 by omega)with h|h|h|h <;> rw[h] <;> decide
 dsimp only[wE];have em:∀m:G1,g5 .mul (.int m) (.int n) S=gV (.int (m*n),S):=λm=>rZ b1 b2
 generalize g5 .mul=B at em ⊢;show hv _ ?_;show hv _ ?_;show ab (em _) ?_;show hv _ ?_;show ab (em _) ?_;have:=k _ hc.2 hc.1 rfl;exact this
def xj {M:Hc->FF}{fuel:GJ}{Z:Fm}{S:aa}{K:Fm->aa->Prop}{Q:QO}{i0 i n:GJ}{b:Ss}(hv:∀Q:W->Prop,Q (.int n)->wV Z i Q)(hn:n<=3)(ok:fM b=true)
  (h:∀j:G1,0<=j->j<=27->j=(n:G1)*n*n->∃I:GJ->Fm->aa->Prop,I 0 Z S/\(∀(i:GJ) (Z:Fm) (S:aa),(i:G1) < j->I i Z S->tQ M fuel b (Z.set i0 (gV (.int i))) S (I (i+1)) Q)/\∀Z S,I j.toNat Z S->K Z S) :
  Wp (fB M fuel (.loop (.nm i0) (.rng #v[.op .mul (.op .mul (.v i) (.v i)) (.v i)]) b) Z S) (oQ K Q):=
 have hw:=Cn (M:=M) (S:=S) (Q:=λp=>∃(j:G1) (I:GJ->Fm->aa->Prop),p.1=.int j/\(-(2 ^ 62)<=j/\j < 2 ^ 62)/\I 0 Z p.2/\(∀(i:GJ) (Z:Fm) (S:aa),(i:G1) < j->I i Z S->tQ M fuel b (Z.set i0 (gV (.int i))) S (I (i+1)) Q)/\∀Z S,I j.toNat Z S->K Z S) hv hn λj j0 j27 e=>let ⟨I,h0,h1,h2⟩:=h j j0 j27 e; #[j,I,rfl,∅,h0,h1,h2]
 kG rfl ok hw
section
variable{defs:Gy (Hc×Df)}{fuel d:GJ}{S:aa}{r:GJ}{Q:QW}
def xk (hfu:20 < fuel)(G:Gen defs)(hf:Fl S r)(k:∀w S',cY w->Fl S' r->Kp r S S'->Q (w,S')):wO (aP (au defs fuel (d+7)) "_law_laying_rule" 1 [.ref r] S) Q:=by
 show az G.laying_rule rfl rfl λQ' hR=>?_
 replace k:∀w S',cY w->Fl S' r->Kp r S S'->Q' (.rt w,S'):=λz S' a b c=>hR _ _ (k z S' a b c)
 clear hR;change wZ _ _ bR [gV (.ref r),td,td,td,td,td,td,td,td,td,td,td,td,td,td] S Q';unfold bR;nofun
 left;show aR (d:=d+5) G.pick hf #v[] #v[] λv S1 v0 v7 f1 k1=>hK _ _ ?_
 clear hK K;nofun
 dsimp only[wS,wT,wE,wV,wG,ll,aM,wB];show ap (Q0:=Q') (λ_ Q2 _ hr=>?_) (λ_ Q2 hn _=>bg (hn _ _ (hK _ _ ?_)))
 ·show st ?_;left;exact oZ (d:=d) hfu G f1 λw S2 a b c=>hr _ _ (k w S2 a b (k1.trans c))
 clear hK K hn;nofun
 dsimp only[wS,wT,wE,wV,wG,ll,aM,wB];show ap (Q0:=Q') (λ_ Q2 _ hr=>?_) (λ_ Q2 hn _=>bg (hn _ _ (hK _ _ ?_)))
 ·show st ?_;left;exact tV (d:=d) hfu G f1 λw S2 a b c=>hr _ _ (k w S2 a b (k1.trans c))
 clear hK K hn;have hr1:=f1.lt;nofun
 left;show lq (d:=d+4) G f1 λw2 S2 hw2 f2 k2=>?_
 obtain⟨bs0,q0,U0,most,rfl,hbs0,m1,m3,m6,hq0,hq0l,h40,hm0⟩:=hw2;dsimp only[wU];show ab (show cf [2,3,4] [.tup (ac bs0),.ref q0,.int most] [gV (.ref r),gV (.int v),td,td,td,td,td,td,td,td,td,td,td,td,td]=gV [gV (.ref r),gV (.int v),gV (.tup (ac bs0)),gV (.ref q0),gV (.int most),td,td,td,td,td,td,td,td,td,td]from rfl) (hK _ _ ?_)
 clear hK K;nofun
 left;show aR (d:=d+5) G.pick f2 ∅ ∅ λv3 S3 v30 v3m f3 k3=>?_
 dsimp only[dX,aM];obtain⟨a,ea⟩ : ∃a:GJ,1+v3=a:=#[(1+v3).toNat,∅]
 rw[ea];show hK _ _ ?_;clear hK K;nofun
 left;show qz (d:=d+4) G (S0:=S1) hbs0 f3 hr1 (k2.trans k3) (k3.get _ _ ∅ hq0) hq0l h40 (hm0.kp hr1 k3) λbs q U S4 hb hbl hq hql hm f4 k4=>?_
 dsimp only[wU];show ab (show cf [2,3] [.tup (ac bs),.ref q] [gV (.ref r),gV (.int v),gV (.tup (ac bs0)),gV (.ref q0),gV (.int most),gV (.int a),td,td,td,td,td,td,td,td,td]=gV [gV (.ref r),gV (.int v),gV (.tup (ac bs)),gV (.ref q),gV (.int most),gV (.int a),td,td,td,td,td,td,td,td,td]from rfl) (hK _ _ ?_)
 clear hK K;rw[<- hbl]at hm m6;have hn:bs.length=2\/bs.length=3:=by rw[hbl]; exact(wY bs0 hbs0).1
 have hsz:SizeOk a bs:=#[∅,hb,by
  have h1:(a:G1)*bs.length<=most*bs.length:=Int.mul_le_mul_of_nonneg_right ∅ ∅
  exact_mod_cast Int.le_trans h1 m6,∅]
 clear m6 hm0 hq0 hq0l h40 hbl hbs0 k2 k3 f2 f3;nofun
 left;show eY (d:=d+1) hfu G f4 ∅ ∅ λms ns S5 hml hnl hnm f5 k5=>hK _ _ ?_
 clear hK K;have kk:Kp r S S5:=k1.trans (k4.trans k5);have hrt:=f5.lt;have hq5:S5[q]?=gV (.dic U):=k5.get _ _ ∅ hq
 have hm5:MustE S5 bs.length S1.length U:=hm.kp hr1 k5;have hqn:q < S5.length:=bP hq5;clear k1 k4 k5 f4 hm hq hql f1;show st ?_;dsimp only[wS,wE,GX];nofun
 left;show aY ?_;rw[show(ac bs).length=bs.length from Gz ..]
 show hK _ _ ?_;clear hK K;nofun
 show xj (n:=bs.length) (λQ q=>q) ∅ rfl λj j0 j27 hj=>?_
 show#[(λ_ Z S'=>(∃x9 x10 x11 x12 x13 x14,Z=[gV (.ref r),gV (.int v),gV (.tup (ac bs)),gV (.ref q),gV (.int most),gV (.int a),gV (bY ms ns bs []),gV (.ref S5.length),gV (.int bs.length),x9,x10,x11,x12,x13,x14])/\(∃U fs,S'[S5.length]?=gV (.dic U)/\FigD (aE a bs) U fs)/\S'[q]?=gV (.dic U)/\MustE S' bs.length S1.length U/\Fl S' r/\Kp r S S'),#[#[_,_,_,_,_,_,rfl],#[[],[],ak,.nil],aq hq5,hm5.ka .push,f5.ka .push,kk.trans .push],?_,?_]
 ·rintro i Z S6 hi ⟨⟨x9,x10,x11,x12,x13,x14,rfl⟩,⟨kvd,fs,e6,hd⟩,hq6,hm6,f6,k6⟩ Q2 hn2 _;clear hK k;have hnp:(0:G1) < bs.length:=∅
  have hnb:(bs.length:G1) < 1073741824:=∅
  have y1:0<=(i:G1) % bs.length/\(i:G1) % bs.length < bs.length:=#[JA _ ∅,IY _ hnp]
  have y2:0<=(i:G1) / bs.length % bs.length/\(i:G1) / bs.length % bs.length < bs.length:=#[JA _ ∅,IY _ hnp]
  have y3:0<=(i:G1) / bs.length / bs.length/\(i:G1) / bs.length / bs.length < bs.length:=by
   rcases hn with h|h <;> rw[h]at hj ⊢ <;> omega
  nofun
  left;show ab (kB hnp) (ab (nk hnp hnb) (ab (kB hnp) ?_));dsimp only[w2];show hK _ _ ?_;clear hK K;nofun
  left;show ab (nk hnp hnb) (ab (nk hnp hnb) (hK _ _ ?_));clear hK K;dsimp only;generalize(i:G1) % bs.length=z1 at y1 ⊢;generalize(i:G1) / bs.length % bs.length=z2 at y2 ⊢;generalize(i:G1) / bs.length / bs.length=z3 at y3 ⊢;nofun
  dsimp only[wS,wT,wA,wE,wV,wG];show xf (d:=d+4) G hb y1 y2 y3 hq6 hm6 λb S7 k7=>?_
  dsimp only[eE,aM];show ap (Q0:=Q2) (λ_ Q3 hn3 _=>?_) (λ_ Q3 hn3 _=>bg (hn3 _ _ (hK _ _ (bg (hn2 _ _ #[#[_,_,_,_,_,_,rfl],#[kvd,fs,k7.get _ _ e6,hd],k7.get _ _ hq6,hm6.ka k7,f6.ka k7,k6.trans (k7.kp r)])))))
  show aJ λK3 hK3=>?_
  show eM rfl rfl ?_;dsimp only[wE,wA,wV,wG];have h56:S5.length < S6.length:=bP e6;have h67:=k7.len;show oY (d:=d+5) G (a:=a) ∅ λt ts S8 e8 ht ht7 k8=>?_
  show#[t,ts.map eN,(λ_ Z S'=>(∃x9 x13 x14,Z=[gV (.ref r),gV (.int v),gV (.tup (ac bs)),gV (.ref q),gV (.int most),gV (.int a),gV (bY ms ns bs []),gV (.ref S5.length),gV (.int bs.length),x9,gV (.int z1),gV (.int z2),gV (.int z3),x13,x14])/\(∃U fs,S'[S5.length]?=gV (.dic U)/\FigD (aE a bs) U fs)/\S'[q]?=gV (.dic U)/\MustE S' bs.length S1.length U/\S'[t]?=gV (.lst (ts.map eN))/\Fl S' r/\Kp r S S'),rfl,#[#[_,_,_,rfl],#[kvd,fs,k8.get _ _ (k7.get _ _ e6),hd],k8.get _ _ (k7.get _ _ hq6),(hm6.ka k7).ka k8,e8,(f6.ka k7).ka k8,k6.trans ((k7.trans k8).kp r)],λi Z S' h=>h.2.2.2.2.1,?_,?_]
  ·rintro j w Z S9 hw ⟨⟨x9,x13,x14,rfl⟩,⟨kvd,fs,e9,hd⟩,hq9,hm9,ht9,f9,k9⟩;clear hK3 hn3 hK hn2;rw[GM,GD]at hw;obtain⟨⟨tr1,tr2,tr3⟩,htr,rfl⟩:=hw;obtain⟨t1,t2,t3⟩:=ht _ (GV htr);show ab (show fX (.nm 13) (eN (tr1,tr2,tr3)) [gV (.ref r),gV (.int v),gV (.tup (ac bs)),gV (.ref q),gV (.int most),gV (.int a),gV (bY ms ns bs []),gV (.ref S5.length),gV (.int bs.length),x9,gV (.int z1),gV (.int z2),gV (.int z3),x13,x14] S9=gV ([gV (.ref r),gV (.int v),gV (.tup (ac bs)),gV (.ref q),gV (.int most),gV (.int a),gV (bY ms ns bs []),gV (.ref S5.length),gV (.int bs.length),x9,gV (.int z1),gV (.int z2),gV (.int z3),gV (eN (tr1,tr2,tr3)),x14],S9)from rfl) λQ4 hn4 _=>?_
   have hu:GoodW a bs.length [(tr1,[]),(tr2,[z1]),(tr3,[z2,z3])]:=AB t1 t2 t3 y1 y2 y3;nofun
   left;show ah #v[] rfl (ah #v[] rfl (hK _ _ ?_))
   clear hK K;show st ?_;left;show ah #v[] rfl (ab (dY (fP rfl)) ?_)
   show fQ (d:=d+3) (m0:=.tup (ms.map W.str)) (b0:=.tup []) (u:=[(tr1,[]),(tr2,[z1]),(tr3,[z2,z3])]) G hb hnl hu rfl λS10 k10=>?_
   have e10:=k10.get _ _ e9;exact si e10 hd hsz hu rfl λo ho=>bg (hn4 _ _ #[#[_,_,_,rfl],ho,by rw[bn ∅]; exact k10.get _ _ hq9,(hm9.ka k10).set e10,by rw[bn ∅]; exact k10.get _ _ ht9,(f9.ka k10).own hrt,(k9.trans (k10.kp r)).late kk.len])
  ·rintro Z S9 ⟨⟨x9,x13,x14,rfl⟩,hdd,hq9,hm9,ht9,f9,k9⟩;exact hK3 _ _ (bg (hn3 _ _ (hK _ _ (bg (hn2 _ _ #[#[_,_,_,_,_,_,rfl],hdd,hq9,hm9,f9,k9])))))
 ·rintro Z S6 ⟨⟨x9,x10,x11,x12,x13,x14,rfl⟩,⟨kvd,fs,e6,hd⟩,hq6,hm6,f6,k6⟩;show hK _ _ (st ?_);left;exact sh (Q:=λp=>Q' (.rt p.1,p.2)) e6 hd hsz hml hnl hnm λw S8 hw k8=>k w S8 hw (f6.ka k8) (k6.trans (k8.kp r))
def qA (hfu:20 < fuel)(G:Gen defs)(hun:Is defs ("_law_unlaying_rule" : Hc) 1 10 bc)(hf:Fl S r)(k:∀w S',cY w->Fl S' r->Kp r S S'->Q (w,S')):wO (aP (au defs fuel (d+6)) "_law_unlaying_rule" 1 [.ref r] S) Q:=by
 show az hun rfl rfl λQ' hR=>?_
 replace k:∀w S',cY w->Fl S' r->Kp r S S'->Q' (.rt w,S'):=λz S' a b c=>hR _ _ (k z S' a b c)
 clear hR;change wZ _ _ bc [gV (.ref r),td,td,td,td,td,td,td,td,td] S Q';unfold bc;nofun
 left;show aR (d:=d+4) G.pick hf #v[] #v[] λv S1 v0 v7 f1 k1=>hK _ _ ?_
 clear hK K;have hlt:=f1.lt;nofun
 dsimp only[wS,wT,wE,wV,wG,ll,aM,wB];show ap (Q0:=Q') (λ_ Q2 _ hr=>?_) (λ_ Q2 hn _=>bg (hn _ _ (hK _ _ ?_)))
 ·
  show st ?_;left;show ey 2 (λi zs Z2 S2=>(∃a1,Z2=[td,a1])/\zs=([CM 0,CM 1].take i).map aA/\S2=S1) rfl rfl rfl #v[] #[rfl,#[td,rfl],rfl,rfl] ?_ ?_
  ·rintro i zs Z2 S2 hi ⟨⟨a1,rfl⟩,rfl,rfl⟩;clear k hr hK;dsimp only[fu,wC,wE,wA,wV,wG,GX];show#[λ_=>#[#[_,rfl],?_,rfl],λz=>by cases z]
   rcases(show i=0\/i=1 by omega)with h|h
   ·subst h; rfl
   ·subst h; rfl
  ·rintro zs Z2 S2 ⟨_,rfl,rfl⟩;show#[fP rfl,?_];show gk (d:=d) (a:=1) (bs:=[0,1]) (us:=[CM 0,CM 1]) hfu G (f1.ka .push) #v[] #v[] (λS' kk=>?_) #v[] #v[] λms ns S3 hml hnl hnm f3 k3=>?_
   ·simp only[cJ,aD (kk.get _ _ ∅ ak)]; rfl
   exact hr _ _ (k _ _ #[1,[0,1],ms,ns,_,rfl,#[#[#v[],.inr (.inl rfl),#v[],#v[]],hml,hnl,hnm,#v[],zT]] f3 (k1.trans (Kp.push.trans k3)))
 clear hK K hn;nofun
 dsimp only[wS,wT,wE,wV,wG,ll,aM,wB];show ap (Q0:=Q') (λ_ Q2 _ hr=>?_) (λ_ Q2 hn _=>bg (hn _ _ (hK _ _ ?_)))
 ·
  clear hK;nofun
  left;show eY (d:=d) (a:=2) (bs:=[0,1]) hfu G f1 #v[] #v[] λms ns S3 hml hnl hnm f3 k3=>hK _ _ ?_
  clear hK K;have hsz:SizeOk 2 [0,1]:=#[#v[],.inr (.inl rfl),#v[],#v[]]
  have hrt:=f3.lt;have kk:Kp r S S3:=k1.trans k3;show st ?_;dsimp only[wS,wE,GX];nofun
  show eM rfl rfl ?_;dsimp only[wE,wA,wV,wG];show oY (d:=d+4) G (a:=2) #v[] λq ts S4 e4 ht hq k4=>?_
  have hq':S3.length < q:=by simp only[GQ,HJ,IL]at hq; omega
  show#[q,ts.map eN,(λ_ Z S'=>(∃x4 x5 x6 x7 x8 x9,Z=[gV (.ref r),gV (.int v),gV (bY ms ns [0,1] []),gV (.ref S3.length),x4,x5,x6,x7,x8,x9])/\(∃U fs,S'[S3.length]?=gV (.dic U)/\FigD (aE 2 [0,1]) U fs)/\S'[q]?=gV (.lst (ts.map eN))/\Fl S' r/\Kp r S S'),rfl,#[#[_,_,_,_,_,_,rfl],#[[],[],k4.get _ _ ak,.nil],e4,(f3.ka .push).ka k4,(kk.trans .push).trans (k4.kp r)],λi Z S' h=>h.2.2.1,?_,?_]
  ·rintro i w Z S5 hw ⟨⟨x4,x5,x6,x7,x8,x9,rfl⟩,⟨U,fs,e5,hd⟩,hq5,f5,k5⟩;clear hK;rw[GM,GD]at hw;obtain⟨⟨tr1,tr2,tr3⟩,htt,rfl⟩:=hw;obtain⟨t1,t2,t3⟩:=ht _ (GV htt);have h53:S3.length < S5.length:=bP e5;have hq5l:q < S5.length:=bP hq5;show ab (show fX (.nm 4) (eN (tr1,tr2,tr3)) [gV (.ref r),gV (.int v),gV (bY ms ns [0,1] []),gV (.ref S3.length),x4,x5,x6,x7,x8,x9] S5=gV ([gV (.ref r),gV (.int v),gV (bY ms ns [0,1] []),gV (.ref S3.length),gV (eN (tr1,tr2,tr3)),x5,x6,x7,x8,x9],S5)from rfl) λQ3 hn3 _=>?_
   nofun
   show eM rfl rfl ?_;dsimp only[wE,wA,wV,wG];show#[S5.length,[(1,1,0),(1,1,1),(1,0,1),(0,1,1)].map eN,(λ_ Z S'=>(∃x5 x6 x7 x8 x9,Z=[gV (.ref r),gV (.int v),gV (bY ms ns [0,1] []),gV (.ref S3.length),gV (eN (tr1,tr2,tr3)),x5,x6,x7,x8,x9])/\(∃U fs,S'[S3.length]?=gV (.dic U)/\FigD (aE 2 [0,1]) U fs)/\S'[q]?=gV (.lst (ts.map eN))/\S'[S5.length]?=gV (.lst ([(1,1,0),(1,1,1),(1,0,1),(0,1,1)].map eN))/\Fl S' r/\Kp r S S'),rfl,#[#[_,_,_,_,_,rfl],#[U,fs,aq e5,hd],aq hq5,ak,f5.ka .push,k5.trans .push],λi Z S' h=>h.2.2.2.1,?_,?_]
   ·rintro i w Z S6 hw ⟨⟨x5,x6,x7,x8,x9,rfl⟩,⟨U,fs,e6,hd⟩,hq6,hl6,f6,k6⟩;clear hK hn3;rw[GM,GD]at hw;obtain⟨⟨y1,y2,y3⟩,hy,rfl⟩:=hw;have hy':(0<=y1/\y1 < 2)/\(0<=y2/\y2 < 2)/\(0<=y3/\y3 < 2):=by
     have:∀p∈([(1,1,0),(1,1,1),(1,0,1),(0,1,1)]:Gy (G1×G1×G1)),(0<=p.1/\p.1 < 2)/\(0<=p.2.1/\p.2.1 < 2)/\(0<=p.2.2/\p.2.2 < 2):=by decide
     exact this _ (GV hy)
    show ab (show fX (.tp [5,6,7]) (eN (y1,y2,y3)) [gV (.ref r),gV (.int v),gV (bY ms ns [0,1] []),gV (.ref S3.length),gV (eN (tr1,tr2,tr3)),x5,x6,x7,x8,x9] S6=gV ([gV (.ref r),gV (.int v),gV (bY ms ns [0,1] []),gV (.ref S3.length),gV (eN (tr1,tr2,tr3)),gV (.int y1),gV (.int y2),gV (.int y3),x8,x9],S6)from rfl) λQ4 hn4 _=>?_
    nofun
    left;show ah #v[] rfl (ah #v[] rfl (hK _ _ ?_))
    clear hK K;have hu:GoodW 2 2 [(tr1,[]),(tr2,[y1]),(tr3,[y2,y3])]:=AB t1 t2 t3 hy'.1 hy'.2.1 hy'.2.2;show st ?_;left;show ah #v[] rfl (ab (dY (fP rfl)) ?_)
    show fQ (d:=d+2) (m0:=.tup (ms.map W.str)) (b0:=.tup []) (bs:=[0,1]) (u:=[(tr1,[]),(tr2,[y1]),(tr3,[y2,y3])]) G (.inr (.inl rfl)) hnl hu rfl λS7 k7=>?_
    have e7:=k7.get _ _ e6;exact si e7 hd hsz hu rfl λo ho=>bg (hn4 _ _ #[#[_,_,_,_,_,rfl],ho,by rw[bn ∅]; exact k7.get _ _ hq6,by rw[bn ∅]; exact k7.get _ _ hl6,(f6.ka k7).own hrt,(k6.trans (k7.kp r)).late kk.len])
   ·rintro Z S6 ⟨⟨x5,x6,x7,x8,x9,rfl⟩,hdd,hq6,hl6,f6,k6⟩;exact hK _ _ (bg (hn3 _ _ #[#[_,_,_,_,_,_,rfl],hdd,hq6,f6,k6]))
  ·rintro Z S5 ⟨⟨x4,x5,x6,x7,x8,x9,rfl⟩,⟨U,fs,e5,hd⟩,hq5,f5,k5⟩;show hK _ _ (st ?_);left;exact sh (Q:=λp=>Q2 (.rt p.1,p.2)) e5 hd hsz hml hnl hnm λw S8 hw k8=>hr _ _ (k w S8 hw (f5.ka k8) (k5.trans (k8.kp r)))
 clear hK K hn;nofun
 left;show aR (d:=d+4) G.pick f1 #v[] #v[] λv2 S2 v20 v22 f2 k2=>?_
 dsimp only[dX,aM];obtain⟨a,ea⟩ : ∃a:GJ,2+v2=a:=#[(2+v2).toNat,∅]
 rw[ea];have ha:a=2\/a=3:=∅
 show hK _ _ ?_;clear hK K;nofun
 dsimp only[wS,wE,GX];show ey (a:G1) (λi zs Z2 S3=>(∃a1,Z2=[td,a1,gV (.int a)])/\zs=((d8 i).map (xg a)).map aA/\S3=S2) rfl rfl rfl ∅ #[rfl,#[td,rfl],rfl,rfl] ?_ ?_
 ·rintro i zs Z2 S3 hi ⟨⟨a1,rfl⟩,rfl,rfl⟩;dsimp only[fu,wC,wE,wA,wV,wG,GX,kA,aM];show#[λ_=>#[#[_,rfl],?_,rfl],λz=>by cases z]
  simp[d8,Jg,xg,aA,aK]
 ·rintro zs Z2 S3 ⟨_,rfl,rfl⟩;rw[G0];have hul:(d8 a).length=a:=by simp[d8]
  show#[lp (by rw[Gz,Gz,hul]; omega),hK _ _ (st ?_)]
  clear hK K;dsimp only[wS,wE,wA,wP,wV,wG];show aR (d:=d+4) G.pick (f2.ka .push) ∅ ∅ λv4 S4 v40 v4a f4 k4=>?_
  dsimp only[dX,aM,wN];obtain⟨mm,em⟩ : ∃mm:GJ,1+v4=mm:=#[(1+v4).toNat,∅]
  rw[em];have hlt2:=f2.lt;have e4:S4[S3.length]?=gV (.lst (((d8 a).map (xg a)).map aA)):=k4.get _ _ ∅ ak
  have hsl:mE (.ref S3.length) td (gV (mm:G1)) S4=gV (.ref S4.length,S4++[.lst ((((d8 a).map (xg a)).take mm).map aA)]):=by
   simp only[mE,aD e4,eL,Kr]
  show ab hsl ?_;have hlt4:=f4.lt;have hmem:∀g∈((d8 a).map (xg a)).take mm,g∈aE a [0]:=λg hg=>by
   obtain⟨x,hx,rfl⟩:=G4.mp (JH hg);rcases ha with rfl|rfl
   ·exact xh x hx
   ·exact xi x hx
  show gk (d:=d) (a:=a) (bs:=[0]) (us:=((d8 a).map (xg a)).take mm) hfu G (f4.ka .push) ∅ #v[] (λS' kk=>?_) (by rw[Hu,Gz,hul]; omega) (λu hu=>kF (hmem u hu)) λms ns S5 hml hnl hnm f5 k5=>?_
  ·simp only[cJ,aD (kk.get _ _ ∅ ak)]
  show k _ _ #[a,[0],ms,ns,_,rfl,#[#[∅,ip,by simp; omega,∅],hml,hnl,hnm,?_,hmem]] f5 (k1.trans (k2.trans (Kp.push.trans (k4.trans (Kp.push.trans k5)))))
  show Pg (M9 _ _) ?_;unfold Pf d8;rw[IT,IT];exact(Kd (n:=a)).imp λh e=>h (by have:=zU e; omega)
end
abbrev su:Ss:=
 #v[.ite (.cmp .gt (.v 2) (.v 3)) #v[.ret (.ix (.ix (.ix (.v 1) (.v 2)) (.c (.int 1))) (.v 3))] .nil,.ret (.ix (.ix (.ix (.v 0) (.c (.int 1))) (.ix (.ix (.ix (.v 1) (.v 3)) (.c (.int 1))) (.v 2))) (.c (.int 1)))]
abbrev i4:Ss:=
 #v[.ret (.bi .tuple #v[.comp (.own "point_over" 4 #v[.v 4,.v 5,.sl (.v 3) .no (.yes (.v 1)),.v 2]) (.tp [1,2]) (.enu #v[.v 2]) .nil [td,td,td,gV 2,gV 0,gV 1]])]
abbrev dF:Ss:=
 #v[.ret (.tup #v[.ix (.ix (.v 1) (.v 3)) (.c (.int 0)),.bi .tuple #v[.comp (.own "way" 4 #v[.v 3,.v 4,.v 2,.v 1]) (.nm 1) (.seq (.v 2)) .nil [td,td,gV 3,gV 0,gV 1]]])]
section
variable{defs:Gy (Hc×Df)}{fuel d:GJ}{S:aa}{r:GJ}{Q:QW}
def xl {M:Hc->FF}{m0 b0:W}{ns:Gy Hc}{bs:Gy G1}{a:GJ}{u:Wd}{i j:GJ}{Q:QO}(hb:GoodB bs)(hl:ns.length=bs.length)(hu:GoodW a bs.length u)(hi:i < u.length)(hj:j < u.length)(hij:i≠j)(k:Q (.rt (.int (bK bs u i j)),S)) :
  wZ M fuel su [gV (.tup [m0,.tup (G3 aF ns bs),b0]),gV (aA u),gV (.int i),gV (.int j)] S Q:=by
 have hpi:=am (d:=(0,[])) hi;have hpj:=am (d:=(0,[])) hj;unfold bK at k;dsimp only[su];nofun
 dsimp only[wS,wT,wE,wV,wG,Cg,wO,wB,aA];show ap (Q0:=Q) (λh Q2 _ hr=>?_) (λh Q2 hn _=>?_)
 ·have hji:j < i:=by have:=HS h; omega
  rw[Hf hji]at k;have hw:j < (u.getD i (0,[])).2.length:=by rw[hu.len i _ hpi]; exact hji
  show st ?_;dsimp only[wS,wE,wV,wG];show ah (GR i) (cM hi) (ah #v[] rfl (ah (GR j) ?_ (hr _ _ k)))
  rw[G0,GM,am (d:=0) hw]; rfl
 ·have hji:¬ j < i:=by have:=Kw h; omega
  rw[Hl hji]at k;show bg (hn _ _ (hK _ _ ?_));clear hn hK;have hw:i < (u.getD j (0,[])).2.length:=by rw[hu.len j _ hpj]; omega
  have hg:=am (d:=0) hw;obtain⟨g1,g2⟩:=hu.way j _ hpj _ (GV hg);obtain⟨b,hb1,hb2,hb3⟩:=hb.rng ((u.getD j (0,[])).2.getD i 0).toNat ∅
  have hn:((u.getD j (0,[])).2.getD i 0).toNat < ns.length:=∅
  rw[getD_some hb1]at k;show st ?_;dsimp only[wS,wE,wV,wG];show ah #v[] rfl (ah (GR j) (cM hj) (ah #v[] rfl (ah (GR i) ?_ (ah g1 (iX (G5 hn) hb1) (ah #v[] rfl k)))))
  rw[G0,GM,hg]; rfl
structure Parts (defs:Gy (Hc×Df)):Prop where
 way:Is defs ("way" : Hc) 4 4 su
 over:Is defs ("point_over" : Hc) 4 4 dF
def El (P:Parts defs){m0 b0:W}{ns:Gy Hc}{bs:Gy G1}{a:GJ}{u:Wd}{i j:GJ}(hb:GoodB bs)(hl:ns.length=bs.length)(hu:GoodW a bs.length u)(hi:i < u.length)(hj:j < u.length)(hij:i≠j)(k:Q (.int (bK bs u i j),S)) :
  wO (aP (au defs fuel (d+1)) "way" 4 [.tup [m0,.tup (G3 aF ns bs),b0],aA u,.int i,.int j] S) Q:=
 az P.way rfl rfl λQ' hR=>xl hb hl hu hi hj hij (hR _ _ k)
def Co (P:Parts defs){m0 b0:W}{ns:Gy Hc}{bs:Gy G1}{a:GJ}{u:Wd}{ps:Gy GJ}{i:GJ}(hb:GoodB bs)(hl:ns.length=bs.length)(hu:GoodW a bs.length u)(hps:∀p∈ps,p < u.length/\i≠p)(hi:i < u.length)(hsz:ps.length<=1000)(k:∀S',Ka S S'->Q (aK ((u.getD i (0,[])).1,ps.map λq=>bK bs u i q),S')) :
  wO (aP (au defs fuel (d+2)) "point_over" 4 [.tup [m0,.tup (G3 aF ns bs),b0],aA u,.tup (aj ps),.int i] S) Q:=by
 show az P.over rfl rfl λQ' hR=>?_
 replace k:∀S',Ka S S'->Q' (.rt (aK ((u.getD i (0,[])).1,ps.map λq=>bK bs u i q)),S'):=λS' a=>hR _ _ (k S' a)
 clear hR;change wZ _ _ dF [gV (.tup [m0,.tup (G3 aF ns bs),b0]),gV (aA u),gV (.tup (aj ps)),gV (.int i)] S Q';generalize hR0:W.tup [m0,.tup (G3 aF ns bs),b0]=R;dsimp only[dF];show st ?_;left;show ah (GR i) (cM hi) (ah #v[] rfl ?_)
 show r8 (aj ps) (λj ys Z2 S2=>(∃a1,Z2=[td,a1,gV (.int i),gV R,gV (aA u)])/\ys=(ps.take j).map (λq=>W.int (bK bs u i q))/\Ka S S2) rfl rfl rfl #[rfl,#[td,rfl],rfl,.refl] ?_ ?_
 ·rintro j w ys Z2 S2 hw ⟨⟨a1,rfl⟩,rfl,k2⟩;unfold aj at hw;rw[GM,GD]at hw;obtain⟨q,hq,rfl⟩:=hw;obtain⟨hqu,hqi⟩:=hps q (GV hq);show ab (show fX (.nm 1) (.int (q:G1)) [td,a1,gV (.int i),gV R,gV (aA u)] S2=gV ([td,gV (.int (q:G1)),gV (.int i),gV R,gV (aA u)],S2)from rfl) ?_
  dsimp only[fu,wC,wE,wA,wV,wG];subst hR0;show#[λ_=>El (d:=d) P hb hl hu hi hqu hqi #[#[_,rfl],?_,k2],λz=>by cases z]
  rw[HK,hq];simp
 ·rintro ys Z2 S2 ⟨_,rfl,k2⟩;rw[show(aj ps).length=ps.length from Gz ..,HY]
  show#[lp (by rw[Gz]; exact hsz),cF ak ?_]
  have:=k _ (k2.trans (Ka.push (o:=O.lst (ps.map λq=>W.int (bK bs u i q)))))
  unfold aK at this;rw[HL]at this;exact this
def Em (P:Parts defs)(hp:Is defs ("part" : Hc) 3 3 i4){m0 b0:W}{ns:Gy Hc}{bs:Gy G1}{a:GJ}{u:Wd}{ps:Gy GJ}(hb:GoodB bs)(hl:ns.length=bs.length)(hu:GoodW a bs.length u)(hps:∀p∈ps,p < u.length)(hnd:ps.Nodup)(hsz:ps.length<=1000)(k:∀S',Ka S S'->Q (aA (ag bs u ps),S')) :
  wO (aP (au defs fuel (d+3)) "part" 3 [.tup [m0,.tup (G3 aF ns bs),b0],aA u,.tup (aj ps)] S) Q:=by
 show az hp rfl rfl λQ' hR=>?_
 replace k:∀S',Ka S S'->Q' (.rt (aA (ag bs u ps)),S'):=λS' a=>hR _ _ (k S' a)
 clear hR;change wZ _ _ i4 [gV (.tup [m0,.tup (G3 aF ns bs),b0]),gV (aA u),gV (.tup (aj ps))] S Q';generalize hR0:W.tup [m0,.tup (G3 aF ns bs),b0]=R;dsimp only[i4];show st ?_;dsimp only[wS,wE,wA];show zF (aj ps) (λj ys Z2 S2=>(∃a1 a2,Z2=[td,a1,a2,gV (.tup (aj ps)),gV R,gV (aA u)])/\ys=((ag bs u ps).take j).map aK/\Ka S S2) rfl rfl rfl #[rfl,#[td,td,rfl],rfl,.refl] ?_ ?_
 ·rintro j w ys Z2 S2 hw ⟨⟨a1,a2,rfl⟩,rfl,k2⟩;unfold aj at hw;rw[GM,GD]at hw;obtain⟨q,hq,rfl⟩:=hw;have hj:j < ps.length:=(G9.mp hq).1;have eq:q=ps[j]:=(G9.mp hq).2.symm;show ab (show fX (.tp [1,2]) (.tup [.int (j:G1),.int (q:G1)]) [td,a1,a2,gV (.tup (aj ps)),gV R,gV (aA u)] S2=gV ([td,gV (.int (j:G1)),gV (.int (q:G1)),gV (.tup (aj ps)),gV R,gV (aA u)],S2)from rfl) ?_
  dsimp only[fu,wC,wE,wA,wP,wV,wG,wN];show#[λ_=>ab (a:=(.tup (aj (ps.take j)),S2)) ?_ ?_,λz=>by cases z]
  ·simp only[mE,eL];unfold aj;rw[Kr]
  ·subst hR0;show Co (d:=d) P hb hl hu (λp hp=>#[hps p (JH hp),?_]) (hps q (GV hq)) (by rw[Hu]; omega) λS3 k3=>#[#[_,_,rfl],?_,k2.trans k3]
   ·obtain⟨m,hm,e⟩:=JI.mp hp;rw[Hu]at hm;rw[JG]at e;rw[eq,<- e];intro z;have:=(Iq hnd).mp z;omega
   ·have ep:(ag bs u ps)[j]?=gV ((u.getD q (0,[])).1,(ps.take j).map λq'=>bK bs u q q'):=by
     unfold ag;rw[GM,IG hj,Hv,getD_some hq]
    rw[HK,ep];simp
 ·rintro ys Z2 S2 ⟨_,rfl,k2⟩;rw[show(aj ps).length=ps.length from Gz ..,<- aI bs u ps,HY]
  exact#[lp (by rw[Gz,aI]; exact hsz),cF ak (k _ (k2.trans .push))]
end
section
variable{S:aa}{Q:QW}
def pb:∀(xs:Gy GJ) (i:GJ),(aj xs).eraseIdx i=aj (xs.eraseIdx i)
 | [],i=>by cases i <;> rfl
 | x::xs,0=>rfl
 | x::xs,i+1=>by
  change W.int (x:GJ)::(aj xs).eraseIdx i=W.int (x:GJ)::aj (xs.eraseIdx i);rw[pb xs i]
def tZ (n:GJ):yE 0 ((n:G1) - 0).toNat=aj (GL n):=by
 unfold yE aj;rw[show((n:G1) - 0).toNat=n by omega]
 exact HH λk _=>by rw[KN]
def zV {i n:GJ}(h:S[i]?=gV (.rng 0 n))(hn:n<=1000)(q:Q (.ref S.length,S++[.lst (aj (GL n))])):wO (Bi.list.fn [.ref i] S) Q:=by
 show ab ?_ q;have h1:sW S i=gV (0,(n:G1)):=by simp[sW,h]
 have h2:g8 [.ref i] S=gV (.ref S.length,S++[.lst (aj (GL n))]):=by
  (dsimp only[g8]; simp only[h1])
  rw[Hf #[∅,∅,∅,∅,by rw[HR]; omega],tZ]
 simp only[Bi.fn,B0,h2]
def En {t:GJ}{xs:Gy W}{v:G1}{w:W}(h:S[t]?=gV (.lst xs))(h0:0<=v)(hw:xs[v.toNat]?=gV w)(hl:xs.length<=1000)(q:Q (w,S.set t (.lst (xs.eraseIdx v.toNat)))):wO (Me.pop.fn (.ref t) [.int v] S) Q:=by
 show ab ?_ q;have hv:=(G9.mp hw).1;have hs:seqIndex? v xs.length=gV v.toNat:=by
  unfold seqIndex?;rw[Hl (show ¬ v < 0 by omega)]
  exact Hf (by rw[GK]; exact#[HI h0,HI ∅])
 (dsimp only[Me.fn,yD]; simp only[bx h])
 rw[Hf #[∅,∅]]
 simp only[hs,hw]
end
abbrev jm (bs:Gy G1)(v:Wd)(ps:Gy GJ)(i:GJ):Pt:=((v.getD i (0,[])).1,ps.map λq=>bK bs v i q)
abbrev bZ (n:GJ)(os:Gy (Gy GJ)):Gy (Gy GJ):=os.flatMap λo=>((GL n).filter λp=>decide (p∉o)).map λp=>o++[p]
def gm (bs:Gy G1)(v:Wd)(o:Gy GJ)(p:GJ):ag bs v (o++[p])=ag bs v o++[jm bs v o p]:=by
 unfold ag jm;rw[GQ,Ij,Jg,Hk];congr 1
 ·show HH λk hk=>?_
  have hk:=G2.mp hk;rw[show(o++[p]).getD k 0=o.getD k 0 by simp[Hr hk],List.take_append_of_le_length ∅]
 ·simp
def qB {xs:Gy G1}{k:GJ}(h:xs.length=k):(GL k).map (λq=>xs.getD q 0)=xs:=by
 apply Kc
 ·simp[h]
 ·intro i h1 h2; simp[h2]
def t4 {bs:Gy G1}{a n:GJ}{u:Wd}{k:GJ}(hu:GoodW a n u)(hk:k < u.length):jm bs u (GL k) k=u.getD k (0,[]):=by
 unfold jm;have hl:=hu.len k _ (am (d:=(0,[])) hk);have e:((GL k).map λq=>bK bs u k q)=(u.getD k (0,[])).2:=by
  show Eq.trans (HH λq hq=>?_) (qB hl)
  have hq:=G2.mp hq;unfold bK;rw[Hf hq]
 rw[e]
def pc {n:GJ}:∀os:Gy (Gy GJ),(bZ n os).length<=os.length*n
 | []=>by simp[bZ]
 | o::os=>by
  have ih:=pc (n:=n) os;unfold bZ at ih ⊢;rw[Nq,GQ,Gz,HJ,OI];have:=IX (λp=>decide (p∉o)) (GL n)
  rw[Hg]at this;omega
def t8 {n:GJ}{os:Gy (Gy GJ)}{i:GJ}:(bZ n (os.take i)).length<=os.length*n:=by
 show HB (pc _) (Nat.mul_le_mul_right _ ?_);rw[Hu]; omega
def i5 {S:aa}{d:GJ}:∀xs ys:Gy G1,jv (iE S d) (xs.map W.int) (ys.map W.int)=gV (decide (xs=ys))
 | [],[]=>rfl
 | [],_::_=>rfl
 | _::_,[]=>rfl
 | x::xs,y::ys=>by
  have e:iE S d (.int x) (.int y)=gV (x==y):=by cases d <;> rfl
  simp only[HX,jv,e,i5 xs ys]
  by_cases h:x=y
  ·subst h; by_cases h2:xs=ys <;> simp[h2]
  ·have h':(x==y)=false:=by simpa using h
   simp[h,h']
def pd {p:GJ}:∀ps:Gy GJ,((aj ps).any λz=>nH z (.int p))=decide (p∈ps)
 | []=>rfl
 | q::ps=>by
  show((q:G1)==(p:G1)||(aj ps).any _)=_
  rw[pd ps]
  by_cases h:q=p
  ·subst h; simp
  ·have h1:((q:G1)==(p:G1))=false:=by simp; omega
   have h2:¬ p=q:=λe=>h e.symm
   rw[h1]; simp[h2]
def t9 (ps:Gy GJ):(aj ps).all aV=true:=by
 rw[G7];intro x hx;obtain⟨p,_,rfl⟩:=G4.mp hx;rfl
def xm {S:aa}{p:GJ}{ps:Gy GJ}:bo .notin (.int p) (.tup (aj ps)) S=gV (.bl (decide (p∉ps)),S):=by
 change dz .notin (.int p) (.tup (aj ps)) S=_;have hf:(aV (.int p)&&(aj ps).all aV)=true:=by rw[t9]; rfl
 simp only[dz,ut,yA,dc,hf,JE,Hv,pd];congr 3
 by_cases h:p∈ps <;> simp[h]
def xn {xs:Gy W}:jw xs td (gV (-1))=xs.dropLast:=by
 unfold jw;rw[HT.jQ,Og,Nn,List.dropLast_eq_take];congr 1;show(if (-1:G1) < 0 then((-1:G1)+(xs.length:G1)).toNat else min (-1:G1).toNat xs.length)=_
 rw[Hf #v[]]; omega
abbrev bu:Ss:=
 #v[.set 2 (.lst .nil),.loop (.nm 3) (.seq (.v 0)) #v[.ex (.me .extend (.v 2) #v[.comp (.op .add (.v 2) (.tup #v[.v 1])) (.nm 1) (.rng #v[.v 1]) #v[.cmp .notin (.v 1) (.v 2)] [td,td,gV 3]])],.ret (.v 2)]
abbrev cb (os:Gy (Gy GJ)):Gy W:=os.map λo=>.tup (aj o)
section
variable{defs:Gy (Hc×Df)}{fuel d:GJ}{S:aa}{Q:QW}
def Cp {t l:GJ}{xs ys:Gy W}(h:S[t]?=gV (.lst xs))(h2:S[l]?=gV (.lst ys))(hl:xs.length+ys.length<=1000000)(q:Q (.non,S.set t (.lst (xs++ys)))):wO (Me.extend.fn (.ref t) [.ref l] S) Q:=by
 show ab ?_ q;simp only[Me.fn,jB,bx h,bx h2];rw[Hf (by rw[HR]; omega)]
def i6 {n:GJ}(h:n<=1000000):n<=sizeLine:=by rw[HR]; omega
def xo (hg:Is defs ("longer_orders" : Hc) 2 4 bu){n l:GJ}{os:Gy (Gy GJ)}(e:S[l]?=gV (.lst (cb os)))(hn:n<=100)(hol:∀o∈os,o.length<=100)(hos:os.length*n<=100000)
  (k:∀(q:GJ) (S':aa),S'[q]?=gV (.lst (cb (bZ n os)))->S.length<=q->Ka S S'->Q (.ref q,S')) :
  wO (aP (au defs fuel (d+1)) "longer_orders" 2 [.ref l,.int n] S) Q:=by
 show az hg rfl rfl λQ' hR=>?_
 replace k:∀(q:GJ) (S':aa),S'[q]?=gV (.lst (cb (bZ n os)))->S.length<=q->Ka S S'->Q' (.rt (.ref q),S'):=λa b c e f=>hR _ _ (k a b c e f)
 clear hR;change wZ _ _ bu [gV (.ref l),gV (.int n),td,td] S Q';have hlS:=bP e;dsimp only[bu];show st ?_;dsimp only[wS,wE,wA,GX];nofun
 show r6 l (cb os) (λi Z S'=>(∃a3,Z=[gV (.ref l),gV (.int n),gV (.ref S.length),a3])/\S'[l]?=gV (.lst (cb os))/\S'[S.length]?=gV (.lst (cb (bZ n (os.take i))))/\Ka S S') rfl rfl #[rfl,#[td,rfl],aq e,ak,.push] (λi Z S' h=>h.2.1) ?_ ?_
 ·rintro i w Z S1 hw ⟨⟨a3,rfl⟩,e0,e1,k1⟩;clear hK k;unfold cb at hw;rw[GM,GD]at hw;obtain⟨o,ho,rfl⟩:=hw;have hol:=hol o (GV ho);show ab (show fX (.nm 3) (.tup (aj o)) [gV (.ref l),gV (.int n),gV (.ref S.length),a3] S1=gV ([gV (.ref l),gV (.int n),gV (.ref S.length),gV (.tup (aj o))],S1)from rfl) ?_
  intro Q2 hn _;show st ?_;left;show#[cg e1,?_];show ey (n:G1) (λj ys Z2 S2=>(∃a1,Z2=[td,a1,gV (.tup (aj o))])/\ys=cb (((GL j).filter λp=>decide (p∉o)).map λp=>o++[p])/\S2=S1) rfl rfl rfl ∅ #[rfl,#[td,rfl],rfl,rfl] ?_ ?_
  ·rintro j ys Z2 S2 hj ⟨⟨a1,rfl⟩,rfl,rfl⟩;dsimp only[fu,wC,wE,wA,wV,wG,GX];show ab xm ?_;dsimp only[wB];have er:(GL (j+1)).filter (λp=>decide (p∉o))=(GL j).filter (λp=>decide (p∉o))++(if j∉o then[j]else[]):=by
    rw[Jg,Kx];congr 1
    by_cases h:j∈o <;> simp[h]
   show#[λh=>?_,λh=>#[#[_,rfl],?_,rfl]]
   ·have h:j∉o:=HS h;show ab (dY (i6 (by rw[GQ,show(aj o).length=o.length from Gz ..]; show _+1<=_; omega))) #[#[_,rfl],?_,rfl]
    rw[er,Hf h,Hk];unfold cb;rw[Hk];simp[aj]
   ·have h:¬ j∉o:=Kw h;rw[er,Hl h,Iv]
  ·rintro ys Z2 S2 ⟨_,rfl,rfl⟩;rw[G0];have hlen:(cb (((GL n).filter λp=>decide (p∉o)).map λp=>o++[p])).length<=n:=by
    unfold cb;rw[Gz,Gz];exact HB (IX _ _) (by rw[Hg]; exact GY _)
   have e1':=aq (u:=O.lst (cb (((GL n).filter λp=>decide (p∉o)).map λp=>o++[p]))) e1
   have hlt:=t8 (n:=n) (os:=os) (i:=i);have hlw:(cb (bZ n (os.take i))).length=(bZ n (os.take i)).length:=Gz ..;show#[i6 ∅,Cp e1' ak ∅ (bg (hn _ _ #[#[_,rfl],?_,?_,(k1.trans .push).late (GY _)]))]
   ·rw[bn ∅]; exact aq e0
   ·rw[br e1'];unfold bZ cb;rw[HK,ho];simp
 ·rintro Z S1 ⟨⟨a3,rfl⟩,e0,e1,k1⟩;rw[show(cb os).length=os.length from Gz ..,HY]at e1
  exact hK _ _ (st (k _ _ e1 (GY _) k1))
def Cq {t:GJ}{xs:Gy W}{y:W}(h:S[t]?=gV (.lst xs))(hl:xs.length < 1000000)(q:Q (.non,S.set t (.lst (xs++[y])))):wO (Me.append.fn (.ref t) [y] S) Q:=ab (r0 h (by rw[HR]; omega)) q
end
def Cr {S:aa}{i j:GJ}{xs ys:Gy G1}(h1:S[i]?=gV (.lst (xs.map W.int)))(h2:S[j]?=gV (.lst (ys.map W.int))):bo .eq (.ref i) (.ref j) S=gV (.bl (decide (xs=ys)),S):=by
 show(iE S (19+1) (.ref i) (.ref j)).map _=_
 (dsimp only[iE]; simp only[bx h1,bx h2,i5])
 split
 ·rfl
 ·rename_i h;have:xs≠ys:=λe=>h (by rw[e])
  simp[this]
def pe:∀xs:Gy G1,ee (xs.map T.int)=true
 | []=>rfl
 | _::xs=>pe xs
def jH:∀u:Wd,ee (u.map gJ)=true
 | []=>rfl
 | p::u=>by
  simp only[HX,ee,GK];show#[?_,jH u];simp[gJ,g9,ee,pe]
def nA (u:Wd):g9 (aL u)=true:=jH u
abbrev cZ:Ss:=
 #v[.set 4 (.tup #v[.ix (.ix (.v 0) (.v 1)) (.c (.int 0)),.tup .nil]),.set 5 (.tup #v[.ix (.ix (.v 0) (.v 2)) (.c (.int 0)),.tup #v[.ix (.ix (.ix (.v 0) (.v 2)) (.c (.int 1))) (.v 1)]]),.ret (.tup #v[.v 4,.v 5,.tup #v[.ix (.ix (.v 0) (.v 3)) (.c (.int 0)),.tup #v[.ix (.ix (.ix (.v 0) (.v 3)) (.c (.int 1))) (.v 1),.ix (.ix (.ix (.v 0) (.v 3)) (.c (.int 1))) (.v 2)]]])]
abbrev dv (u:Wd)(i j k:GJ):Wd:=[((u.getD i (0,[])).1,[]),((u.getD j (0,[])).1,[(u.getD j (0,[])).2.getD i 0]),((u.getD k (0,[])).1,[(u.getD k (0,[])).2.getD i 0,(u.getD k (0,[])).2.getD j 0])]
section
variable{defs:Gy (Hc×Df)}{fuel d:GJ}{S:aa}{Q:QW}
def zW (hg:Is defs ("three_at" : Hc) 4 6 cZ){a n:GJ}{u:Wd}{i j k:GJ}(hu:GoodW a n u)(h1:i < j)(h2:j < k)(h3:k < u.length)(q:Q (aA (dv u i j k),S)) :
  wO (aP (au defs fuel (d+1)) "three_at" 4 [aA u,.int i,.int j,.int k] S) Q:=by
 show az hg rfl rfl λQ' hR=>?_
 replace q:=hR _ _ q;clear hR;change wZ _ _ cZ [gV (aA u),gV (.int i),gV (.int j),gV (.int k),td,td] S Q';have hi:i < u.length:=∅
 have hj:j < u.length:=∅
 have lj:i < (u.getD j (0,[])).2.length:=by rw[hu.len j _ (am (d:=(0,[])) hj)]; exact h1
 have lk:j < (u.getD k (0,[])).2.length:=by rw[hu.len k _ (am (d:=(0,[])) h3)]; exact h2
 have lki:i < (u.getD k (0,[])).2.length:=∅
 have w:∀ {p m:GJ},m < (u.getD p (0,[])).2.length->((u.getD p (0,[])).2.map W.int)[((m:GJ):G1).toNat]?=gV (.int ((u.getD p (0,[])).2.getD m 0)):=λ{p m} h=>by
  rw[G0,GM,am (d:=0) h]; rfl
 dsimp only[cZ];show st ?_;left;show ah (GR i) (cM hi) (ah #v[] rfl ?_)
 show st ?_;left;show ah (GR j) (cM hj) (ah #v[] rfl (ah (GR j) (cM hj) (ah #v[] rfl (ah (GR i) (w lj) ?_))))
 show st ?_;left;exact ah (GR k) (cM h3) (ah #v[] rfl (ah (GR k) (cM h3) (ah #v[] rfl (ah (GR i) (w lki) (ah (GR k) (cM h3) (ah #v[] rfl (ah (GR j) (w lk) q)))))))
end
abbrev iw (U:Gy (T×W))(u:Wd)(i j k:GJ):Hi:=(bS U (aL (dv u i j k))).isSome
structure HasD (U:Gy (T×W))(L:Gy Wd):Prop where
 iff:∀t,t∈U.map (·.1)↔t∈L.map aL
 len:U.length<=L.length
def xp {U:Gy (T×W)}{t:T}:(bS U t).isSome=true↔t∈U.map (·.1):=by
 constructor
 ·intro h;obtain⟨v,hv⟩:=HW.mp h;exact G4.mpr #[_,kH hv,rfl]
 ·intro h;obtain⟨p,hp,rfl⟩:=G4.mp h;obtain⟨v,hv⟩:=sj hp;rw[hv]; rfl
def HasD.get {U:Gy (T×W)}{L:Gy Wd}(h:HasD U L)(t:T):(bS U t).isSome=decide (t∈L.map aL):=by
 rw[IE,xp,h.iff,Hm]
def HasD.nil:HasD [] []:=#[λt=>by simp,GY _]
def HasD.put {U:Gy (T×W)}{L:Gy Wd}{f:Wd}{v:W}(h:HasD U L):HasD (d4 U (aL f) v) (L++[f]):=by
 show#[λt=>?_,?_]
 ·rw[iY,Hk,HF,<- h.iff t]
  by_cases hk:aL f∈U.map (·.1)
  ·rw[Hf hk];constructor
   ·exact .inl
   ·rintro(z|z)
    ·exact z
    ·rw[G8.mp z]; exact hk
  ·rw[Hl hk,HF]; rfl
 ·have:=cC U (aL f) v;have:=h.len;rw[GQ,Ij]; omega
abbrev eO:Ss:=
 #v[.set 1 .dnew,.loop (.nm 2) (.seq (.ix (.v 0) (.c (.int 2)))) #v[.loop (.nm 3) (.seq (.own "_law_turns" 0 .nil)) #v[.put (.v 1) (.own "_law_part" 3 #v[.v 0,.v 2,.v 3]) (.c (.bl true))]],.ret (.v 1)]
abbrev aw (bs:Gy G1)(gs:Gy Wd):Gy Wd:=gs.flatMap λg=>ar.map (ag bs g)
def kI (bs:Gy G1):∀gs:Gy Wd,(aw bs gs).length=6*gs.length
 | []=>rfl
 | g::gs=>by
  have:=kI bs gs;unfold aw at this ⊢;rw[Nq,GQ,this,HJ,Gz,show ar.length=6 from rfl]; omega
section
variable{defs:Gy (Hc×Df)}{fuel d:GJ}{S:aa}{Q:QW}
def Eo (G:Gen defs)(hg:Is defs ("_law_bad" : Hc) 1 4 eO){m0:W}{ns:Gy Hc}{bs:Gy G1}{a:GJ}{gs:Gy Wd}(hb:GoodB bs)(hnl:ns.length=bs.length)(hgs:∀g∈gs,GoodW a bs.length g/\g.length=3)(h64:gs.length<=100)
  (k:∀(q:GJ) (U:Gy (T×W)) (S':aa),S'[q]?=gV (.dic U)->HasD U (aw bs gs)->S.length<=q->Ka S S'->Q (.ref q,S')) :
  wO (aP (au defs fuel (d+3)) "_law_bad" 1 [.tup [m0,.tup (G3 aF ns bs),.tup (gs.map aA)]] S) Q:=by
 show az hg rfl rfl λQ' hR=>?_
 replace k:∀(q:GJ) (U:Gy (T×W)) (S':aa),S'[q]?=gV (.dic U)->HasD U (aw bs gs)->S.length<=q->Ka S S'->Q' (.rt (.ref q),S'):=λa b c e f g h=>hR _ _ (k a b c e f g h)
 clear hR;change wZ _ _ eO [gV (.tup [m0,.tup (G3 aF ns bs),.tup (gs.map aA)]),td,td,td] S Q';generalize hR0:W.tup [m0,.tup (G3 aF ns bs),.tup (gs.map aA)]=R;dsimp only[eO];show st ?_;dsimp only[wS,wE,GX];nofun
 show for_tup (gs.map aA) (λi Z S'=>(∃a2 a3,Z=[gV R,gV (.ref S.length),a2,a3])/\(∃U,S'[S.length]?=gV (.dic U)/\HasD U (aw bs (gs.take i)))/\Ka S S') rfl rfl ?_ ?_ ?_
 ·dsimp only[wE,wV,wG];subst hR0;exact ah #v[] rfl #[rfl,#[_,_,rfl],#[[],ak,.nil],.push]
 ·rintro i w Z S1 hw ⟨⟨a2,a3,rfl⟩,⟨U,e1,h1⟩,k1⟩;clear hK k;rw[GM,GD]at hw;obtain⟨g,hg1,rfl⟩:=hw;obtain⟨gg,g3⟩:=hgs g (GV hg1);have hi:i < gs.length:=(G9.mp hg1).1;show ab (show fX (.nm 2) (aA g) [gV R,gV (.ref S.length),a2,a3] S1=gV ([gV R,gV (.ref S.length),gV (aA g),a3],S1)from rfl) ?_
  intro Q2 hn _;nofun
  show eM rfl rfl ?_;dsimp only[wE,wA];show jF (d:=d+1) G ?_;show#[S1.length,ar.map (λt=>W.tup (aj t)),(λj Z S'=>(∃a3,Z=[gV R,gV (.ref S.length),gV (aA g),a3])/\(∃U,S'[S.length]?=gV (.dic U)/\HasD U (aw bs (gs.take i)++(ar.take j).map (ag bs g)))/\S'[S1.length]?=gV (.lst (ar.map λt=>W.tup (aj t)))/\Ka S S'),rfl,#[#[_,rfl],#[U,aq e1,by rw[Oi,Nh,Iv]; exact h1],ak,k1.trans .push],λj Z S' h=>h.2.2.1,?_,?_]
  ·rintro j w Z S2 hw ⟨⟨a3,rfl⟩,⟨U2,e2,h2⟩,el,k2⟩;clear hK hn;rw[GM,GD]at hw;obtain⟨t,ht,rfl⟩:=hw;have htm:=GV ht;have tk:t.length<=3/\t.Nodup/\∀p∈t,p < 3:=by
    have:∀t∈ar,t.length<=3/\t.Nodup/\∀p∈t,p < 3:=by decide
    exact this t htm
   show ab (show fX (.nm 3) (.tup (aj t)) [gV R,gV (.ref S.length),gV (aA g),a3] S2=gV ([gV R,gV (.ref S.length),gV (aA g),gV (.tup (aj t))],S2)from rfl) ?_
   intro Q3 hn3 _;show st ?_;left;subst hR0;show wF (d:=d) G hb hnl gg (λp hp=>by have:=tk.2.2 p hp; omega) tk.2.1 ∅ λS3 k3=>?_
   have e3:=k3.get _ _ e2;have hlt:U2.length < sizeLine:=by
    have b1:=h2.len;have b2:=kI bs (gs.take i);rw[GQ,b2,Gz,Hu,Hu,show ar.length=6 from rfl]at b1
    rw[HR]; omega
   show ab (wL e3 hlt) (bg (hn3 _ _ #[#[_,rfl],#[_,br e3,?_],?_,(k2.trans k3).late (GY _)]))
   ·rw[HK,ht,Hk,<- J4];exact h2.put
   ·rw[bn (by have:=k1.len; have:=bP e1; omega)]; exact k3.get _ _ el
  ·rintro Z S2 ⟨⟨a3,rfl⟩,⟨U2,e2,h2⟩,el,k2⟩;rw[Gz,HY]at h2;show hK _ _ (bg (hn _ _ #[#[_,_,rfl],#[U2,e2,?_],k2]));unfold aw at h2 ⊢;rw[HK,hg1,MC]
   simpa using h2
 ·rintro Z S1 ⟨⟨a2,a3,rfl⟩,⟨U,e1,h1⟩,k1⟩;rw[Gz,HY]at h1;exact hK _ _ (st (k _ U S1 e1 h1 (GY _) k1))
end
abbrev bL:Ss:=
 #v[.set 1 (.lst #v[.tup .nil]),.whl (.cmp .lt (.bi .len #v[.ix (.v 1) (.c (.int 0))]) (.c (.int 3))) #v[.set 1 (.own "longer_orders" 2 #v[.v 1,.c (.int 3)])],.set 2 .dnew,.loop (.nm 3) (.seq (.ix (.v 0) (.c (.int 2)))) #v[.loop (.nm 4) (.seq (.v 1)) #v[.put (.v 2) (.own "part" 3 #v[.v 0,.v 3,.v 4]) (.c (.bl true))]],.ret (.v 2)]
abbrev ub:GJ->Gy (Gy GJ)
 | 0=>[[]]
 | i+1=>bZ 3 (ub i)
def ud:ub 3=ar:=by decide
def Cs:∀i,i<=3->(∃o,(ub i)[0]?=gV o/\o.length=i)/\(ub i).length<=6/\∀o∈ub i,o.length<=3:=λi hi=>by
 rcases(show i=0\/i=1\/i=2\/i=3 by omega)with rfl|rfl|rfl|rfl
 ·exact#[#[[],rfl,rfl],#v[],#v[]]
 ·exact#[#[[0],rfl,rfl],#v[],#v[]]
 ·exact#[#[[0,1],rfl,rfl],#v[],#v[]]
 ·exact#[#[[0,1,2],rfl,rfl],#v[],#v[]]
section
variable{defs:Gy (Hc×Df)}{fuel d:GJ}{S:aa}{Q:QW}
def xq (hfu:20 < fuel)(P:Parts defs)(hp:Is defs ("part" : Hc) 3 3 i4)(hl:Is defs ("longer_orders" : Hc) 2 4 bu)(hg:Is defs ("barred_threes" : Hc) 1 5 bL){m0:W}{ns:Gy Hc}{bs:Gy G1}{a:GJ}{gs:Gy Wd}(hb:GoodB bs)(hnl:ns.length=bs.length)(hgs:∀g∈gs,GoodW a bs.length g/\g.length=3)(h64:gs.length<=100)
  (k:∀(q:GJ) (U:Gy (T×W)) (S':aa),S'[q]?=gV (.dic U)->HasD U (aw bs gs)->S.length<=q->Ka S S'->Q (.ref q,S')) :
  wO (aP (au defs fuel (d+4)) "barred_threes" 1 [.tup [m0,.tup (G3 aF ns bs),.tup (gs.map aA)]] S) Q:=by
 show az hg rfl rfl λQ' hR=>?_
 replace k:∀(q:GJ) (U:Gy (T×W)) (S':aa),S'[q]?=gV (.dic U)->HasD U (aw bs gs)->S.length<=q->Ka S S'->Q' (.rt (.ref q),S'):=λa b c e f g h=>hR _ _ (k a b c e f g h)
 clear hR;change wZ _ _ bL [gV (.tup [m0,.tup (G3 aF ns bs),.tup (gs.map aA)]),td,td,td,td] S Q';generalize hR0:W.tup [m0,.tup (G3 aF ns bs),.tup (gs.map aA)]=R;dsimp only[bL];show st ?_;dsimp only[wS,wE,wA,GX];nofun
 show Aw (λm Z S'=>∃(i q:GJ),i+m=3/\Z=[gV R,gV (.ref q),td,td,td]/\S'[q]?=gV (.lst (cb (ub i)))/\S.length<=q/\Ka S S') 3 rfl rfl ∅ #[0,S.length,rfl,rfl,ak,GY _,.push] ?_
 rintro m Z S1 ⟨i,q,him,rfl,e1,hq,k1⟩;obtain⟨⟨o,ho,hol⟩,l6,l3⟩:=Cs i ∅
 dsimp only[wT,wE,wA,wV,wG];show eD (w:=.tup (aj o)) e1 #v[] (by unfold cb; rw[GM,show((0:G1).toNat)=0 from rfl,ho]; rfl) (aY ?_)
 rw[show(aj o).length=o.length from Gz ..,hol]
 dsimp only[qr,aM,wB];show#[λh=>?_,λh=>?_]
 ·have h:(i:G1) < 3:=HS h;show#[m - 1,∅,λQ2 hn _=>?_]
  clear hK k;show st ?_;left;show xo (n:=3) (d:=d+2) hl e1 #v[] (λo ho=>by have:=l3 o ho; omega) ∅ λq2 S2 e2 hq2 k2=>bg (hn _ _ #[i+1,q2,∅,rfl,e2,?_,k1.trans k2])
  exact HB k1.len hq2
 ·have h:¬ (i:G1) < 3:=Kw h;obtain rfl:i=3:=∅
  rw[ud]at e1;show hK _ _ ?_;clear hK K l6 l3 ho hol h him;show st ?_;dsimp only[wS,wE,GX];nofun
  have hq1:=bP e1;show for_tup (gs.map aA) (λi Z S'=>(∃a3 a4,Z=[gV R,gV (.ref q),gV (.ref S1.length),a3,a4])/\(∃U,S'[S1.length]?=gV (.dic U)/\HasD U (aw bs (gs.take i)))/\S'[q]?=gV (.lst (cb ar))/\Ka S S') rfl rfl ?_ ?_ ?_
  ·dsimp only[wE,wV,wG];subst hR0;exact ah #v[] rfl #[rfl,#[_,_,rfl],#[[],ak,.nil],aq e1,k1.trans .push]
  ·rintro i w Z S2 hw ⟨⟨a3,a4,rfl⟩,⟨U,e2,h2⟩,el2,k2⟩;clear hK k;rw[GM,GD]at hw;obtain⟨g,hg1,rfl⟩:=hw;obtain⟨gg,g3⟩:=hgs g (GV hg1);have hi:i < gs.length:=(G9.mp hg1).1;show ab (show fX (.nm 3) (aA g) [gV R,gV (.ref q),gV (.ref S1.length),a3,a4] S2=gV ([gV R,gV (.ref q),gV (.ref S1.length),gV (aA g),a4],S2)from rfl) ?_
   intro Q2 hn _;nofun
   show r6 q (cb ar) (λj Z S'=>(∃a4,Z=[gV R,gV (.ref q),gV (.ref S1.length),gV (aA g),a4])/\(∃U,S'[S1.length]?=gV (.dic U)/\HasD U (aw bs (gs.take i)++(ar.take j).map (ag bs g)))/\S'[q]?=gV (.lst (cb ar))/\Ka S S') rfl rfl #[rfl,#[_,rfl],#[U,e2,by rw[Oi,Nh,Iv]; exact h2],el2,k2] (λj Z S' h=>h.2.2.1) ?_ ?_
   ·rintro j w Z S3 hw ⟨⟨a4,rfl⟩,⟨U3,e3,h3⟩,el3,k3⟩;clear hK hn;unfold cb at hw;rw[GM,GD]at hw;obtain⟨t,ht,rfl⟩:=hw;have tk:t.length<=3/\t.Nodup/\∀p∈t,p < 3:=by
     have:∀t∈ar,t.length<=3/\t.Nodup/\∀p∈t,p < 3:=by decide
     exact this t (GV ht)
    show ab (show fX (.nm 4) (.tup (aj t)) [gV R,gV (.ref q),gV (.ref S1.length),gV (aA g),a4] S3=gV ([gV R,gV (.ref q),gV (.ref S1.length),gV (aA g),gV (.tup (aj t))],S3)from rfl) ?_
    intro Q3 hn3 _;show st ?_;left;subst hR0;show Em (d:=d) P hp hb hnl gg (λp hp=>by have:=tk.2.2 p hp; omega) tk.2.1 ∅ λS4 k4=>?_
    have e4:=k4.get _ _ e3;have hlt:U3.length < sizeLine:=by
     have b1:=h3.len;have b2:=kI bs (gs.take i);rw[GQ,b2,Gz,Hu,Hu,show ar.length=6 from rfl]at b1
     rw[HR]; omega
    show ab (wL e4 hlt) (bg (hn3 _ _ #[#[_,rfl],#[_,br e4,?_],?_,(k3.trans k4).late k1.len]))
    ·rw[HK,ht,Hk,<- J4];exact h3.put
    ·rw[bn ∅]; exact k4.get _ _ el3
   ·rintro Z S3 ⟨⟨a4,rfl⟩,⟨U3,e3,h3⟩,el3,k3⟩;rw[show(cb ar).length=ar.length from Gz ..,HY]at h3
    show hK _ _ (bg (hn _ _ #[#[_,_,rfl],#[U3,e3,?_],el3,k3]));unfold aw at h3 ⊢;rw[HK,hg1,MC]
    simpa using h3
  ·rintro Z S2 ⟨⟨a3,a4,rfl⟩,⟨U,e2,h2⟩,el2,k2⟩;rw[Gz,HY]at h2;exact hK _ _ (st (k _ U S2 e2 h2 k1.len k2))
end
abbrev aN:Ss:=
 #v[.loop (.nm 6) (.rng2 #v[.bi .len #v[.v 5],.bi .len #v[.v 3]]) #v[.set 7 (.lst .nil),.loop (.nm 8) (.rng #v[.bi .len #v[.ix (.v 1) (.c (.int 1))]]) #v[.set 9 (.lst .nil),.loop (.nm 10) (.rng #v[.v 6]) #v[.ex (.me .append (.v 9) #v[.cmp .isin (.tup #v[.tup #v[.ix (.ix (.v 3) (.v 10)) (.c (.int 0)),.tup .nil],.tup #v[.ix (.ix (.v 3) (.v 6)) (.c (.int 0)),.tup #v[.ix (.ix (.ix (.v 3) (.v 6)) (.c (.int 1))) (.v 10)]],.tup #v[.v 4,.tup #v[.ix (.v 5) (.v 10),.v 8]]]) (.v 2)])],.ite (.cmp .notin (.c (.bl true)) (.v 9)) #v[.ex (.me .append (.v 7) #v[.v 8])] .nil],.ite (.cmp .eq (.v 7) (.lst .nil)) #v[.ret (.c .non)] .nil,.set 5 (.op .add (.v 5) (.tup #v[.ix (.v 7) (.own "_law_pick" 2 #v[.v 0,.bi .len #v[.v 7]])]))],.ret (.v 5)]
abbrev bp (U:Gy (T×W))(u:Wd)(mk:G1)(i m:GJ)(x y:G1):Hi:=(bS U (aL [((u.getD i (0,[])).1,[]),((u.getD m (0,[])).1,[(u.getD m (0,[])).2.getD i 0]),(mk,[x,y])])).isSome
def xr {S:aa}{l:GJ}{bl:Gy Hi}(h:S[l]?=gV (.lst (bl.map W.bl))):∃b,bo .notin (.bl true) (.ref l) S=gV (.bl b,S)/\(b=true->∀x∈bl,x=false):=by
 have hf:(aV (.bl true)&&(bl.map W.bl).all aV)=true:=by
  (dsimp only[aV]; simp only[JM,G7])
  intro x hx;obtain⟨z,_,rfl⟩:=G4.mp hx;rfl
 show#[!(bl.map W.bl).any λz=>nH z (.bl true),?_,λhb x hx=>?_]
 ·simp only[bo,gf h,dz,ut,yA,dc,aD h,hf,JE,Hv]
 ·rw[KM,List.any_eq_false]at hb;cases x with
  | false=>rfl
  | true=>exact absurd rfl (hb (.bl true) (G4.mpr #[true,hx,rfl]))
section
variable{defs:Gy (Hc×Df)}{fuel d:GJ}{S:aa}{r:GJ}{Q:QW}
def kJ (G:Gen defs)(hg:Is defs ("_law_new_ways" : Hc) 6 11 aN){m0 b0:W}{N:Gy W}{a n q:GJ}{u:Wd}{mk:G1}{U:Gy (T×W)}(hN:N.length=n)(hn3:n<=3)(hu:GoodW a n u)(hl:u.length<=900)(e:S[q]?=gV (.dic U))(hqr:q≠r)(hf:Fl S r)
  (k:∀w S',(w=.non\/∃to:Gy G1,w=.tup (ac to)/\to.length=u.length/\(∀x∈to,0<=x/\x < (n:G1))/\∀j < u.length,∀i < j,bp U u mk i j (to.getD i 0) (to.getD j 0)=false)->Fl S' r->Kp r S S'->Q (w,S')) :
  wO (aP (au defs fuel (d+2)) "_law_new_ways" 6 [.ref r,.tup [m0,.tup N,b0],.ref q,aA u,.int mk,.tup []] S) Q:=by
 show az hg rfl rfl λQ' hR=>?_
 replace k:∀w S',(w=.non\/∃to:Gy G1,w=.tup (ac to)/\to.length=u.length/\(∀x∈to,0<=x/\x < (n:G1))/\∀j < u.length,∀i < j,bp U u mk i j (to.getD i 0) (to.getD j 0)=false)->Fl S' r->Kp r S S'->Q' (.rt w,S'):=λw S' h1 h2 h3=>hR _ _ (k w S' h1 h2 h3)
 clear hR;change wZ _ _ aN [gV (.ref r),gV (.tup [m0,.tup N,b0]),gV (.ref q),gV (aA u),gV (.int mk),gV (.tup (ac [])),td,td,td,td,td] S Q';generalize hR0:W.tup [m0,.tup N,b0]=R;have ul:(u.map aK).length=u.length:=Gz ..;have hqS:=bP e;have hrS:=hf.lt;dsimp only[aN];nofun
 show iq 0 (u.length:G1) (λm Z S'=>∃(to:Gy G1) (a6 a7 a8 a9 a10:GH W),Z=[gV (.ref r),gV R,gV (.ref q),gV (aA u),gV (.int mk),gV (.tup (ac to)),a6,a7,a8,a9,a10]/\to.length=m/\(∀x∈to,0<=x/\x < (n:G1))/\(∀j < m,∀i < j,bp U u mk i j (to.getD i 0) (to.getD j 0)=false)/\Fl S' r/\Kp r S S') rfl rfl rfl ∅ ?_ ?_ ?_
 ·dsimp only[wE,wA,wV,wG];show aY #[rfl,aY ?_];rw[ul];exact#[rfl,[],_,_,_,_,_,rfl,rfl,(λx hx=>nomatch hx),(λj hj=>∅),hf,.refl]
 ·rintro m Z S1 hm ⟨to,a6,a7,a8,a9,a10,rfl,htl,hto,hbp,f1,k1⟩ Q2 hn2 hr2;clear hK;rw[KN];have hmu:m < u.length:=∅
  have e1:S1[q]?=gV (.dic U):=k1.get _ _ hqr e;have s1:S.length<=S1.length:=k1.len;have lm:=hu.len m _ (am (d:=(0,[])) hmu);dsimp only[GX];show st ?_;dsimp only[wS,wE,wA,GX];nofun
  show cu (n:G1) (λx Z S'=>(∃a8 a9 a10,Z=[gV (.ref r),gV R,gV (.ref q),gV (aA u),gV (.int mk),gV (.tup (ac to)),gV (.int m),gV (.ref S1.length),a8,a9,a10])/\(∃ls:Gy G1,S'[S1.length]?=gV (.lst (ac ls))/\ls.length<=x/\(∀y∈ls,0<=y/\y < (n:G1))/\∀y∈ls,∀i < m,bp U u mk i m (to.getD i 0) y=false)/\S'[q]?=gV (.dic U)/\Fl S' r/\Kp r S S') rfl rfl ∅ ?_ ?_ ?_
  ·dsimp only[wE,wA,wV,wG];subst hR0;show ah #v[] rfl (aY ?_)
   rw[hN];exact#[rfl,#[_,_,_,rfl],#[[],ak,GY _,(λy hy=>nomatch hy),λy hy=>nomatch hy],aq e1,f1.ka .push,k1.trans .push]
  ·rintro x Z S2 hx ⟨⟨a8,a9,a10,rfl⟩,⟨ls,e2,hll,hls,hlb⟩,q2,f2,k2⟩ Q3 hn3' hr3;clear hK;have l2:=bP e2;dsimp only[GX];show st ?_;dsimp only[wS,wE,wA,GX];nofun
   show cu (m:G1) (λi Z S'=>(∃a10,Z=[gV (.ref r),gV R,gV (.ref q),gV (aA u),gV (.int mk),gV (.tup (ac to)),gV (.int m),gV (.ref S1.length),gV (.int x),gV (.ref S2.length),a10])/\S'[S2.length]?=gV (.lst (((GL i).map λj=>bp U u mk j m (to.getD j 0) (x:G1)).map W.bl))/\S'[S1.length]?=gV (.lst (ac ls))/\S'[q]?=gV (.dic U)/\Fl S' r/\Kp r S S') rfl rfl ∅ #[rfl,#[_,rfl],ak,aq e2,aq q2,f2.ka .push,k2.trans .push] ?_ ?_
   ·rintro i Z S3 hi ⟨⟨a10,rfl⟩,e3,el3,q3,f3,k3⟩ Q4 hn4 _;clear hK;have hiu:i < u.length:=∅
    have him:i < (u.getD m (0,[])).2.length:=∅
    have hit:i < to.length:=∅
    dsimp only[GX];show st ?_;left;show#[cg e3,?_];show ah (GR i) (cM hiu) (ah #v[] rfl (ah (GR m) (cM hmu) (ah #v[] rfl (ah (GR m) (cM hmu) (ah #v[] rfl (ah (w:=.int ((u.getD m (0,[])).2.getD i 0)) (GR i) (by rw[G0,GM,am (d:=0) him]; rfl) (ah (w:=.int (to.getD i 0)) (GR i) (by rw[G0]; unfold ac; rw[GM,am (d:=0) hit]; rfl) ?_)))))))
    show ab (a:=(.bl (bp U u mk i m (to.getD i 0) (x:G1)),S3)) ?_ ?_
    ·change bo .isin (aA [((u.getD i (0,[])).1,[]),((u.getD m (0,[])).1,[(u.getD m (0,[])).2.getD i 0]),(mk,[to.getD i 0,(x:G1)])]) (.ref q) S3=_;simp only[bo,bV q3,nv]; rfl
    show jl e3 (by rw[Gz,Gz,Hg]; omega) (bg (hn4 _ _ #[#[_,rfl],?_,?_,?_,f3.own ∅,k3.late ∅]))
    ·rw[br e3,Jg,Hk,Hk]; rfl
    ·rw[bn ∅]; exact el3
    ·rw[bn ∅]; exact q3
   ·rintro Z S3 ⟨⟨a10,rfl⟩,e3,el3,q3,f3,k3⟩;show hK _ _ ?_;clear hK K;nofun
    dsimp only[wS,wT,wE,wA,wV,wG];obtain⟨b,eb,hb⟩:=xr e3;show ab eb ?_;dsimp only[wB];show ap (Q0:=Q3) (λhbt Q5 hn5 _=>?_) (λ_ Q5 hn5 _=>bg (hn5 _ _ (hK _ _ (bg (hn3' _ _ #[#[_,_,_,rfl],#[ls,el3,∅,hls,hlb],q3,f3,k3])))))
    show st ?_;left;show#[cg el3,jl el3 (by unfold ac; rw[Gz]; omega) (bg (hn5 _ _ (hK _ _ (bg (hn3' _ _ #[#[_,_,_,rfl],#[ls++[(x:G1)],?_,by rw[GQ,Ij]; omega,λy hy=>?_,λy hy i hi=>?_],?_,f3.own ∅,k3.late ∅])))))]
    ·rw[br el3]; unfold ac; rw[Hk]; rfl
    ·rcases HF.mp hy with h|h
     ·exact hls y h
     ·rw[G8.mp h]; omega
    ·rcases HF.mp hy with h|h
     ·exact hlb y h i hi
     ·rw[G8.mp h];exact hb hbt _ (G4.mpr #[i,G2.mpr ∅,rfl])
    ·rw[bn ∅]; exact q3
  ·rintro Z S2 ⟨⟨a8,a9,a10,rfl⟩,⟨ls,e2,hll,hls,hlb⟩,q2,f2,k2⟩;show hK _ _ ?_;clear hK K;rw[G0]at hll;nofun
   dsimp only[wS,wT,wE,wA,wV,wG];show ab (Az (aq e2) ak) ?_;dsimp only[wB];show ap (Q0:=Q2) (λ_ Q5 _ hr5=>?_) (λhne Q5 hn5 _=>bg (hn5 _ _ (hK _ _ ?_)))
   ·show st ?_;dsimp only[wS,wE];exact hr5 _ _ (hr2 _ _ (k _ _ (.inl rfl) (f2.ka .push) (k2.trans .push)))
   clear hn5 hK;have hpos:0 < ls.length:=by
    cases ls with
    | nil=>cases hne
    | cons _ _=>simp
   show st ?_;left;have e2':=aq (u:=O.lst []) e2;show gI e2' ?_;rw[show(ac ls).length=ls.length from Gz ..]
   show aR (d:=d) G.pick (f2.ka .push) ∅ ∅ λv S4 v0 v1 f4 k4=>?_
   have hv:v.toNat < ls.length:=∅
   have e4:=k4.get _ _ (by have:=bP e2; omega) e2'
   show eD (w:=.int ls[v.toNat]) e4 v0 (by unfold ac; rw[GM,G5 hv]; rfl) ?_
   show ab (dY (i6 (by rw[GQ,show(ac to).length=to.length from Gz ..]; show _+1<=_; omega))) (bg (hn2 _ _ #[to++[ls[v.toNat]],gV (.int m),gV (.ref S1.length),a8,a9,a10,?_,by rw[GQ,htl]; rfl,λy hy=>?_,λj hj i hi=>?_,f4,(k2.trans .push).trans k4]))
   ·rw[show ac to++[W.int ls[v.toNat]]=ac (to++[ls[v.toNat]]) by unfold ac; rw[Hk]; rfl]
   ·rcases HF.mp hy with h|h
    ·exact hto y h
    ·rw[G8.mp h]; exact hls _ (HA hv)
   ·have gl:∀j:GJ,j < to.length->(to++[ls[v.toNat]]).getD j 0=to.getD j 0:=λj hj=>by rw[Ha,Ha,Hr hj]
    rw[gl i ∅]
    by_cases ej:j=m
    ·subst ej;rw[show(to++[ls[v.toNat]]).getD j 0=ls[v.toNat] by rw[<- htl,Ha,Ii (GY _),Nr]; rfl]
     exact hlb _ (HA hv) i hi
    ·rw[gl j ∅]
     exact hbp j ∅ i hi
 ·rintro Z S1 ⟨to,a6,a7,a8,a9,a10,rfl,htl,hto,hbp,f1,k1⟩;show hK _ _ (st ?_);dsimp only[wS,wE,wV,wG];exact k _ _ (.inr #[to,rfl,∅,hto,λj hj=>hbp j ∅]) f1 k1
end
abbrev dh:Ss:=
 #v[.set 4 (.tup .nil),.loop (.nm 5) (.rng #v[.v 3]) #v[.set 6 (.own "_law_pick" 2 #v[.v 0,.bi .len #v[.ix (.v 1) (.c (.int 0))]]),.set 7 (.own "_law_new_ways" 6 #v[.v 0,.v 1,.v 2,.v 4,.v 6,.tup .nil]),.ite (.cmp .isnot (.v 7) (.c .non)) #v[.set 4 (.op .add (.v 4) (.tup #v[.tup #v[.v 6,.v 7]]))] .nil],.ret (.v 4)]
def bG {u:Wd}{h:Pt}{p:GJ}(hp:p < u.length):(u++[h]).getD p (0,[])=u.getD p (0,[]):=by
 rw[Ha,Ha,Hr hp]
def eZ {u:Wd}{h:Pt}:(u++[h]).getD u.length (0,[])=h:=by
 rw[Ha,Ii (GY _),Nr]; rfl
abbrev Std (U:Gy (T×W))(u:Wd):Prop:=∀k < u.length,∀j < k,∀i < j,iw U u i j k=false
def Std.snoc {U:Gy (T×W)}{u:Wd}{m:G1}{to:Gy G1}(h:Std U u)(hb:∀j < u.length,∀i < j,bp U u m i j (to.getD i 0) (to.getD j 0)=false):Std U (u++[(m,to)]):=by
 intro k hk j hj i hi;rw[GQ,Ij]at hk
 by_cases e:k=u.length
 ·subst e;have:=hb j hj i hi;unfold bp at this;unfold iw dv;rw[bG (K5 hi hj),bG hj,eZ];exact this
 ·have hk':k < u.length:=∅
  have:=h k hk' j hj i hi;unfold iw dv at this ⊢;rw[bG (K5 hi (K5 hj hk')),bG (K5 hj hk'),bG hk'];exact this
section
variable{defs:Gy (Hc×Df)}{fuel d:GJ}{S:aa}{r:GJ}{Q:QW}
def zX (G:Gen defs)(hw:Is defs ("_law_new_ways" : Hc) 6 11 aN)(hg:Is defs ("_law_world" : Hc) 4 8 dh){tx N:Gy W}{b0:W}{a n q many:GJ}{U:Gy (T×W)}(hM:tx.length=a)(ha1:0 < a)(ha3:a<=3)(hN:N.length=n)(hn3:n<=3)(hm:many<=900)(e:S[q]?=gV (.dic U))(hqr:q≠r)(hf:Fl S r)
  (k:∀(u:Wd) S',u.length<=many->GoodW a n u->Std U u->Fl S' r->Kp r S S'->Q (aA u,S')) :
  wO (aP (au defs fuel (d+3)) "_law_world" 4 [.ref r,.tup [.tup tx,.tup N,b0],.ref q,.int many] S) Q:=by
 show az hg rfl rfl λQ' hR=>?_
 replace k:∀(u:Wd) S',u.length<=many->GoodW a n u->Std U u->Fl S' r->Kp r S S'->Q' (.rt (aA u),S'):=λu S' h1 h2 h3 h4 h5=>hR _ _ (k u S' h1 h2 h3 h4 h5)
 clear hR;change wZ _ _ dh [gV (.ref r),gV (.tup [.tup tx,.tup N,b0]),gV (.ref q),gV (.int many),td,td,td,td] S Q';generalize hR0:W.tup [.tup tx,.tup N,b0]=R;dsimp only[dh];show st ?_;dsimp only[wS,wE,wA,GX];nofun
 show cu (many:G1) (λi Z S'=>∃(u:Wd) (a5 a6 a7:GH W),Z=[gV (.ref r),gV R,gV (.ref q),gV (.int many),gV (aA u),a5,a6,a7]/\u.length<=i/\GoodW a n u/\Std U u/\Fl S' r/\Kp r S S') rfl rfl ∅ #[rfl,[],_,_,_,rfl,GY _,.nil,(λk hk=>by cases hk),hf,.refl] ?_ ?_
 ·rintro i Z S1 hi ⟨u,a5,a6,a7,rfl,hul,hu,hst,f1,k1⟩ Q2 hn _;clear hK;have e1:=k1.get _ _ hqr e;dsimp only[GX];show st ?_;left;subst hR0;show ah #v[] rfl (aY ?_)
  rw[hM];show aR (d:=d+1) G.pick f1 ∅ ∅ λv S2 v0 v1 f2 k2=>?_
  have e2:=k2.get _ _ hqr e1;show st ?_;left;show kJ (d:=d) G hw hN hn3 hu ∅ e2 hqr f2 λw S3 hw3 f3 k3=>?_
  nofun
  dsimp only[wS,wT,wE,wA,wV,wG];rcases hw3 with rfl|⟨to,rfl,htl,hto,hbp⟩
  ·show ab (show bo .isnot .non .non S3=gV (.bl false,S3)from rfl) ?_
   dsimp only[wB];exact ap (Q0:=Q2) (λz=>by cases z) (λ_ Q5 hn5 _=>bg (hn5 _ _ (hK _ _ (bg (hn _ _ #[u,_,_,_,rfl,∅,hu,hst,f3,(k1.trans k2).trans k3])))))
  ·show ab (show bo .isnot (.tup (ac to)) .non S3=gV (.bl true,S3)from rfl) ?_
   dsimp only[wB];show ap (Q0:=Q2) (λ_ Q5 hn5 _=>?_) (λz=>by cases z)
   show st ?_;dsimp only[wS,wE,wA,wV,wG,GX,aA];show ab (dY (i6 (by rw[GQ,Gz]; show _+1<=_; omega))) (bg (hn5 _ _ (hK _ _ (bg (hn _ _ #[u++[(v,to)],gV (.int i),gV (.int v),gV (.tup (ac to)),?_,?_,hu.snoc #[v0,v1] htl hto,hst.snoc hbp,f3,(k1.trans k2).trans k3])))))
   ·unfold aA;rw[Hk]; rfl
   ·rw[GQ,Ij]; omega
 ·rintro Z S1 ⟨u,a5,a6,a7,rfl,hul,hu,hst,f1,k1⟩;rw[G0]at hul;show hK _ _ (st ?_);dsimp only[wS,wE,wV,wG];exact k u S1 hul hu hst f1 k1
end
section
variable{M:Hc->FF}{Z:Fm}{S:aa}
def xt {α:Type}{elt:E}{tg:Tg}{it:Ie}{cs:Es}{cap:Gy (GH GJ)}{mi:MI}{S1:aa}{Q:QW}(L:Gy α)(f:α->W)(p:α->Hi)(g:α->W)(tv:Fm->Prop)(fr:α->Fm)(hJ:∀x Z S,tv Z->fX tg (f x) Z S=gV (fr x,S)/\tv (fr x))(oe:dq elt=true)(oc:lU cs=true)(hc:tv (d7 cap Z))(hl:L.length<=1000000)(hi:iP M it Z S=gV (mi,S1))(k1:Ka S S1)(hat:∀i S',Ka S1 S'->mi.at S' i=gV (L.map f)[i]?)(hn:mi.len S1=gV (L.map f).length)
  (hstep:∀x∈L,∀S',Ka S S'->fu M elt cs (fr x) S' (λy _ S2=>p x=true/\y=g x/\Ka S' S2) (λ_ S2=>p x=false/\Ka S' S2))
  (k:∀S',Ka S S'->Q (.ref S'.length,S'++[.lst ((L.filter p).map g)])):Wp (aC M (.comp elt tg it cs cap) Z S) Q:=by
 rw[wj];show#[_,hi,_,hn,?_];show(dA (xs:=L.map f) (Q:=λq=>q.1.length<=sizeLine/\Q (.ref q.2.length,q.2++[.lst q.1])) (λi ys Z' S'=>tv Z'/\ys=((L.take i).filter p).map g/\Ka S1 S') (λi ys Z' S' h=>hat i S' h.2.2) (λi w ys Z' S' hw h=>?_) (λys Z' S' h=>?_) (L.map f).length 0 [] _ S1 ∅ #[hc,rfl,.refl]).mono λq hq=>by simpa using hq
 ·obtain⟨hj,rfl,k2⟩:=h;rw[GM,GD]at hw;obtain⟨x,hx,rfl⟩:=hw;obtain⟨h1,h2⟩:=hJ x Z' S' hj;show#[_,h1,?_];show(Ax oc (hstep x (GV hx) S' (k1.trans k2))).mono λc hc=>#[λz=>(aO elt oe (hc.1 z)).mono λy hy=>#[h2,?_,k2.trans hy.2.2],λz=>#[h2,?_,k2.trans (hc.2 z).2]]
  ·rw[HK,hx,Kx,show(OB (gV x)).filter p=[x]from List.filter_cons_of_pos hy.1,Hk,hy.2.1]; rfl
  ·rw[HK,hx,Kx,show(OB (gV x)).filter p=[]from List.filter_cons_of_neg (by rw[(hc.2 z).1]; exact He),Iv]
 ·obtain⟨_,rfl,k2⟩:=h;dsimp only;rw[show(L.map f).length=L.length from Gz ..,HY]
  show#[i6 ?_,k S' (k1.trans k2)];rw[Gz];exact HB (IX _ _) hl
def qC {α:Type}{elt:E}{it:Ie}{cs:Es}{cap:Gy (GH GJ)}{mi:MI}{S1:aa}{Q:QW}(L:Gy α)(f:α->W)(p:α->Hi)(g:α->W)(R:Fm)(oe:dq elt=true)(oc:lU cs=true)(hc:d7 cap Z=td::td::R)(hl:L.length<=1000000)(hi:iP M it Z S=gV (mi,S1))(k1:Ka S S1)(hat:∀i S',Ka S1 S'->mi.at S' i=gV (L.map f)[i]?)(hn:mi.len S1=gV (L.map f).length)
  (hstep:∀x∈L,∀S',Ka S S'->fu M elt cs (td::gV (f x)::R) S' (λy _ S2=>p x=true/\y=g x/\Ka S' S2) (λ_ S2=>p x=false/\Ka S' S2))
  (k:∀S',Ka S S'->Q (.ref S'.length,S'++[.lst ((L.filter p).map g)])):Wp (aC M (.comp elt (.nm 1) it cs cap) Z S) Q:=
 xt L f p g (λZ=>∃a,Z=td::a::R) (λx=>td::gV (f x)::R) (λ_ _ _ h=>let ⟨_,e⟩:=h; e ▸ #[rfl,_,rfl]) oe oc #[_,hc] hl hi k1 hat hn hstep k
def qD {α:Type}{elt e:E}{cs:Es}{cap:Gy (GH GJ)}{Q:QW}(L:Gy α)(f:α->W)(p:α->Hi)(g:α->W)(R:Fm)(oi:dq e=true)(oe:dq elt=true)(oc:lU cs=true)(hc:d7 cap Z=td::td::R)(hl:L.length<=1000000)
  (he:wE M e Z S λq=>∃t,q.1=.ref t/\q.2[t]?=gV (.lst (L.map f))/\Ka S q.2)
  (hstep:∀x∈L,∀S',Ka S S'->fu M elt cs (td::gV (f x)::R) S' (λy _ S2=>p x=true/\y=g x/\Ka S' S2) (λ_ S2=>p x=false/\Ka S' S2))
  (k:∀S',Ka S S'->Q (.ref S'.length,S'++[.lst ((L.filter p).map g)])):Wp (aC M (.comp elt (.nm 1) (.seq e) cs cap) Z S) Q:=by
 obtain⟨w,S1,e1,t,rfl,ht,k1⟩:=bE oi he;exact qC (mi:=.live t) L f p g R oe oc hc hl (by simp only[iP,eu,e1,aD ht]) k1 (λi S' h=>by simp only[MI.at,aD (h.get _ _ ht)]) (by simp only[MI.len,aD ht,Hv]) hstep k
def nB {α:Type}{elt e:E}{cs:Es}{cap:Gy (GH GJ)}{Q:QW}(L:Gy α)(f:α->W)(p:α->Hi)(g:α->W)(R:Fm)(oi:dq e=true)(oe:dq elt=true)(oc:lU cs=true)(hc:d7 cap Z=td::td::R)(hl:L.length<=1000000)
  (he:wE M e Z S λq=>q.1=.tup (L.map f)/\Ka S q.2)
  (hstep:∀x∈L,∀S',Ka S S'->fu M elt cs (td::gV (f x)::R) S' (λy _ S2=>p x=true/\y=g x/\Ka S' S2) (λ_ S2=>p x=false/\Ka S' S2))
  (k:∀S',Ka S S'->Q (.ref S'.length,S'++[.lst ((L.filter p).map g)])):Wp (aC M (.comp elt (.nm 1) (.seq e) cs cap) Z S) Q:=by
 obtain⟨w,S1,e1,rfl,k1⟩:=bE oi he;exact qC (mi:=.its (L.map f)) L f p g R oe oc hc hl (by simp only[iP,eu,e1]) k1 (λ_ _ _=>rfl) rfl hstep k
def pf (n:GJ):cQ 0 n=(GL n).map λi=>W.int (i:GJ):=by
 unfold cQ;show HH λi _=>?_
 rw[KN]
def kK {elt e:E}{cs:Es}{cap:Gy (GH GJ)}{Q:QW}(n:GJ)(p:GJ->Hi)(g:GJ->W)(R:Fm)(oi:dq e=true)(oe:dq elt=true)(oc:lU cs=true)(hc:d7 cap Z=td::td::R)(hl:n<=1000000)
  (he:wE M e Z S λq=>q.1=.int n/\Ka S q.2)
  (hstep:∀x < n,∀S',Ka S S'->fu M elt cs (td::gV (.int (x:GJ))::R) S' (λy _ S2=>p x=true/\y=g x/\Ka S' S2) (λ_ S2=>p x=false/\Ka S' S2))
  (k:∀S',Ka S S'->Q (.ref S'.length,S'++[.lst (((GL n).filter p).map g)])):Wp (aC M (.comp elt (.nm 1) (.rng #v[e]) cs cap) Z S) Q:=by
 obtain⟨w,S1,e1,rfl,k1⟩:=bE oi he;show qC (mi:=.its (cQ 0 n)) (GL n) (λi=>W.int (i:GJ)) p g R oe oc hc (by rw[Hg]; exact hl) ?_ k1 (λi S' _=>by rw[<- pf]; rfl) (by rw[<- pf]; rfl) (λx hx=>hstep x (G2.mp hx)) k
 simp only[iP,cR,dw,ib,qg,e1];rw[Hf #[∅,∅]]; rfl
def cm {α:Type}(L:Gy α):L.filter (λ_=>true)=L:=MD.mpr λ_ _=>rfl
end
abbrev l5 (U:Gy (T×W))(u:Wd)(h:Pt)(p q:GJ):Hi:=(bS U (aL [((u.getD p (0,[])).1,[]),((u.getD q (0,[])).1,[(u.getD q (0,[])).2.getD p 0]),(h.1,[h.2.getD p 0,h.2.getD q 0])])).isSome
def qE {ws:Gy G1}{x:G1}{p:GJ}(hp:p < ws.length):(ws++[x]).getD p 0=ws.getD p 0:=by
 rw[Ha,Ha,Hr hp]
abbrev di:Ss:=
 #v[.set 2 (.op .sub (.bi .len #v[.v 1]) (.c (.int 1))),.loop (.nm 3) (.rng #v[.op .sub (.v 2) (.c (.int 1))]) #v[.ite (.cmp .isin (.own "three_at" 4 #v[.v 1,.v 3,.op .sub (.v 2) (.c (.int 1)),.v 2]) (.v 0)) #v[.ret (.v 3)] .nil],.ret (.c .non)]
abbrev bT:Ss:=
 #v[.asg [4,5] (.ix (.v 2) (.v 3)),.loop (.nm 6) (.rng2 #v[.c (.int 1),.v 3]) #v[.loop (.nm 7) (.rng #v[.v 6]) #v[.ite (.cmp .isin (.tup #v[.tup #v[.ix (.ix (.v 2) (.v 7)) (.c (.int 0)),.tup .nil],.tup #v[.ix (.ix (.v 2) (.v 6)) (.c (.int 0)),.tup #v[.ix (.ix (.ix (.v 2) (.v 6)) (.c (.int 1))) (.v 7)]],.tup #v[.v 4,.tup #v[.ix (.v 5) (.v 7),.ix (.v 5) (.v 6)]]]) (.v 1)) #v[.ret (.c (.bl false))] .nil]],.ret (.c (.bl true))]
abbrev fe (U:Gy (T×W))(u:Wd)(s:GJ)(h:Pt):Hi:=(GL s).all λq=>(GL q).all λp=>!l5 U u h p q
def jI {U:Gy (T×W)}{u:Wd}{s:GJ}{h:Pt}:fe U u s h=true↔∀q < s,∀p < q,l5 U u h p q=false:=by
 unfold fe;simp only[G7,G2,KM]
section
variable{defs:Gy (Hc×Df)}{fuel d:GJ}{S:aa}{Q:QW}
def qF (hg:Is defs ("_law_last_may" : Hc) 4 8 bT){R:W}{a n q:GJ}{u:Wd}{h:Pt}{U:Gy (T×W)}(hu:GoodW a n u)(hh:h.2.length=u.length)(hl:u.length<=1000)(e:S[q]?=gV (.dic U))(k:Q (.bl (fe U u u.length h),S)) :
  wO (aP (au defs fuel (d+1)) "_law_last_may" 4 [R,.ref q,aA (u++[h]),.int (u.length:G1)] S) Q:=by
 show az hg rfl rfl λQ' hR=>?_
 replace k:=hR _ _ k;clear hR;change wZ _ _ bT [gV R,gV (.ref q),gV (aA (u++[h])),gV (.int (u.length:G1)),td,td,td,td] S Q';have hvl:u.length < (u++[h]).length:=by rw[GQ,Ij]; omega
 have at':∀p < u.length,(((u++[h]).map aK)[((p:GJ):G1).toNat]?=gV (aK (u.getD p (0,[])))):=λp hp=>by
  rw[cM ∅,bG hp]
 have hw:∀p < u.length,(ac h.2)[((p:GJ):G1).toNat]?=gV (.int (h.2.getD p 0)):=λp hp=>by
  rw[G0]; unfold ac; rw[GM,am (d:=0) ∅]; rfl
 dsimp only[bT];show st ?_;dsimp only[wS,wE,wV,wG];show ah (GR _) (cM hvl) ?_;rw[eZ];dsimp only[wU,aK];show ab (show cf [4,5] [.int h.1,.tup (h.2.map W.int)] [gV R,gV (.ref q),gV (aA (u++[h])),gV (.int (u.length:G1)),td,td,td,td]=gV [gV R,gV (.ref q),gV (aA (u++[h])),gV (.int (u.length:G1)),gV (.int h.1),gV (.tup (ac h.2)),td,td]from rfl) ?_
 nofun
 show iq 1 (u.length:G1) (λm Z S'=>(∃a6 a7,Z=[gV R,gV (.ref q),gV (aA (u++[h])),gV (.int (u.length:G1)),gV (.int h.1),gV (.tup (ac h.2)),a6,a7])/\S'=S/\∀j < m+1,∀p < j,l5 U u h p j=false) rfl rfl rfl ∅ #[rfl,rfl,#[_,_,rfl],rfl,λj hj p hp=>∅] ?_ ?_
 ·rintro m Z S1 hm ⟨⟨a6,a7,rfl⟩,rfl,no⟩ Q2 hn2 hr2;clear hK;rw[show(1:G1)+m=((m+1:GJ):G1) by omega]
  have hmu:m+1 < u.length:=∅
  generalize hj:m+1=j at hmu hn2 no;dsimp only[GX];nofun
  show cu (j:G1) (λi Z S'=>(∃a7,Z=[gV R,gV (.ref q),gV (aA (u++[h])),gV (.int (u.length:G1)),gV (.int h.1),gV (.tup (ac h.2)),gV (.int (j:G1)),a7])/\S'=S1/\∀p < i,l5 U u h p j=false) rfl rfl ∅ #[rfl,#[_,rfl],rfl,λp hp=>∅] ?_ ?_
  ·rintro i Z S2 hi ⟨⟨a7,rfl⟩,rfl,no2⟩ Q3 hn3 hr3;clear hK;have hij:i < j:=∅
   have hiu:i < u.length:=∅
   have lj:i < (u.getD j (0,[])).2.length:=by rw[hu.len j _ (am (d:=(0,[])) hmu)]; exact hij
   dsimp only[GX];nofun
   dsimp only[wS,wT,wE,wA,wV,wG];show ah (GR i) (at' i hiu) (ah #v[] rfl (ah (GR j) (at' j hmu) (ah #v[] rfl (ah (GR j) (at' j hmu) (ah #v[] rfl (ah (w:=.int ((u.getD j (0,[])).2.getD i 0)) (GR i) (by rw[G0,GM,am (d:=0) lj]; rfl) (ah (GR i) (hw i hiu) (ah (GR j) (hw j hmu) ?_))))))))
   show ab (show bo .isin (aA [((u.getD i (0,[])).1,[]),((u.getD j (0,[])).1,[(u.getD j (0,[])).2.getD i 0]),(h.1,[h.2.getD i 0,h.2.getD j 0])]) (.ref q) S2=gV (.bl (l5 U u h i j),S2) by simp only[bo,bV e,nv]; rfl) ?_
   dsimp only[wB];show ap (Q0:=Q3) (λhb Q5 _ hr5=>?_) (λhb Q5 hn5 _=>bg (hn5 _ _ (hK _ _ (bg (hn3 _ _ #[#[_,rfl],rfl,λp hp=>?_])))))
   ·show st ?_;dsimp only[wS,wE];have:fe U u u.length h=false:=by
     rw[Bool.eq_false_iff];intro z;rw[jI.mp z j hmu i hij]at hb;cases hb
    rw[this]at k;exact hr5 _ _ (hr3 _ _ (hr2 _ _ k))
   ·by_cases ep:p=i
    ·rw[ep]; exact hb
    ·exact no2 p ∅
  ·rintro Z S2 ⟨⟨a7,rfl⟩,rfl,no2⟩;rw[G0]at no2;show hK _ _ (bg (hn2 _ _ #[#[_,_,rfl],rfl,λj' hj' p hp=>?_]))
   by_cases ej:j'=j
   ·subst ej; exact no2 p hp
   ·exact no j' ∅ p hp
 ·rintro Z S1 ⟨⟨a6,a7,rfl⟩,rfl,no⟩;show hK _ _ (st ?_);dsimp only[wS,wE];rw[jI.mpr λq hq p hp=>no q ∅ p hp]at k
  exact k
end
def sv:∀p:Gy GJ,W.ts (aj p)=gV (p.map λ(n:GJ)=>T.int (n:G1))
 | []=>rfl
 | n::p=>by
  show(match W.t (.int n),W.ts (aj p)with
   | some y,gV ys=>gV (y::ys)
   | _,_=>td)=_
  rw[sv p]; rfl
def Ct {bs:Gy G1}{a:GJ}{v:Wd}{i j:GJ}(hb:GoodB bs)(hv:GoodW a bs.length v)(hi:i < v.length)(hj:j < v.length)(hij:i≠j):0<=bK bs v i j/\bK bs v i j < (bs.length:G1):=by
 unfold bK
 by_cases h:j < i
 ·rw[Hf h];have hp:=am (d:=(0,[])) hi;have hw:j < (v.getD i (0,[])).2.length:=by rw[hv.len i _ hp]; exact h
  exact hv.way i _ hp _ (GV (am (d:=0) hw))
 ·rw[Hl h];have hp:=am (d:=(0,[])) hj;have hw:i < (v.getD j (0,[])).2.length:=by rw[hv.len j _ hp]; omega
  obtain⟨g1,g2⟩:=hv.way j _ hp _ (GV (am (d:=0) hw));exact(hb.at g1 g2).2
def i7 {bs:Gy G1}{a:GJ}{v:Wd}{ps:Gy GJ}(hb:GoodB bs)(hv:GoodW a bs.length v)(hps:∀p∈ps,p < v.length)(hnd:ps.Nodup):GoodW a bs.length (ag bs v ps):=by
 have at':∀(k:GJ) (q:Pt),(ag bs v ps)[k]?=gV q->∃hk:k < ps.length,q=((v.getD ps[k] (0,[])).1,(ps.take k).map λj=>bK bs v ps[k] j):=λk q e=>by
  have hk:k < ps.length:=by
   have:=(G9.mp e).1;rw[aI]at this; exact this
  show#[hk,?_];unfold ag at e;rw[GM,IG hk,Hv,show ps.getD k 0=ps[k] by simp[hk]]at e
  exact(HV e).symm
 show#[λk q e=>?_,λk q e=>?_,λk q e=>?_]
 ·obtain⟨hk,rfl⟩:=at' k q e;have:=hv.mark _ _ (am (d:=(0,[])) (hps _ (HA hk)));exact this
 ·obtain⟨hk,rfl⟩:=at' k q e;dsimp only;rw[Gz,Hu]; omega
 ·obtain⟨hk,rfl⟩:=at' k q e;intro w hw;obtain⟨j,hj,rfl⟩:=G4.mp hw;have hjm:=JH hj;show Ct hb hv (hps _ (HA hk)) (hps _ hjm) λe=>?_
  obtain⟨m,hm,e2⟩:=JI.mp hj;rw[Hu]at hm;rw[JG]at e2;have:=(Iq hnd).mp (e.trans e2.symm);omega
section
variable{defs:Gy (Hc×Df)}{fuel d:GJ}{S:aa}{Q:QW}
def Cu (hd:Is defs ("_law_flow" : Hc) 1 1 dZ){ns:Gy G1}{u:GJ}(hu:S[u]?=gV (.fro (ns.map W.int)))(k:∀r S',Ka S S'->Fl S' r->Q (.ref r,S')) :
  wO (aP (au defs fuel (d+1)) "_law_flow" 1 [.ref u] S) Q:=by
 show az hd rfl rfl λQ' hR=>?_
 change wZ _ _ dZ [gV (.ref u)] S Q';dsimp only[dZ];show st ?_;left;have e:Bi.list.fn [.ref u] S=gV (.ref S.length,S++[.lst (ns.map W.int)]):=by
  have h1:sW S u=td:=by simp[sW,hu]
  simp only[Bi.fn,B0,g8,h1,gE,dc,zC hu]
 show ab e (hR _ _ (k _ _ (Ka.push.trans .push) #[S.length,ns,0,0,1,0,?_,?_,?_,#v[],#v[],#v[],#v[]]))
 ·exact ak
 ·exact aq ak
 ·simp
end
def jn {bt:GJ->GJ->Hi}{N:GJ}(ir:∀i < N,bt i i=false)(tr:∀i j k,i < N->j < N->k < N->bt i j=true->bt j k=true->bt i k=true):∀n,n < N->∀j≤n,bt j (argBest bt n)=false
 | 0,hn,j,hj=>by
  obtain rfl:j=0:=∅
  exact ir 0 hn
 | n+1,hn,j,hj=>by
  have ih:=jn ir tr n ∅
  have hb:=cX bt n;simp only[argBest];cases c:bt (n+1) (argBest bt n)with
  | true=>
   rw[Hf rfl]
   by_cases e:j=n+1
   ·subst e; exact ir _ hn
   ·cases c2:bt j (n+1)with
    | false=>rfl
    | true=>
     have:=tr j (n+1) (argBest bt n) ∅ hn ∅ c2 c
     rw[ih j ∅]at this; cases this
  | false=>
   rw[Hl (by exact He)]
   by_cases e:j=n+1
   ·subst e; exact c
   ·exact ih j ∅
def pg {ks:Gy T}(hn:∀x∈ks,g9 x=true)(hl:eg ks=true)(hne:ks≠[]):∃x,ks[gP ks]?=gV x/\x∈ks/\∀y∈ks,fA y x=gV false:=by
 have hp:0 < ks.length:=JP.mpr hne;have hm:gP ks < ks.length:=by
  unfold gP;have:=cX (lH ks) (ks.length - 1);omega
 have ltk:∀i j (hi:i < ks.length) (hj:j < ks.length),fA ks[i] ks[j]=gV (lH ks i j):=λi j hi hj=>dS hl hi hj
 have ir:∀i < ks.length,lH ks i i=false:=λi hi=>by
  cases c:lH ks i i with
  | false=>rfl
  | true=>
   have e:=ltk i i hi hi;rw[c]at e;have:=j7 _ _ (hn _ (HA hi)) e;rw[e]at this; cases this
 have mn:=jn (bt:=lH ks) (N:=ks.length) ir (λi j k hi hj hk h1 h2=>by
  have e1:=ltk i j hi hj;have e2:=ltk j k hj hk;rw[h1]at e1;rw[h2]at e2;have:=qd _ _ _ (hn _ (HA hi)) (hn _ (HA hj)) e1 e2;rw[ltk i k hi hk]at this;exact HV this) (ks.length - 1) ∅
 show#[ks[gP ks],G5 hm,HA hm,λy hy=>?_]
 obtain⟨j,hj,rfl⟩:=JI.mp hy;rw[ltk j _ hj hm];congr 1;exact mn j ∅
def sw {x y:T}(hx:g9 x=true)(h1:fA x y=gV false)(h2:fA y x=gV false):x=y:=by
 by_cases e:x=y
 ·exact e
 ·rw[mT x y hx e h2]at h1; cases h1
def ph:∀ {xs ys as bs:Gy T},xs.length=ys.length->cO xs ys=gV true->cO (xs++as) (ys++bs)=gV true
 | [],[],_,_,_,h=>by cases h
 | x::xs,y::ys,as,bs,hl,h=>by
  simp only[LI,cO]at h ⊢
  by_cases e:x=y
  ·rw[Hf e]at h ⊢;exact ph (by simpa using hl) h
  ·rw[Hl e]at h ⊢;exact h
 | [],_::_,_,_,hl,_=>by simp at hl
 | _::_,[],_,_,hl,_=>by simp at hl
def pi {as bs:Gy T}:∀xs:Gy T,cO (xs++as) (xs++bs)=cO as bs
 | []=>rfl
 | x::xs=>by
  simp only[LI,cO,JE];exact pi xs
def Cv {x y:T}(hx:g9 x=true)(h:cO [x] [y]=gV true):fA x y=gV true:=by
 simp only[cO]at h;split at h
 ·cases h
 ·exact h
structure Ord (n:GJ)(o:Gy GJ):Prop where
 nd:o.Nodup
 lt:∀p∈o,p < n
abbrev ue:GJ->Gy (Gy GJ)
 | 0=>[[]]
 | k+1=>(ue k).flatMap λo=>(GL (k+1)).map λi=>o.take i++[k]++o.drop i
def jJ:∀ {n:GJ} {o:Gy GJ},o∈ue n↔Ord n o/\o.length=n
 | 0,o=>by
  rw[ue,G8];exact#[λh=>by subst h; exact#[#[.nil,λp hp=>nomatch hp],rfl],λh=>JW h.2]
 | n+1,o=>by
  rw[ue,Ke];constructor
  ·rintro⟨o',h1,h2⟩;obtain⟨i,hi,rfl⟩:=G4.mp h2;obtain⟨⟨nd,lt⟩,hl⟩:=jJ.mp h1;have hi:=G2.mp hi;have hp:(o'.take i++[n]++o'.drop i).Perm (n::o'):=by
    have e:o'.take i++[n]++o'.drop i=o'.take i++n::o'.drop i:=by simp
    rw[e];show LJ.trans ?_;rw[KP]
   show#[#[hp.nodup_iff.mpr (Jy.mpr #[λz=>absurd (lt _ z) (Il _),nd]),λp hpm=>?_],by rw[hp.length_eq,HJ,hl]]
   rcases Hj.mp (hp.mem_iff.mp hpm)with z|z
   ·omega
   ·have:=lt p z; omega
  ·rintro⟨⟨nd,lt⟩,hl⟩;have hm:n∈o:=by
    by_cases z:n∈o
    ·exact z
    ·have h1:=iV o (GL n) nd λp hp=>G2.mpr (by
      have:=lt p hp;have:p≠n:=λe=>z (e ▸ hp)
      omega)
     rw[Hg]at h1;omega
   obtain⟨a,b,rfl⟩:=List.append_of_mem hm;have hp:(a++n::b).Perm (n::(a++b)):=LJ;have nd2:=hp.nodup_iff.mp nd;obtain⟨nn,nd3⟩:=Jy.mp nd2;show#[a++b,jJ.mpr #[#[nd3,λp hpm=>?_],?_],G4.mpr #[a.length,G2.mpr ?_,?_]]
   ·have h1:=lt p (hp.mem_iff.mpr (HC _ hpm));have:p≠n:=λe=>nn (e ▸ hpm)
    omega
   ·have:=hp.length_eq;rw[hl,HJ]at this;omega
   ·rw[GQ,HJ]at hl;omega
   ·rw[List.take_left',List.drop_left'] <;> simp
abbrev gL (bs:Gy G1)(u:Wd)(o:Gy GJ):Pt:=jm bs u o.dropLast (o.getLastD 0)
abbrev gM (ps:Gy Pt):Pt:=ps.getD (gP (ps.map gJ)) (0,[])
abbrev uf (bs:Gy G1)(u:Wd):GJ->Gy (Gy GJ)
 | 0=>[[]]
 | k+1=>(bZ u.length (uf bs u k)).filter λo=>decide (gL bs u o=gM ((bZ u.length (uf bs u k)).map (gL bs u)))
abbrev xu (bs:Gy G1)(u:Wd):GJ->Wd
 | 0=>[]
 | k+1=>xu bs u k++[gM ((bZ u.length (uf bs u k)).map (gL bs u))]
def xv (p:Pt):g9 (gJ p)=true:=by
 have:=jH [p]
 simpa [ee]using this
def ug (ps:Gy Pt):eg (ps.map gJ)=true:=by
 unfold eg;rw[G7];intro x hx;rw[G7];intro y hy;obtain⟨p,_,rfl⟩:=G4.mp hx;obtain⟨q,_,rfl⟩:=G4.mp hy;exact qu _ _ (wz p q)
def uh {ps:Gy Pt}(h:ps≠[]):ps[gP (ps.map gJ)]?=gV (gM ps)/\gM ps∈ps/\∀y∈ps,fA (gJ y) (gJ (gM ps))=gV false:=by
 obtain⟨x,h1,h2,h3⟩:=pg (ks:=ps.map gJ) (λx hx=>by obtain⟨p,_,rfl⟩:=G4.mp hx; exact xv p) (ug ps) (by simpa using h)
 rw[GM,GD]at h1;obtain⟨p,hp,rfl⟩:=h1;have e:gM ps=p:=by unfold gM; rw[Ha,hp]; rfl
 rw[e];exact#[hp,GV hp,λy hy=>h3 _ (G4.mpr #[y,hy,rfl])]
def iy {n:GJ}{os:Gy (Gy GJ)}{o':Gy GJ}:o'∈bZ n os↔∃o∈os,∃p,p < n/\p∉o/\o'=o++[p]:=by
 unfold bZ;rw[Ke];constructor
 ·rintro⟨o,ho,h⟩;obtain⟨p,hp,rfl⟩:=G4.mp h;obtain⟨h1,h2⟩:=Ih.mp hp;exact#[o,ho,p,G2.mp h1,HS h2,rfl]
 ·rintro⟨o,ho,p,h1,h2,rfl⟩;exact#[o,ho,G4.mpr #[p,Ih.mpr #[G2.mpr h1,HI h2],rfl]]
def i8 {bs:Gy G1}{u:Wd}{o:Gy GJ}{p:GJ}:gL bs u (o++[p])=jm bs u o p:=by
 unfold gL;rw[List.dropLast_concat,Mq]
def iz {n:GJ}{o:Gy GJ}{p:GJ}:Ord n (o++[p])↔Ord n o/\p < n/\p∉o:=by
 constructor
 ·rintro⟨nd,lt⟩;rw[Lv]at nd;exact#[#[nd.1,λq hq=>lt q (Ja _ hq)],lt p (by simp),λz=>nd.2.2 p z p (by simp) rfl]
 ·rintro⟨⟨nd,lt⟩,h1,h2⟩;show#[Lv.mpr #[nd,by simp,λa ha b hb e=>?_],λq hq=>?_]
  ·rw[G8.mp hb]at e;exact h2 (e ▸ ha)
  ·rcases HF.mp hq with z|z
   ·exact lt q z
   ·rw[G8.mp z]; exact h1
def xw {n:GJ}{o:Gy GJ}(h:Ord n o)(hl:o.length < n):∃p,p < n/\p∉o:=by
 by_cases z:∃p,p < n/\p∉o
 ·exact z
 ·have h1:=iV (GL n) o Kd λp hp=>by
   by_cases z2:p∈o
   ·exact z2
   ·exact absurd #[p,G2.mp hp,z2] z
  rw[Hg]at h1;omega
def Er (u v:Wd):(fA (aL u) (aL v)).isSome=true:=by
 have:=gh [u,v];unfold eg at this;rw[G7]at this;have:=this (aL u) (by simp)
 rw[G7]at this;exact this (aL v) (by simp)
def Cw {u v:Wd}(h:fA (aL u) (aL v)≠gV true):fA (aL u) (aL v)=gV false:=by
 obtain⟨b,hb⟩:=HW.mp (Er u v);cases b with
 | false=>exact hb
 | true=>exact absurd hb h
structure GrOk (bs:Gy G1)(u:Wd)(k:GJ):Prop where
 mem:∀o,o∈uf bs u k↔Ord u.length o/\o.length=k/\ag bs u o=xu bs u k
 least:∀o,Ord u.length o->o.length=k->fA (aL (ag bs u o)) (aL (xu bs u k))=gV false
 ne:uf bs u k≠[]
 len:(xu bs u k).length=k
def sx {k:GJ}{o:Gy GJ}(h:o.length=k+1):∃o' p,o=o'++[p]/\o'.length=k:=by
 have hne:o≠[]:=λz=>by rw[z]at h; cases h
 exact#[o.dropLast,o.getLast hne,(List.dropLast_concat_getLast hne).symm,by rw[JJ]; omega]
def pj {bs:Gy G1}{u:Wd}:∀k,k<=u.length->GrOk bs u k
 | 0,_=>by
  show#[λo=>?_,λo _ hl=>?_,NM _ _,rfl]
  ·rw[uf,G8];exact#[λh=>by subst h; exact#[#[.nil,λp hp=>nomatch hp],rfl,rfl],λh=>JW h.2.1]
  ·rw[JW hl]; rfl
 | k+1,hk=>by
  have ih:=pj (bs:=bs) (u:=u) k ∅
  have lne:bZ u.length (uf bs u k)≠[]:=by
   obtain⟨o,ho⟩:=Ln _ ih.ne;obtain⟨h1,h2,_⟩:=(ih.mem o).mp ho;obtain⟨p,hp,hpo⟩:=xw h1 ∅
   exact M2 (iy.mpr #[o,ho,p,hp,hpo,rfl])
  obtain⟨_,b2,b3⟩:=uh (ps:=(bZ u.length (uf bs u k)).map (gL bs u)) (by simpa using lne)
  have ef:xu bs u (k+1)=xu bs u k++[gM ((bZ u.length (uf bs u k)).map (gL bs u))]:=rfl;have eo:uf bs u (k+1)=(bZ u.length (uf bs u k)).filter λo=>decide (gL bs u o=gM ((bZ u.length (uf bs u k)).map (gL bs u))):=rfl
  generalize gM ((bZ u.length (uf bs u k)).map (gL bs u))=best at b2 b3 ef eo;show#[λo=>?_,λo hO hl=>?_,?_,by rw[ef,GQ,ih.len]; rfl]
  ·rw[eo,Ih,ef];constructor
   ·rintro⟨h1,h2⟩;obtain⟨o,ho,p,hp,hpo,rfl⟩:=iy.mp h1;obtain⟨g1,g2,g3⟩:=(ih.mem o).mp ho;have h2:=HS h2;rw[i8]at h2;exact#[iz.mpr #[g1,hp,hpo],by rw[GQ,g2]; rfl,by rw[gm,g3,h2]]
   ·rintro⟨h1,h2,h3⟩;obtain⟨o,p,rfl,hl⟩:=sx h2;obtain⟨g1,g2,g3⟩:=iz.mp h1;rw[gm]at h3;obtain⟨e1,e2⟩:=List.append_inj h3 (by rw[aI,ih.len,hl])
    show#[iy.mpr #[o,(ih.mem o).mpr #[g1,hl,e1],p,g2,g3,rfl],HI ?_];rw[i8];exact List.singleton_inj.mp e2
  ·obtain⟨o,p,rfl,hl'⟩:=sx hl;clear hl;have hl:=hl';obtain⟨g1,g2,g3⟩:=iz.mp hO;show Cw λz=>?_
   rw[gm,ef]at z;have z:cO ((ag bs u o++[jm bs u o p]).map gJ) ((xu bs u k++[best]).map gJ)=gV true:=z;rw[Hk,Hk]at z
   by_cases e:ag bs u o=xu bs u k
   ·rw[e,pi]at z;have:=Cv (xv _) z;rw[b3 _ (G4.mpr #[o++[p],iy.mpr #[o,(ih.mem o).mpr #[g1,hl,e],p,g2,g3,rfl],i8])]at this;cases this
   ·have h1:=mT (aL (xu bs u k)) (aL (ag bs u o)) (nA _) (λh=>e (io h).symm) (ih.least o g1 hl)
    have h1:cO ((xu bs u k).map gJ) ((ag bs u o).map gJ)=gV true:=h1;have h2:=ph (as:=[best].map gJ) (bs:=[jm bs u o p].map gJ) (by rw[Gz,Gz,aI,ih.len,hl]) h1
    have h3:=mS _ _ (by rw[<- Hk]; exact jH _) h2
    rw[z]at h3; cases h3
  ·obtain⟨o,ho,e⟩:=G4.mp b2;rw[eo];exact M2 (Ih.mpr #[ho,HI e])
abbrev kL (bs:Gy G1)(u:Wd):Wd:=xu bs u u.length
def kM {bs:Gy G1}{u:Wd}:∃o,Ord u.length o/\o.length=u.length/\ag bs u o=kL bs u:=by
 have h:=pj (bs:=bs) (u:=u) u.length (GY _);obtain⟨o,ho⟩:=Ln _ h.ne;exact#[o,(h.mem o).mp ho]
def eP {bs:Gy G1}{u:Wd}{o:Gy GJ}{i:GJ}(hi:i < o.length):(ag bs u o).getD i (0,[])=((u.getD (o.getD i 0) (0,[])).1,(o.take i).map λj=>bK bs u (o.getD i 0) j):=by
 unfold ag;rw[Ha,GM,IG hi]; rfl
def po {bs:Gy G1}{u:Wd}{o:Gy GJ}{i j:GJ}(hi:i < o.length)(hj:j < i):((ag bs u o).getD i (0,[])).2.getD j 0=bK bs u (o.getD i 0) (o.getD j 0):=by
 rw[eP hi];dsimp only;rw[Ha,GM,Lx hj,am (d:=0) (show j < o.length by omega)]; rfl
def xx {bs:Gy G1}{a:GJ}{u:Wd}{o:Gy GJ}{i j:GJ}(hb:GoodB bs)(hu:GoodW a bs.length u)(hO:Ord u.length o)(hi:i < o.length)(hj:j < o.length)(hij:i≠j):bK bs (ag bs u o) i j=bK bs u (o.getD i 0) (o.getD j 0):=by
 have gi:=am (d:=0) hi;have gj:=am (d:=0) hj;have li:=hO.lt _ (GV gi);have lj:=hO.lt _ (GV gj);have ne:o.getD i 0≠o.getD j 0:=λe=>by
  have h1:o[i]=o.getD i 0:=by simp[hi]
  have h2:o[j]=o.getD j 0:=by simp[hj]
  exact hij ((Iq hO.nd).mp (by rw[h1,h2,e]))
 by_cases h:j < i
 ·have:bK bs (ag bs u o) i j=((ag bs u o).getD i (0,[])).2.getD j 0:=by unfold bK; rw[Hf h]
  rw[this,po hi h]
 ·have:bK bs (ag bs u o) i j=bs.getD (((ag bs u o).getD j (0,[])).2.getD i 0).toNat 0:=by unfold bK; rw[Hl h]
  rw[this,po hj ∅]
  generalize o.getD i 0=x at *
  generalize o.getD j 0=y at *
  unfold bK
  by_cases h2:x < y
  ·rw[Hf h2,Hl ∅]
  ·rw[Hl h2,Hf ∅]
   have hp:=am (d:=(0,[])) li;have hw:y < (u.getD x (0,[])).2.length:=by rw[hu.len x _ hp]; omega
   obtain⟨w0,w1⟩:=hu.way x _ hp _ (GV (am (d:=0) hw));have:=hb.inv ((u.getD x (0,[])).2.getD y 0).toNat ∅
   rw[this]; omega
def i9 {bs:Gy G1}{a:GJ}{u:Wd}{o p:Gy GJ}(hb:GoodB bs)(hu:GoodW a bs.length u)(hO:Ord u.length o)(hP:Ord o.length p):ag bs (ag bs u o) p=ag bs u (p.map λi=>o.getD i 0):=by
 show Kc (by rw[aI,aI,Gz]) λk h1 h2=>?_
 rw[aI]at h1;have e1:=eP (bs:=bs) (u:=ag bs u o) (o:=p) h1;have e2:=eP (bs:=bs) (u:=u) (o:=p.map λi=>o.getD i 0) (i:=k) (by rw[Gz]; exact h1)
 have hk:p.getD k 0 < o.length:=hP.lt _ (GV (am (d:=0) h1));have ek:(p.map λi=>o.getD i 0).getD k 0=o.getD (p.getD k 0) 0:=by
  rw[Ha,GM,am (d:=0) h1]; rfl
 rw[ek]at e2;rw[eP hk]at e1;have f:∀(v:Wd) (hv:k < v.length),v[k]=v.getD k (0,[]):=λv hv=>by simp[hv]
 rw[f _ (by rw[aI]; exact h1),f _ h2,e1,e2]
 congr 1;rw[<- Kr,HL];show HH λj hj=>?_
 obtain⟨m,hm,rfl⟩:=JI.mp hj;rw[Hu]at hm;rw[JG];have hpm:p[m]=p.getD m 0:=by simp[show m < p.length by omega]
 rw[hpm];show xx hb hu hO hk (hP.lt _ (GV (am (d:=0) (show m < p.length by omega)))) λe=>?_
 have h3:p[k]=p.getD k 0:=by simp[h1]
 have:=(Iq hP.nd).mp (h3.trans (e.trans hpm.symm));omega
def dG {n:GJ}{o:Gy GJ}(h:Ord n o)(hl:o.length=n){p:GJ}(hp:p < n):p∈o:=by
 by_cases z:p∈o
 ·exact z
 ·have:=(iz (n:=n) (o:=o) (p:=p)).mpr #[h,hp,z];have h1:=iV (o++[p]) (GL n) this.nd λq hq=>G2.mpr (this.lt q hq)
  rw[GQ,Hg,Ij]at h1;omega
def xy {n:GJ}{o p:Gy GJ}(h:Ord n o)(hp:Ord o.length p):Ord n (p.map λi=>o.getD i 0):=by
 have g:∀i,i < o.length->o[i]?=gV (o.getD i 0):=λi hi=>am hi
 show#[?_,λq hq=>?_]
 ·rw[Js,IT];show hp.nd.imp_of_mem λ{a b} ha hb hab e=>hab ?_
  have h1:=hp.lt a ha;have h2:=hp.lt b hb;have e1:o[a]=o.getD a 0:=by simp[h1]
  have e2:o[b]=o.getD b 0:=by simp[h2]
  exact(Iq h.nd).mp (by rw[e1,e2,e])
 ·obtain⟨i,hi,rfl⟩:=G4.mp hq;exact h.lt _ (GV (g i (hp.lt i hi)))
def kN {bs:Gy G1}{a:GJ}{u:Wd}{o:Gy GJ}(hb:GoodB bs)(hu:GoodW a bs.length u)(hO:Ord u.length o)(hl:o.length=u.length):kL bs (ag bs u o)=kL bs u:=by
 have pl:(ag bs u o).length=u.length:=by rw[aI,hl]
 obtain⟨p,p1,p2,p3⟩:=kM (bs:=bs) (u:=ag bs u o);obtain⟨q,q1,q2,q3⟩:=kM (bs:=bs) (u:=u);rw[pl]at p1 p2;have m1:=λo h1 h2=>(pj (bs:=bs) (u:=u) _ (GY _)).least o h1 h2
 have m2:=λo2 h1 h2=>(pj (bs:=bs) (u:=ag bs u o) _ (GY _)).least o2 h1 h2
 show io (sw (nA _) ?_ ?_)
 ·rw[<- p3,i9 hb hu hO (by rw[hl]; exact p1)]
  exact m1 _ (xy hO (by rw[hl]; exact p1)) (by rw[Gz,p2])
 ·have e:q=(q.map λx=>o.idxOf x).map λi=>o.getD i 0:=by
   rw[HL]
   conv=>lhs; rw[<- NS q]
   show HH λx hx=>?_
   have hm:=dG hO hl (q1.lt x hx);have hlt:=Io hm;change x=o.getD (o.idxOf x) 0;rw[Ha,G5 hlt,Ky]; rfl
  have hQ:Ord o.length (q.map λx=>o.idxOf x):=by
   show#[?_,λi hi=>?_]
   ·rw[Js,IT];show q1.nd.imp_of_mem λ{x y} hx hy hxy e=>hxy ?_
    have h1:=Io (dG hO hl (q1.lt x hx));have h2:=Io (dG hO hl (q1.lt y hy));have e1:=Ky h1;have e2:=Ky h2;rw[<- e1,<- e2];congr 1
   ·obtain⟨x,hx,rfl⟩:=G4.mp hi;exact Io (dG hO hl (q1.lt x hx))
  rw[<- q3,e,<- i9 hb hu hO hQ];exact m2 _ (by rw[pl,<- hl]; exact hQ) (by rw[Gz,pl,q2])
def eQ {n:GJ}{x:G1}(h:x∈d8 n):0<=x/\x < n:=by
 obtain⟨k,hk,rfl⟩:=G4.mp h;have:=G2.mp hk;omega
def gU {a n:GJ}{u:Wd}(h:u∈oV a n):GoodW a n u/\u.length=3:=by
 unfold oV at h;simp only[Ke,G4]at h;obtain⟨m0,h0,m1,h1,m2,h2,w1,g1,w2,g2,w3,g3,rfl⟩:=h;show#[?_,rfl];have s1:GoodW a n ([]++[(m0,[])]):=GoodW.nil.snoc (eQ h0) rfl (λw hw=>nomatch hw)
 have s2:GoodW a n ([(m0,[])]++[(m1,[w1])]):=s1.snoc (eQ h1) rfl (λw hw=>by rw[G8.mp hw]; exact eQ g1)
 exact s2.snoc (eQ h2) rfl (λw hw=>by
  simp only[Hj,IF,KI]at hw;rcases hw with rfl|rfl
  ·exact eQ g2
  ·exact eQ g3)
def c7 {a:GJ}{bs:Gy G1}{g:Wd}(hb:GoodB bs)(h:g∈aE a bs):GoodW a bs.length g/\g.length=3:=by
 unfold aE at h;rw[JZ]at h;obtain⟨u,hu,rfl⟩:=G4.mp h;obtain⟨gu,u3⟩:=gU hu;unfold bz;have hm:gP ((ar.map (ag bs u)).map aL) < (ar.map (ag bs u)).length:=by
  unfold gP;show Lg (cX _ _) ?_;rw[Gz,Gz]; decide
 have:=GV (am (d:=[]) hm);obtain⟨t,ht,e⟩:=G4.mp this;rw[<- e];have tk:∀t∈ar,t.length=3/\t.Nodup/\∀p∈t,p < 3:=by decide
 obtain⟨t1,t2,t3⟩:=tk t ht;exact#[i7 hb gu (λp hp=>by have:=t3 p hp; omega) t2,by rw[aI]; exact t1]
def uj {a n:GJ}{u:Wd}(hu:GoodW a n u):GoodW a n u.dropLast:=by
 have key:∀(k:GJ) (x:Pt),(u.dropLast)[k]?=gV x->u[k]?=gV x:=λk x e=>by
  rw[LW]at e;split at e
  ·exact e
  ·cases e
 exact#[λk x e=>hu.mark k x (key k x e),λk x e=>hu.len k x (key k x e),λk x e=>hu.way k x (key k x e)]
def cG {t:Gy GJ}:t∈ar↔Ord 3 t/\t.length=3:=by
 constructor
 ·intro h;have:∀t∈ar,t.Nodup/\(∀p∈t,p < 3)/\t.length=3:=by decide
  obtain⟨h1,h2,h3⟩:=this t h;exact#[#[h1,h2],h3]
 ·intro h;have h1:=jJ.mpr h;have:∀t∈ue 3,t∈ar:=by decide
  exact this t h1
def ff {bs:Gy G1}{u:Wd}:∃t∈ar,bz bs u=ag bs u t/\∀s∈ar,fA (aL (ag bs u s)) (aL (bz bs u))=gV false:=by
 obtain⟨x,h1,h2,h3⟩:=pg (ks:=(ar.map (ag bs u)).map aL) (λx hx=>by obtain⟨p,_,rfl⟩:=G4.mp hx; exact nA p) (gh _) (by simp[ar])
 rw[GM,GD]at h1;obtain⟨v,hv,rfl⟩:=h1;have e:bz bs u=v:=by unfold bz; rw[Ha,hv]; rfl
 rw[e];obtain⟨t,ht,rfl⟩:=G4.mp (GV hv);exact#[t,ht,rfl,λs hs=>h3 _ (G4.mpr #[_,G4.mpr #[s,hs,rfl],rfl])]
def gq {bs:Gy G1}{u:Wd}(h:u.length=3):bz bs u=kL bs u:=by
 obtain⟨t,ht,e,mn⟩:=ff (bs:=bs) (u:=u);obtain⟨o,h1,h2,h3⟩:=kM (bs:=bs) (u:=u);have hl:∀t∈ar,fA (aL (ag bs u t)) (aL (kL bs u))=gV false:=λt ht=>by
  obtain⟨g1,g2⟩:=cG.mp ht;rw[<- h]at g1 g2;exact(pj (bs:=bs) (u:=u) u.length (GY _)).least t g1 g2
 show io (sw (nA _) ?_ ?_)
 ·rw[e]; exact hl t ht
 ·rw[<- h3];rw[h]at h1 h2;exact mn o (cG.mpr #[h1,h2])
def xz {bs:Gy G1}{a:GJ}{gs:Gy Wd}{w:Wd}(hb:GoodB bs)(hgs:∀g∈gs,g∈aE a bs)(hw:GoodW a bs.length w)(h3:w.length=3):bz bs w∈gs↔w∈aw bs gs:=by
 unfold aw;rw[Ke];have fp:∀(u:Wd) (t:Gy GJ),GoodW a bs.length u->u.length=3->t∈ar->bz bs (ag bs u t)=bz bs u:=λu t hu hl ht=>by
  obtain⟨t1,t2⟩:=cG.mp ht;rw[gq hl,gq (by rw[aI,t2]),kN hb hu (by rw[hl]; exact t1) (by rw[t2,hl])]
 constructor
 ·intro h;obtain⟨t,ht,e,_⟩:=ff (bs:=bs) (u:=w);obtain⟨t1,t2⟩:=cG.mp ht;have inv:∀t∈ar,∃s∈ar,(s.map λi=>t.getD i 0)=[0,1,2]:=by decide
  obtain⟨s,hs,es⟩:=inv t ht;show#[_,h,G4.mpr #[s,hs,?_]];have:=i9 (p:=s) hb hw (by rw[h3]; exact t1) (by rw[t2]; exact(cG.mp hs).1)
  rw[e,this,es];have r3:[0,1,2]=GL w.length:=by rw[h3]; rfl
  rw[r3];have self:∀k,k<=w.length->ag bs w (GL k)=w.take k:=λk=>by
   induction k with
   | zero=>intro _; simp[ag]
   | succ k ih=>
    intro hk;rw[Jg,gm,ih ∅,t4 hw ∅,HK,am (d:=(0,[])) ∅]; rfl
  rw[self _ (GY _),HY]
 ·rintro⟨g,hg,h⟩;obtain⟨t,ht,rfl⟩:=G4.mp h;have hf:=hgs g hg;obtain⟨gg,g3⟩:=c7 hb hf;rw[fp g t gg g3 ht];unfold aE at hf;rw[JZ]at hf;obtain⟨u,hu,e⟩:=G4.mp hf;obtain⟨gu,u3⟩:=gU hu;obtain⟨s,hs,es,_⟩:=ff (bs:=bs) (u:=u);have:bz bs g=g:=by
   rw[<- e]
   conv=>lhs; rw[es]
   rw[fp u s gu u3 hs]
  rw[this]; exact hg
abbrev ja:Ss:=
 #v[.ret (.ix (.ix (.ix (.v 0) (.c (.int 1))) (.v 1)) (.c (.int 1)))]
abbrev c8:Ss:=
 #v[.set 4 (.own "barred_by" 4 #v[.v 0,.v 1,.v 2,.v 3]),.set 5 (.comp (.v 1) (.nm 1) (.rng #v[.bi .len #v[.ix (.v 0) (.c (.int 1))]]) #v[.cmp .is (.ix (.v 2) (.v 1)) (.c .non)] [td,td,gV 4]),.ite (.cmp .is (.ix (.v 4) (.neg (.c (.int 1)))) (.c .non)) #v[.ex (.me .append (.v 5) #v[.neg (.c (.int 1))])] .nil,.ret (.v 5)]
abbrev bU:Ss:=
 #v[.ret (.own "all_bars" 5 #v[.v 0,.own "barred_threes" 1 #v[.v 0],.v 1,.v 2,.v 3])]
abbrev fg:Ss:=
 #v[.set 5 (.comp (.own "first_bar" 2 #v[.v 2,.own "with_both" 5 #v[.v 6,.v 3,.v 4,.v 5,.v 1]]) (.nm 1) (.rng #v[.bi .len #v[.ix (.v 0) (.c (.int 1))]]) .nil [td,td,gV 1,gV 2,gV 3,gV 4,gV 0]),.ret (.bi .tuple #v[.op .add (.v 5) (.lst #v[.own "same_bar" 2 #v[.v 3,.v 4]])])]
abbrev dj:Ss:=
 #v[.ret (.op .add (.v 1) (.tup #v[.v 2,.tup #v[.ix (.v 3) (.c (.int 0)),.op .add (.ix (.v 3) (.c (.int 1))) (.tup #v[.own "back" 2 #v[.v 0,.v 4]])]]))]
abbrev d0:Ss:=
 #v[.ite (.cmp .ne (.ix (.v 0) (.c (.int 0))) (.ix (.v 1) (.c (.int 0)))) #v[.ret (.neg (.c (.int 1)))] .nil,.set 2 (.comp (.v 1) (.nm 1) (.rng #v[.bi .len #v[.ix (.v 0) (.c (.int 1))]]) #v[.cmp .ne (.ix (.ix (.v 2) (.c (.int 1))) (.v 1)) (.ix (.ix (.v 3) (.c (.int 1))) (.v 1))] [td,td,gV 0,gV 1]),.ret (.ite (.v 2) (.ix (.v 2) (.c (.int 0))) (.c .non))]
abbrev aS (P:GJ->Hi)(s:GJ):W:=match (GL s).find? P with
 | some i=>.int (i:G1)
 | none=>.non
def qG {P:GJ->Hi}{s:GJ}(h:∀i < s,P i=false):aS P s=.non:=by
 unfold aS;have:(GL s).find? P=td:=Jr.mpr λi hi=>by rw[h i (G2.mp hi)]; exact He
 rw[this]
def kO {P:GJ->Hi}:∀ {s i:GJ},i < s->P i=true->(∀j < i,P j=false)->(GL s).find? P=gV i
 | s+1,i,hi,hp,hn=>by
  rw[Jg,List.find?_append]
  by_cases e:i=s
  ·subst e;have:(GL i).find? P=td:=Jr.mpr λj hj=>by rw[hn j (G2.mp hj)]; exact He
   rw[this];simp[hp]
  ·rw[kO ∅ hp hn]; rfl
def qH {P:GJ->Hi}{s i:GJ}(hi:i < s)(hp:P i=true)(hn:∀j < i,P j=false):aS P s=.int (i:G1):=by
 unfold aS;rw[kO hi hp hn]
def qI {P:GJ->Hi}{s:GJ}:(((GL s).filter P).map (λ(i:GJ)=>W.int (i:G1))++[.non])[0]?=gV (aS P s):=by
 unfold aS;rw[<- List.head?_filter];cases(GL s).filter P <;> rfl
def jo (P:GJ->Hi)(s:GJ):aS P s=.non\/∃i:G1,aS P s=.int i:=by
 unfold aS;cases(GL s).find? P with
 | none=>exact .inl rfl
 | some i=>exact .inr #[_,rfl]
def jp {P P':GJ->Hi}{s:GJ}(h:∀i < s,P i=P' i):aS P s=aS P' s:=by
 unfold aS;have:(GL s).find? P=(GL s).find? P':=by
  have:∀L:Gy GJ,(∀i∈L,P i=P' i)->L.find? P=L.find? P':=λL=>by
   induction L with
   | nil=>intro _; rfl
   | cons x L ih=>
    intro hx;rw[Jf,Jf,hx x (HU ..),ih λi hi=>hx i (HC _ hi)]
  exact this _ λi hi=>h i (G2.mp hi)
 rw[this]
abbrev dk (bs:Gy G1)(u:Wd)(one other:Pt)(n:GJ):Wd:=u++[one]++[(other.1,other.2++[bs.getD n 0])]
abbrev d3 (one other:Pt):W:=if one.1=other.1 then aS (λp=>!(one.2.getD p 0==other.2.getD p 0)) one.2.length else .int (-1)
abbrev aT (P:Wd->GJ->Hi)(bs:Gy G1)(u:Wd)(one other:Pt):Gy W:=(GL bs.length).map (λn=>aS (P (dk bs u one other n)) u.length)++[d3 one other]
def qJ (one other:Pt):d3 one other=.non\/∃i:G1,d3 one other=.int i:=by
 unfold d3;split
 ·exact jo _ _
 ·exact .inr #[_,rfl]
structure GoodP (a n k:GJ)(p:Pt):Prop where
 mark:0<=p.1/\p.1 < a
 len:p.2.length=k
 way:∀w∈p.2,0<=w/\w < (n:G1)
def uk {bs:Gy G1}{a:GJ}{u:Wd}{one other:Pt}{n:GJ}(hb:GoodB bs)(hu:GoodW a bs.length u)(h1:GoodP a bs.length u.length one)(h2:GoodP a bs.length u.length other)(hn:n < bs.length):GoodW a bs.length (dk bs u one other n)/\(dk bs u one other n).length=u.length+2:=by
 show#[(hu.snoc (m:=one.1) (ws:=one.2) h1.mark h1.len h1.way).snoc h2.mark ?_ λw hw=>?_,?_]
 ·rw[GQ,GQ,h2.len]; rfl
 ·rcases HF.mp hw with z|z
  ·exact h2.way w z
  ·rw[G8.mp z];obtain⟨b,hb1,hb2,hb3⟩:=hb.rng n hn;rw[getD_some hb1]; exact#[hb2,hb3]
 ·unfold dk;rw[GQ,GQ]; rfl
section
variable{defs:Gy (Hc×Df)}{fuel d:GJ}{S:aa}{Q:QW}
def pq (h3:Is defs ("three_at" : Hc) 4 6 cZ)(hg:Is defs ("first_bar" : Hc) 2 4 di){a n q s:GJ}{v:Wd}{U:Gy (T×W)}(hv:GoodW a n v)(hs:v.length=s+2)(hl:v.length<=1000)(e:S[q]?=gV (.dic U))(k:Q (aS (λp=>iw U v p s (s+1)) s,S)) :
  wO (aP (au defs fuel (d+2)) "first_bar" 2 [.ref q,aA v] S) Q:=by
 show az hg rfl rfl λQ' hR=>?_
 replace k:=hR _ _ k;clear hR;change wZ _ _ di [gV (.ref q),gV (aA v),td,td] S Q';have ul:(v.map aK).length=v.length:=Gz ..;dsimp only[di];show st ?_;left;show aY (ab kA ?_);rw[ul,show((v.length:GJ):G1) - 1=((s+1:GJ):G1) by omega]
 nofun
 show cu (s:G1) (λi Z S'=>(∃a3,Z=[gV (.ref q),gV (aA v),gV (.int ((s+1:GJ):G1)),a3])/\S'=S/\∀i' < i,iw U v i' s (s+1)=false) rfl rfl ∅ ?_ ?_ ?_
 ·dsimp only[wE,wV,wG];show ab kA #[?_,#[_,rfl],rfl,λi' z=>∅]
  dsimp only;rw[show((s+1:GJ):G1) - 1=(s:G1) by omega]
 ·rintro i Z S1 hi ⟨⟨a3,rfl⟩,rfl,no⟩ Q2 hn hr;clear hK;dsimp only[GX];nofun
  dsimp only[wS,wT,wE,wA,wV,wG];show ab kA ?_;dsimp only;rw[show((s+1:GJ):G1) - 1=(s:G1) by omega]
  show zW (d:=d) h3 hv ∅ (Jn s) ∅ ?_
  show ab (show bo .isin (aA (dv v i s (s+1))) (.ref q) S1=gV (.bl (iw U v i s (s+1)),S1) by simp only[bo,bV e,nv]; rfl) ?_
  dsimp only[wB];show ap (Q0:=Q2) (λh Q5 _ hr5=>?_) (λh Q5 hn5 _=>bg (hn5 _ _ (hK _ _ (bg (hn _ _ #[#[_,rfl],rfl,λi' z=>?_])))))
  ·show st ?_;dsimp only[wS,wE,wV,wG];rw[qH (P:=λp=>iw U v p s (s+1)) ∅ h no]at k
   exact hr5 _ _ (hr _ _ k)
  ·by_cases ei:i'=i
   ·rw[ei]; exact h
   ·exact no i' ∅
 ·rintro Z S1 ⟨⟨a3,rfl⟩,rfl,no⟩;show hK _ _ (st ?_);dsimp only[wS,wE];rw[qG (P:=λp=>iw U v p s (s+1)) λi hi=>no i ∅]at k
  exact k
def Cy (hg:Is defs ("back" : Hc) 2 2 ja){m0 b0:W}{ns:Gy Hc}{bs:Gy G1}{n:GJ}(hnl:ns.length=bs.length)(hn:n < bs.length)(k:Q (.int (bs.getD n 0),S)) :
  wO (aP (au defs fuel (d+1)) "back" 2 [.tup [m0,.tup (G3 aF ns bs),b0],.int n] S) Q:=by
 show az hg rfl rfl λQ' hR=>?_
 replace k:=hR _ _ k;change wZ _ _ ja [gV (.tup [m0,.tup (G3 aF ns bs),b0]),gV (.int n)] S Q';have hb:=am (d:=0) hn;dsimp only[ja];show st ?_;dsimp only[wS,wE,wV,wG];exact ah #v[] rfl (ah (GR n) (by rw[G0]; exact iX (G5 ∅) hb) (ah #v[] rfl k))
def pv (hbk:Is defs ("back" : Hc) 2 2 ja)(hg:Is defs ("with_both" : Hc) 5 5 dj){m0 b0:W}{ns:Gy Hc}{bs:Gy G1}{u:Wd}{one other:Pt}{n:GJ}(hnl:ns.length=bs.length)(hn:n < bs.length)(hu:u.length<=900)(ho:other.2.length<=900)(k:Q (aA (dk bs u one other n),S)) :
  wO (aP (au defs fuel (d+2)) "with_both" 5 [.tup [m0,.tup (G3 aF ns bs),b0],aA u,aK one,aK other,.int n] S) Q:=by
 show az hg rfl rfl λQ' hR=>?_
 replace k:=hR _ _ k;change wZ _ _ dj [gV (.tup [m0,.tup (G3 aF ns bs),b0]),gV (aA u),gV (aK one),gV (aK other),gV (.int n)] S Q';dsimp only[dj];show st ?_;left;show ah #v[] rfl (ah #v[] rfl ?_)
 show Cy (d:=d) hbk hnl hn ?_;show ab (dY (i6 ?_)) ?_
 ·rw[GQ,Gz]; show _+1<=_; omega
 dsimp only;have ev:u.map aK++[aK one,.tup [.int other.1,.tup (other.2.map W.int++[.int (bs.getD n 0)])]]=(dk bs u one other n).map aK:=by
  unfold dk;simp[aK]
 unfold aA at k ⊢;show ab (dY (i6 ?_)) ?_
 ·rw[GQ,Gz]; show _+2<=_; omega
 dsimp only;rw[ev];exact k
def qK (hg:Is defs ("same_bar" : Hc) 2 3 d0){one other:Pt}(h:other.2.length=one.2.length)(hl:one.2.length<=900)(k:∀S',Ka S S'->Q (d3 one other,S')) :
  wO (aP (au defs fuel (d+1)) "same_bar" 2 [aK one,aK other] S) Q:=by
 show az hg rfl rfl λQ' hR=>?_
 replace k:∀S',Ka S S'->Q' (.rt (d3 one other),S'):=λS' a=>hR _ _ (k S' a)
 clear hR;change wZ _ _ d0 [gV (aK one),gV (aK other),td] S Q';have wl:∀(p:Pt) (i:GJ),i < p.2.length->(p.2.map W.int)[((i:GJ):G1).toNat]?=gV (.int (p.2.getD i 0)):=λp i hi=>by
  rw[G0,GM,am (d:=0) hi]; rfl
 dsimp only[d0];nofun
 dsimp only[wS,wT,wE,wV,wG];show ah #v[] rfl (ah #v[] rfl (ab Cf ?_))
 dsimp only[wB];unfold d3 at k;show ap (Q0:=Q') (λhm Q2 _ hr=>?_) (λhm Q2 hn _=>bg (hn _ _ (hK _ _ ?_)))
 ·have hm:one.1≠other.1:=λz=>by rw[z]at hm; simp at hm
  show st ?_;dsimp only[wS,wE,wN];rw[Hl hm]at k;exact hr _ _ (k S .refl)
 clear hK K hn;have hm:one.1=other.1:=by
  by_cases z:one.1=other.1
  ·exact z
  ·have:(!(one.1==other.1))=true:=by simp[z]
   rw[this]at hm; cases hm
 rw[Hf hm]at k;show st ?_;dsimp only[wS,wE,GX];show kK one.2.length (λp=>!(one.2.getD p 0==other.2.getD p 0)) (λ(i:GJ)=>W.int (i:G1)) [gV (aK one),gV (aK other)] rfl rfl rfl rfl ∅ ?_ (λi hi S2 k2=>?_) λS2 k2=>?_
 ·dsimp only[wE,wA,wV,wG];show ah #v[] rfl (aY ?_)
  rw[Gz];exact#[rfl,.refl]
 ·dsimp only[fu,wC,wT,wE,wV,wG];show ah #v[] rfl (ah (GR i) (wl one i hi) (ah #v[] rfl (ah (GR i) (wl other i ∅) (ab Cf ?_))))
  dsimp only[wB];exact#[λz=>#[z,rfl,.refl],λz=>#[z,.refl]]
 ·have hh:=qI (P:=λp=>!(one.2.getD p 0==other.2.getD p 0)) (s:=one.2.length)
  show st ?_;dsimp only[wS,wE,wT,wV,wG];cases hL:((GL one.2.length).filter λp=>!(one.2.getD p 0==other.2.getD p 0))with
  | nil=>
   rw[hL]at hh;show ab (show eE (S2++[O.lst []]) (.ref S2.length)=gV false by simp only[eE,aD ak]; rfl) #[λz=>(by cases z),λ_=>?_]
   have e:aS (λp=>!(one.2.getD p 0==other.2.getD p 0)) one.2.length=.non:=(HV hh).symm
   rw[e]at k;exact k _ (k2.trans .push)
  | cons x L=>
   rw[hL]at hh;show ab (show eE (S2++[O.lst ((x::L).map λ(i:GJ)=>W.int (i:G1))]) (.ref S2.length)=gV true by simp only[eE,aD ak]; rfl) #[λ_=>?_,λz=>by cases z]
   have e:aS (λp=>!(one.2.getD p 0==other.2.getD p 0)) one.2.length=.int (x:G1):=(HV hh).symm
   rw[e]at k;exact dE (i:=0) ak rfl (k _ (k2.trans .push))
end
abbrev jK:W->Hi
 | .non=>true
 | _=>false
abbrev NI (w:W):Prop:=w=.non\/∃i:G1,w=.int i
abbrev pz (xs:Gy W)(n:GJ):Gy G1:=((GL n).filter λi=>jK (xs.getD i (.int 0))).map (λ(i:GJ)=>(i:G1))++(if jK (xs.getLastD (.int 0))then[-1]else[])
abbrev PB (X:Gy T)(s:GJ)(v:Wd)(p:GJ):Hi:=decide (aL (dv v p s (s+1))∈X)
def sy {S:aa}{w:W}(h:NI w):bo .is w .non S=gV (.bl (jK w),S):=by
 rcases h with rfl|⟨i,rfl⟩ <;> rfl
def nC {P:Wd->GJ->Hi}{bs:Gy G1}{u:Wd}{one other:Pt}:∀w∈aT P bs u one other,NI w:=λw hw=>by
 unfold aT at hw;rcases HF.mp hw with z|z
 ·obtain⟨n,_,rfl⟩:=G4.mp z;exact jo _ _
 ·rw[G8.mp z]; exact qJ _ _
def jb {P:Wd->GJ->Hi}{bs:Gy G1}{u:Wd}{one other:Pt}:(aT P bs u one other).length=bs.length+1:=by
 unfold aT;rw[GQ,Gz,Hg]; rfl
def pA {S:aa}{xs:Gy W}(h:xs≠[]):jy (.tup xs) (.int (-1)) S=gV (xs.getLastD (.int 0),S):=by
 have hp:0 < xs.length:=JP.mpr h;have hs:qW xs.length (-1)=gV (xs.length - 1):=by
  unfold qW;rw[Hl #v[]]
  exact(Hf ∅).trans (by congr 1; omega)
 have hg:xs[xs.length - 1]?=gV (xs.getLastD (.int 0)):=by
  rw[Ki,Lo];have:xs.length - 1 < xs.length:=∅
  simp[this]
 simp only[jy,sP,nM,hs,hg,Option.bind_some,Hv]
def zY {xs:Gy W}(h:xs≠[])(hx:∀w∈xs,NI w):NI (xs.getLastD (.int 0)):=by
 rw[Ki,List.getLast?_eq_some_getLast h];exact hx _ (List.getLast_mem h)
def zZ {xs:Gy W}{i:GJ}(h:i < xs.length)(hx:∀w∈xs,NI w):xs[i]?=gV (xs.getD i (.int 0))/\NI (xs.getD i (.int 0)):=by
 have:=am (d:=W.int 0) h;exact#[this,hx _ (GV this)]
section
variable{defs:Gy (Hc×Df)}{fuel d:GJ}{S:aa}{Q:QW}
structure Fil (defs:Gy (Hc×Df)):Prop where
 parts:Parts defs
 part:Is defs ("part" : Hc) 3 3 i4
 longer:Is defs ("longer_orders" : Hc) 2 4 bu
 barred:Is defs ("barred_threes" : Hc) 1 5 bL
 three:Is defs ("three_at" : Hc) 4 6 cZ
 fbar:Is defs ("first_bar" : Hc) 2 4 di
 back:Is defs ("back" : Hc) 2 2 ja
 both:Is defs ("with_both" : Hc) 5 5 dj
 same:Is defs ("same_bar" : Hc) 2 3 d0
 all:Is defs ("all_bars" : Hc) 5 6 fg
def qL (F:Fil defs){m0 b0:W}{ns:Gy Hc}{bs:Gy G1}{a q:GJ}{u:Wd}{one other:Pt}{U:Gy (T×W)}(hb:GoodB bs)(hnl:ns.length=bs.length)(hu:GoodW a bs.length u)(h1:GoodP a bs.length u.length one)(h2:GoodP a bs.length u.length other)(hul:u.length<=800)(e:S[q]?=gV (.dic U))
  (k:∀S',Ka S S'->Q (.tup (aT (λv p=>iw U v p u.length (u.length+1)) bs u one other),S')) :
  wO (aP (au defs fuel (d+3)) "all_bars" 5 [.tup [m0,.tup (G3 aF ns bs),b0],.ref q,aA u,aK one,aK other] S) Q:=by
 show az F.all rfl rfl λQ' hR=>?_
 replace k:∀S',Ka S S'->Q' (.rt (.tup (aT (λv p=>iw U v p u.length (u.length+1)) bs u one other)),S'):=λS' a=>hR _ _ (k S' a)
 clear hR;change wZ _ _ fg [gV (.tup [m0,.tup (G3 aF ns bs),b0]),gV (.ref q),gV (aA u),gV (aK one),gV (aK other),td] S Q';generalize hR0:W.tup [m0,.tup (G3 aF ns bs),b0]=R;have hb3:bs.length<=3:=by rcases hb with rfl|rfl|rfl|rfl|rfl|rfl <;> decide
 dsimp only[fg];show st ?_;dsimp only[wS,wE,GX];show kK bs.length (λ_=>true) (λn=>aS (λp=>iw U (dk bs u one other n) p u.length (u.length+1)) u.length) [gV (.ref q),gV (aA u),gV (aK one),gV (aK other),gV R] rfl rfl rfl rfl ∅ ?_ (λn hn S2 k2=>?_) λS2 k2=>?_
 ·dsimp only[wE,wA,wV,wG];subst hR0;show ah #v[] rfl (aY ?_)
  rw[Jh,hnl,JY];exact#[rfl,.refl]
 ·obtain⟨g1,g2⟩:=uk hb hu h1 h2 hn;dsimp only[fu,wC,wE,wA,wV,wG];subst hR0;show#[λ_=>?_,λz=>by cases z]
  show pv (d:=d) F.back F.both hnl hn ∅ (by rw[h2.len]; omega) ?_
  exact pq (d:=d) F.three F.fbar g1 g2 ∅ (k2.get _ _ e) #[rfl,rfl,.refl]
 ·rw[cm];show st ?_;left;show qK (d:=d+1) F.same (by rw[h1.len,h2.len]) (by rw[h1.len]; omega) λS3 k3=>?_
  dsimp only;show ab (qp (aq (k3.get _ _ ak)) ak (i6 ?_)) (cF ak (k _ (((k2.trans .push).trans k3).trans (Ka.push.trans .push))));rw[GQ,Gz,Hg]; show _+1<=_; omega
def jq (hfu:20 < fuel)(F:Fil defs)(hby:Is defs ("barred_by" : Hc) 4 4 bU){m0:W}{ns:Gy Hc}{bs:Gy G1}{a:GJ}{gs:Gy Wd}{u:Wd}{one other:Pt}(hb:GoodB bs)(hnl:ns.length=bs.length)(hgs:∀g∈gs,GoodW a bs.length g/\g.length=3)(h64:gs.length<=100)(hu:GoodW a bs.length u)(h1:GoodP a bs.length u.length one)(h2:GoodP a bs.length u.length other)(hul:u.length<=800)
  (k:∀S',Ka S S'->Q (.tup (aT (PB ((aw bs gs).map aL) u.length) bs u one other),S')) :
  wO (aP (au defs fuel (d+5)) "barred_by" 4 [.tup [m0,.tup (G3 aF ns bs),.tup (gs.map aA)],aA u,aK one,aK other] S) Q:=by
 show az hby rfl rfl λQ' hR=>?_
 change wZ _ _ bU [gV (.tup [m0,.tup (G3 aF ns bs),.tup (gs.map aA)]),gV (aA u),gV (aK one),gV (aK other)] S Q';dsimp only[bU];show st ?_;left;show xq (d:=d) hfu F.parts F.part F.longer F.barred hb hnl hgs h64 λq U S1 e1 hk _ k1=>?_
 have ep:(λ(v:Wd) p=>iw U v p u.length (u.length+1))=PB ((aw bs gs).map aL) u.length:=funext λv=>funext λp=>hk.get _
 show qL (d:=d+1) F hb hnl hu h1 h2 hul e1 λS2 k2=>hR _ _ ?_
 rw[ep];exact k S2 (k1.trans k2)
def gW (hfu:20 < fuel)(F:Fil defs)(hby:Is defs ("barred_by" : Hc) 4 4 bU)(hfi:Is defs ("fillings" : Hc) 4 6 c8){m0:W}{ns:Gy Hc}{bs:Gy G1}{a:GJ}{gs:Gy Wd}{u:Wd}{one other:Pt}(hb:GoodB bs)(hnl:ns.length=bs.length)(hgs:∀g∈gs,GoodW a bs.length g/\g.length=3)(h64:gs.length<=100)(hu:GoodW a bs.length u)(h1:GoodP a bs.length u.length one)(h2:GoodP a bs.length u.length other)(hul:u.length<=800)
  (k:∀(l:GJ) S',S'[l]?=gV (.lst (ac (pz (aT (PB ((aw bs gs).map aL) u.length) bs u one other) bs.length)))->S.length<=l->Ka S S'->Q (.ref l,S')) :
  wO (aP (au defs fuel (d+6)) "fillings" 4 [.tup [m0,.tup (G3 aF ns bs),.tup (gs.map aA)],aA u,aK one,aK other] S) Q:=by
 show az hfi rfl rfl λQ' hR=>?_
 replace k:∀(l:GJ) S',S'[l]?=gV (.lst (ac (pz (aT (PB ((aw bs gs).map aL) u.length) bs u one other) bs.length)))->S.length<=l->Ka S S'->Q' (.rt (.ref l),S'):=λl S' a b c=>hR _ _ (k l S' a b c)
 clear hR;change wZ _ _ c8 [gV (.tup [m0,.tup (G3 aF ns bs),.tup (gs.map aA)]),gV (aA u),gV (aK one),gV (aK other),td,td] S Q';have hb3:bs.length<=3:=by rcases hb with rfl|rfl|rfl|rfl|rfl|rfl <;> decide
 dsimp only[c8];show st ?_;left;show jq (d:=d) hfu F hby hb hnl hgs h64 hu h1 h2 hul λS1 k1=>?_
 have ni:=nC (P:=PB ((aw bs gs).map aL) u.length) (bs:=bs) (u:=u) (one:=one) (other:=other);have bl:=jb (P:=PB ((aw bs gs).map aL) u.length) (bs:=bs) (u:=u) (one:=one) (other:=other);generalize aT (PB ((aw bs gs).map aL) u.length) bs u one other=X at ni bl k;have xne:X≠[]:=λz=>by rw[z]at bl; cases bl
 show st ?_;dsimp only[wS,wE,GX];show kK bs.length (λi=>jK (X.getD i (.int 0))) (λ(i:GJ)=>W.int (i:G1)) [gV (.tup X)] rfl rfl rfl rfl ∅ ?_ (λi hi S2 k2=>?_) λS2 k2=>?_
 ·dsimp only[wE,wA,wV,wG];show ah #v[] rfl (aY ?_)
  rw[Jh,hnl,JY];exact#[rfl,.refl]
 ·obtain⟨g1,g2⟩:=zZ (i:=i) ∅ ni
  dsimp only[fu,wC,wT,wE,wV,wG];show ah (GR i) (by rw[G0]; exact g1) (ab (sy g2) ?_)
  dsimp only[wB];exact#[λz=>#[z,rfl,.refl],λz=>#[z,.refl]]
 ·have em:((GL bs.length).filter λi=>jK (X.getD i (.int 0))).map (λ(i:GJ)=>W.int (i:G1))=ac (((GL bs.length).filter λi=>jK (X.getD i (.int 0))).map λ(i:GJ)=>(i:G1)):=by unfold ac; rw[HL]; rfl
  rw[em];have hl:(ac (((GL bs.length).filter λi=>jK (X.getD i (.int 0))).map λ(i:GJ)=>(i:G1))).length<=3:=by
   unfold ac;rw[Gz,Gz];exact HB (IX _ _) (by rw[Hg]; exact hb3)
  have kl:S.length<=S2.length:=(k1.trans k2).len;unfold pz at k;nofun
  dsimp only[wS,wT,wE,wV,wG,wN];show ab (pA xne) (ab (sy (zY xne ni)) ?_);dsimp only[wB];show ap (Q0:=Q') (λz Q2 hn _=>?_) (λz Q2 hn _=>bg (hn _ _ (hK _ _ (st ?_))))
  ·rw[Hf z]at k;show st ?_;dsimp only[wS,wE,wA,wV,wG,wN];show#[cg ak,Cq ak ∅ (bg (hn _ _ (hK _ _ (st ?_))))]
   dsimp only[wS,wE,wV,wG];show k _ _ ?_ kl (((k1.trans k2).trans .push).late kl);rw[br ak];unfold ac;rw[Hk]; rfl
  ·rw[Hl (by rw[z]; exact He),Iv]at k
   dsimp only[wS,wE,wV,wG];exact k _ _ ak kl ((k1.trans k2).trans .push)
end
abbrev cw:Ss:=
 #v[.set 1 (.own "_law_pick" 2 #v[.v 0,.c (.int 8)]),.ite (.cmp .lt (.v 1) (.c (.int 4))) #v[.ret (.own "_law_any_rule" 1 #v[.v 0])] .nil,.ite (.cmp .lt (.v 1) (.c (.int 7))) #v[.ret (.own "_law_laying_rule" 1 #v[.v 0])] .nil,.ret (.own "_law_unlaying_rule" 1 #v[.v 0])]
abbrev cx:Ss:=
 #v[.set 4 (.own "_law_pick" 2 #v[.v 0,.bi .len #v[.ix (.v 1) (.c (.int 0))]]),.loop (.nm 5) (.rng #v[.bi .len #v[.ix (.v 1) (.c (.int 0))]]) #v[.set 6 (.op .mod (.op .add (.v 4) (.v 5)) (.bi .len #v[.ix (.v 1) (.c (.int 0))])),.set 7 (.own "_law_new_ways" 6 #v[.v 0,.v 1,.v 2,.v 3,.v 6,.tup .nil]),.ite (.cmp .isnot (.v 7) (.c .non)) #v[.ret (.tup #v[.v 6,.v 7])] .nil],.ret (.c .non)]
abbrev fj:Ss:=
 #v[.asg [5,6] (.v 4),.set 7 (.own "_law_pick" 2 #v[.v 0,.c (.int 4)]),.ite (.cmp .eq (.v 7) (.c (.int 1))) #v[.set 5 (.own "_law_pick" 2 #v[.v 0,.bi .len #v[.ix (.v 1) (.c (.int 0))]])] #v[.ite (.and (.cmp .gt (.v 7) (.c (.int 1))) (.cmp .ne (.v 6) (.tup .nil))) #v[.set 8 (.own "_law_pick" 2 #v[.v 0,.bi .len #v[.v 6]]),.set 6 (.op .add (.op .add (.sl (.v 6) .no (.yes (.v 8))) (.tup #v[.own "_law_pick" 2 #v[.v 0,.bi .len #v[.ix (.v 1) (.c (.int 1))]]])) (.sl (.v 6) (.yes (.op .add (.v 8) (.c (.int 1)))) .no))] .nil],.ite (.own "_law_last_may" 4 #v[.v 1,.v 2,.op .add (.v 3) (.tup #v[.tup #v[.v 5,.v 6]]),.bi .len #v[.v 3]]) #v[.ret (.tup #v[.v 5,.v 6])] .nil,.ret (.v 4)]
abbrev fq:Ss:=
 #v[.set 4 (.own "_law_world" 4 #v[.v 0,.v 1,.v 2,.v 3]),.set 5 (.own "_law_new_point" 4 #v[.v 0,.v 1,.v 2,.v 4]),.ite (.cmp .is (.v 5) (.c .non)) #v[.set 5 (.ix (.v 4) (.neg (.c (.int 1)))),.set 4 (.sl (.v 4) .no (.yes (.neg (.c (.int 1)))))] .nil,.set 6 (.c .non),.ite (.cmp .eq (.own "_law_pick" 2 #v[.v 0,.c (.int 2)]) (.c (.int 0))) #v[.set 6 (.own "_law_new_point" 4 #v[.v 0,.v 1,.v 2,.v 4])] .nil,.ite (.cmp .is (.v 6) (.c .non)) #v[.set 6 (.own "_law_near" 5 #v[.v 0,.v 1,.v 2,.v 4,.v 5])] .nil,.ret (.tup #v[.v 4,.v 5,.v 6])]
def Et {S:aa}{xs:Gy G1}:bo .ne (.tup (ac xs)) (.tup []) S=gV (.bl (!decide (xs=[])),S):=by
 cases xs <;> rfl
def Std.last {U:Gy (T×W)}{u:Wd}(h:Std U u):Std U u.dropLast/\fe U u.dropLast u.dropLast.length (u.getD (u.length - 1) (0,[]))=true:=by
 have e:∀p,p < u.length - 1->u.dropLast.getD p (0,[])=u.getD p (0,[]):=λp hp=>by
  rw[Ha,Ha,LW,Hf hp]
 show#[λk hk j hj i hi=>?_,jI.mpr λj hj i hi=>?_]
 ·rw[JJ]at hk;have:=h k ∅ j hj i hi
  unfold iw dv at this ⊢;rw[e i ∅,e j ∅,e k hk]
  exact this
 ·rw[JJ]at hj;have:=h (u.length - 1) ∅ j hj i hi
  unfold iw dv at this;unfold l5;rw[e i ∅,e j ∅]
  exact this
section
variable{defs:Gy (Hc×Df)}{fuel d:GJ}{S:aa}{r:GJ}{Q:QW}
structure Pai (defs:Gy (Hc×Df)):Prop where
 un:Is defs ("_law_unlaying_rule" : Hc) 1 10 bc
 some':Is defs ("_law_some_rule" : Hc) 1 2 cw
 ways:Is defs ("_law_new_ways" : Hc) 6 11 aN
 world:Is defs ("_law_world" : Hc) 4 8 dh
 lmay:Is defs ("_law_last_may" : Hc) 4 8 bT
 point:Is defs ("_law_new_point" : Hc) 4 8 cx
 near:Is defs ("_law_near" : Hc) 5 9 fj
 pair:Is defs ("_law_pair" : Hc) 4 7 fq
def pB (hfu:20 < fuel)(G:Gen defs)(P:Pai defs)(hf:Fl S r)(k:∀w S',cY w->Fl S' r->Kp r S S'->Q (w,S')):wO (aP (au defs fuel (d+8)) "_law_some_rule" 1 [.ref r] S) Q:=by
 show az P.some' rfl rfl λQ' hR=>?_
 replace k:∀w S',cY w->Fl S' r->Kp r S S'->Q' (.rt w,S'):=λz S' a b c=>hR _ _ (k z S' a b c)
 clear hR;change wZ _ _ cw [gV (.ref r),td] S Q';dsimp only[cw];nofun
 left;show aR (d:=d+6) G.pick hf #v[] #v[] λv S1 v0 v7 f1 k1=>hK _ _ ?_
 clear hK K;nofun
 dsimp only[wS,wT,wE,wV,wG,qr,aM,wB];show ap (Q0:=Q') (λ_ Q2 _ hr=>?_) (λ_ Q2 hn _=>bg (hn _ _ (hK _ _ ?_)))
 ·show st ?_;left;exact qx (d:=d+1) hfu G f1 λw S2 a b c=>hr _ _ (k w S2 a b (k1.trans c))
 clear hK K hn;nofun
 dsimp only[wS,wT,wE,wV,wG,qr,aM,wB];show ap (Q0:=Q') (λ_ Q2 _ hr=>?_) (λ_ Q2 hn _=>bg (hn _ _ (hK _ _ ?_)))
 ·show st ?_;left;exact xk (d:=d) hfu G f1 λw S2 a b c=>hr _ _ (k w S2 a b (k1.trans c))
 show st ?_;left;exact qA (d:=d+1) hfu G P.un f1 λw S2 a b c=>k w S2 a b (k1.trans c)
def qM (G:Gen defs)(hg:Is defs ("_law_new_ways" : Hc) 6 11 aN){m0 b0:W}{N:Gy W}{a n q:GJ}{u:Wd}{mk:G1}{U:Gy (T×W)}(hN:N.length=n)(hn3:n<=3)(hu:GoodW a n u)(hl:u.length<=900)(e:S[q]?=gV (.dic U))(hqr:q≠r)(hf:Fl S r)
  (k:∀w S',((w=.non/\u≠[])\/∃to:Gy G1,w=.tup (ac to)/\to.length=u.length/\(∀x∈to,0<=x/\x < (n:G1))/\∀j < u.length,∀i < j,bp U u mk i j (to.getD i 0) (to.getD j 0)=false)->Fl S' r->Kp r S S'->Q (w,S')) :
  wO (aP (au defs fuel (d+2)) "_law_new_ways" 6 [.ref r,.tup [m0,.tup N,b0],.ref q,aA u,.int mk,.tup []] S) Q:=by
 by_cases z:u=[]
 ·subst z;show az hg rfl rfl λQ' hR=>?_
  change wZ _ _ aN [gV (.ref r),gV (.tup [m0,.tup N,b0]),gV (.ref q),gV (aA []),gV (.int mk),gV (.tup (ac [])),td,td,td,td,td] S Q';dsimp only[aN];nofun
  show iq 0 0 (λm Z S'=>Z=[gV (.ref r),gV (.tup [m0,.tup N,b0]),gV (.ref q),gV (aA []),gV (.int mk),gV (.tup (ac [])),td,td,td,td,td]/\S'=S) rfl rfl rfl #v[] ?_ (λm Z S1 hm=>∅) ?_
  ·dsimp only[wE,wA,wV,wG];exact aY #[rfl,aY #[rfl,rfl,rfl]]
  ·rintro Z S1 ⟨rfl,rfl⟩;show hK _ _ (st ?_);dsimp only[wS,wE,wV,wG];exact hR _ _ (k _ _ (.inr #[[],rfl,rfl,(λx hx=>nomatch hx),λj hj=>by cases hj]) hf .refl)
 ·show kJ G hg hN hn3 hu hl e hqr hf λw S' hw f' k'=>k w S' ?_ f' k'
  rcases hw with h|h
  ·exact .inl #[h,z]
  ·exact .inr h
def jr (G:Gen defs)(P:Pai defs){tx N:Gy W}{b0:W}{a n q:GJ}{u:Wd}{U:Gy (T×W)}(hM:tx.length=a)(ha1:0 < a)(ha3:a<=3)(hN:N.length=n)(hn3:n<=3)(hu:GoodW a n u)(hl:u.length<=900)(e:S[q]?=gV (.dic U))(hqr:q≠r)(hf:Fl S r)
  (k:∀w S',((w=.non/\u≠[])\/∃p,w=aK p/\GoodP a n u.length p/\fe U u u.length p=true)->Fl S' r->Kp r S S'->Q (w,S')) :
  wO (aP (au defs fuel (d+3)) "_law_new_point" 4 [.ref r,.tup [.tup tx,.tup N,b0],.ref q,aA u] S) Q:=by
 show az P.point rfl rfl λQ' hR=>?_
 replace k:∀w S',((w=.non/\u≠[])\/∃p,w=aK p/\GoodP a n u.length p/\fe U u u.length p=true)->Fl S' r->Kp r S S'->Q' (.rt w,S'):=λw S' h1 h2 h3=>hR _ _ (k w S' h1 h2 h3)
 clear hR;change wZ _ _ cx [gV (.ref r),gV (.tup [.tup tx,.tup N,b0]),gV (.ref q),gV (aA u),td,td,td,td] S Q';generalize hR0:W.tup [.tup tx,.tup N,b0]=R;dsimp only[cx];nofun
 left;have lm:∀(S:aa) (Q:QW),Q (.int (a:G1),S)->wO (jy R (.int 0) S) λp=>wO (Bi.len.fn [p.1] p.2) Q:=λS Q q=>by
  subst hR0;show ah #v[] rfl (aY ?_)
  rw[hM]; exact q
 show lm _ _ ?_;show aR (d:=d+1) G.pick hf ∅ ∅ λv S1 v0 v1 f1 k1=>hK _ _ ?_
 clear hK K;nofun
 show cu (a:G1) (λi Z S'=>(∃a5 a6 a7,Z=[gV (.ref r),gV R,gV (.ref q),gV (aA u),gV (.int v),a5,a6,a7])/\(u=[]->i=0)/\Fl S' r/\Kp r S S') rfl rfl ∅ ?_ ?_ ?_
 ·dsimp only[wE,wA,wV,wG];exact lm _ _ #[rfl,#[_,_,_,rfl],λ_=>rfl,f1,k1]
 ·rintro i Z S2 hi ⟨⟨a5,a6,a7,rfl⟩,_,f2,k2⟩ Q2 hn2 hr2;clear hK;dsimp only[GX];show st ?_;left;show ab dX (lm _ _ (ab (kB ∅) ?_))
  have m0:0<=(v+(i:G1)) % (a:G1):=JA _ ∅
  have m1:(v+(i:G1)) % (a:G1) < a:=IY _ ∅
  generalize(v+(i:G1)) % (a:G1)=m at m0 m1;show st ?_;left;subst hR0;show qM (d:=d) G P.ways hN hn3 hu hl (k2.get _ _ hqr e) hqr f2 λw S3 hw f3 k3=>?_
  nofun
  dsimp only[wS,wT,wE,wA,wV,wG];rcases hw with⟨rfl,hne⟩|⟨to,rfl,htl,hto,hbp⟩
  ·show ab (show bo .isnot .non .non S3=gV (.bl false,S3)from rfl) ?_
   dsimp only[wB];exact ap (Q0:=Q2) (λz=>by cases z) (λ_ Q5 hn5 _=>bg (hn5 _ _ (hK _ _ (bg (hn2 _ _ #[#[_,_,_,rfl],λz=>absurd z hne,f3,k2.trans k3])))))
  ·show ab (show bo .isnot (.tup (ac to)) .non S3=gV (.bl true,S3)from rfl) ?_
   dsimp only[wB];show ap (Q0:=Q2) (λ_ Q5 _ hr5=>?_) (λz=>by cases z)
   show st ?_;left;exact hr5 _ _ (hr2 _ _ (k _ _ (.inr #[(m,to),rfl,#[#[m0,m1],htl,hto],jI.mpr hbp]) f3 (k2.trans k3)))
 ·rintro Z S2 ⟨⟨a5,a6,a7,rfl⟩,hz,f2,k2⟩;rw[G0]at hz;show hK _ _ (st ?_);dsimp only[wS,wE];exact k _ _ (.inl #[rfl,λz=>by have:=hz z; omega]) f2 k2
def Cz (G:Gen defs)(P:Pai defs){tx N:Gy W}{b0:W}{a n q:GJ}{u:Wd}{p:Pt}{U:Gy (T×W)}(hM:tx.length=a)(ha1:0 < a)(ha3:a<=3)(hN:N.length=n)(hn1:0 < n)(hn3:n<=3)(hu:GoodW a n u)(hp:GoodP a n u.length p)(hpm:fe U u u.length p=true)(hl:u.length<=900)(e:S[q]?=gV (.dic U))(hqr:q≠r)(hf:Fl S r)
  (k:∀p' S',GoodP a n u.length p'->fe U u u.length p'=true->Fl S' r->Kp r S S'->Q (aK p',S')) :
  wO (aP (au defs fuel (d+2)) "_law_near" 5 [.ref r,.tup [.tup tx,.tup N,b0],.ref q,aA u,aK p] S) Q:=by
 show az P.near rfl rfl λQ' hR=>?_
 replace k:∀p' S',GoodP a n u.length p'->fe U u u.length p'=true->Fl S' r->Kp r S S'->Q' (.rt (aK p'),S'):=λw S' h1 h2 h3 h4=>hR _ _ (k w S' h1 h2 h3 h4)
 clear hR;change wZ _ _ fj [gV (.ref r),gV (.tup [.tup tx,.tup N,b0]),gV (.ref q),gV (aA u),gV (aK p),td,td,td,td] S Q';generalize hR0:W.tup [.tup tx,.tup N,b0]=R;have lm:∀(S:aa) (Q:QW),Q (.int (a:G1),S)->wO (jy R (.int 0) S) λp=>wO (Bi.len.fn [p.1] p.2) Q:=λS Q q=>by
  subst hR0;show ah #v[] rfl (aY ?_)
  rw[hM]; exact q
 have lw:∀(S:aa) (Q:QW),Q (.int (n:G1),S)->wO (jy R (.int 1) S) λp=>wO (Bi.len.fn [p.1] p.2) Q:=λS Q q=>by
  subst hR0;show ah #v[] rfl (aY ?_)
  rw[hN]; exact q
 have ul:(u.map aK).length=u.length:=Gz ..;dsimp only[fj];show st ?_;dsimp only[wS,wE,wV,wG,wU,aK];show ab (show cf [5,6] [.int p.1,.tup (p.2.map W.int)] [gV (.ref r),gV R,gV (.ref q),gV (aA u),gV (.tup [.int p.1,.tup (p.2.map W.int)]),td,td,td,td]=gV [gV (.ref r),gV R,gV (.ref q),gV (aA u),gV (aK p),gV (.int p.1),gV (.tup (ac p.2)),td,td]from rfl) ?_
 nofun
 left;show aR (d:=d) G.pick hf #v[] #v[] λv S1 _ _ f1 k1=>hK _ _ ?_
 clear hK K;nofun
 have tl:∀(m:G1) (to:Gy G1) (a8:GH W) (S2:aa),GoodP a n u.length (m,to)->Fl S2 r->Kp r S S2->K [gV (.ref r),gV R,gV (.ref q),gV (aA u),gV (aK p),gV (.int m),gV (.tup (ac to)),gV (.int v),a8] S2:=by
  intro m to a8 S2 hg f2 k2;show hK _ _ ?_;clear hK K;nofun
  dsimp only[wS,wT,wE,wA,wV,wG,aA];have ev:u.map aK++[.tup [.int m,.tup (ac to)]]=(u++[(m,to)]).map aK:=by rw[Hk]; rfl
  show ab (dY (i6 (by rw[ev,Gz,GQ,Ij]; omega))) (aY ?_)
  dsimp only;rw[ev,ul];have lmay:=λ(Q:QW)=>qF (fuel:=fuel) (d:=d) (Q:=Q) (R:=R) (h:=(m,to)) P.lmay hu hg.len ∅ (k2.get _ _ hqr e)
  unfold aA at lmay;show lmay _ ?_;show ab (show eE S2 (.bl (fe U u u.length (m,to)))=gV (fe U u u.length (m,to))from rfl) ?_
  show ap (Q0:=Q') (λhmt Q2 _ hr=>?_) (λ_ Q2 hn _=>bg (hn _ _ (hK _ _ (st ?_))))
  ·show st ?_;left;exact hr _ _ (k (m,to) S2 hg hmt f2 k2)
  ·dsimp only[wS,wE,wV,wG];exact k p S2 hp hpm f2 k2
 dsimp only[wS,wT,wE,wV,wG,ll,aM,wB];show ap (Q0:=Q') (λ_ Q2 hn _=>?_) (λ_ Q2 hn _=>?_)
 ·show st ?_;left;show lm _ _ (aR (d:=d) G.pick f1 ∅ ∅ λm S2 m0 m1 f2 k2=>bg (hn _ _ (tl m p.2 td S2 #[#[m0,m1],hp.len,hp.way] f2 (k1.trans k2))))
 ·show aJ λK2 hK2=>?_
  dsimp only[wS,wT,wE,wA,wV,wG];have stay:K2 [gV (.ref r),gV R,gV (.ref q),gV (aA u),gV (aK p),gV (.int p.1),gV (.tup (ac p.2)),gV (.int v),td] S1:=hK2 _ _ (bg (hn _ _ (tl p.1 p.2 td S1 hp f1 k1)));show ab Cg ?_;dsimp only[wB];show#[λ_=>ab Et ?_,λ_=>ap (Q0:=Q2) (λz=>by cases z) λ_ Q3 hn3 _=>bg (hn3 _ _ stay)]
  dsimp only[wB];show ap (Q0:=Q2) (λhne Q3 hn3 _=>?_) (λ_ Q3 hn3 _=>bg (hn3 _ _ stay))
  have hne:p.2≠[]:=by simpa using hne
  have hpl:0 < p.2.length:=JP.mpr hne;have il:(ac p.2).length=p.2.length:=Gz ..;have hpe:=hp.len;show st ?_;left;show aY ?_;rw[il];show aR (d:=d) G.pick f1 ∅ ∅ λv2 S2 v0 v1 f2 k2=>?_
  obtain⟨at',rfl⟩ : ∃k:GJ,v2=k:=#[v2.toNat,∅]
  show st ?_;dsimp only[wS,wE,wA,wP,wV,wG,wN,GX];show ab (show mE (.tup (ac p.2)) td (gV ((at':GJ):G1)) S2=gV (.tup ((ac p.2).take at'),S2) by simp only[mE,eL]) ?_
  dsimp only;show lw _ _ (aR (d:=d) G.pick f2 ∅ ∅ λw S3 w0 w1 f3 k3=>?_)
  show ab (dY (i6 (by rw[GQ,Hu,il]; show _+1<=_; omega))) ?_
  dsimp only;show ab dX ?_;dsimp only;show ab (show mE (.tup (ac p.2)) (gV ((at':G1)+1)) td S3=gV (.tup ((ac p.2).drop (at'+1)),S3) by rw[show(at':G1)+1=((at'+1:GJ):G1) by omega]; simp only[mE,wq]) ?_
  dsimp only;show ab (dY (i6 (by rw[GQ,GQ,Hu,JR,il]; show _+1+_<=_; omega))) ?_
  have es:(ac p.2).take at'++[.int w]++(ac p.2).drop (at'+1)=ac (p.2.set at' w):=by
   unfold ac;rw[OL,List.set_eq_take_append_cons_drop,Hf (by rw[Gz]; omega)]
   simp
  dsimp only;rw[es];show bg (hn3 _ _ (hK2 _ _ (bg (hn _ _ (tl p.1 (p.2.set at' w) _ S3 #[hp.mark,?_,λx hx=>?_] f3 ((k1.trans k2).trans k3))))))
  ·show(p.2.set at' w).length=_;rw[NU]; exact hpe
  ·rcases List.mem_or_eq_of_mem_set hx with z|z
   ·exact hp.way x z
   ·rw[z]; exact#[w0,w1]
def CA (G:Gen defs)(P:Pai defs){tx N:Gy W}{b0:W}{a n q many:GJ}{U:Gy (T×W)}(hM:tx.length=a)(ha1:0 < a)(ha3:a<=3)(hN:N.length=n)(hn1:0 < n)(hn3:n<=3)(hm:many<=800)(e:S[q]?=gV (.dic U))(hqr:q≠r)(hf:Fl S r)
  (k:∀(u:Wd) (one other:Pt) S',u.length<=many->GoodW a n u->Std U u->GoodP a n u.length one->fe U u u.length one=true->GoodP a n u.length other->fe U u u.length other=true->Fl S' r->Kp r S S'->Q (.tup [aA u,aK one,aK other],S')) :
  wO (aP (au defs fuel (d+4)) "_law_pair" 4 [.ref r,.tup [.tup tx,.tup N,b0],.ref q,.int many] S) Q:=by
 show az P.pair rfl rfl λQ' hR=>?_
 replace k:∀(u:Wd) (one other:Pt) S',u.length<=many->GoodW a n u->Std U u->GoodP a n u.length one->fe U u u.length one=true->GoodP a n u.length other->fe U u u.length other=true->Fl S' r->Kp r S S'->Q' (.rt (.tup [aA u,aK one,aK other]),S'):=λu x y S' h1 h2 h3 h4 h5 h6 h7 h8 h9=>hR _ _ (k u x y S' h1 h2 h3 h4 h5 h6 h7 h8 h9)
 clear hR;change wZ _ _ fq [gV (.ref r),gV (.tup [.tup tx,.tup N,b0]),gV (.ref q),gV (.int many),td,td,td] S Q';generalize hR0:W.tup [.tup tx,.tup N,b0]=R;dsimp only[fq];nofun
 left;subst hR0;show zX (d:=d) G P.ways P.world hM ha1 ha3 hN hn3 ∅ e hqr hf λu S1 hul hu hst f1 k1=>hK _ _ ?_
 clear hK K;nofun
 left;show jr (d:=d) G P hM ha1 ha3 hN hn3 hu ∅ (k1.get _ _ hqr e) hqr f1 λw S2 hw f2 k2=>hK _ _ ?_
 clear hK K;have k12:=k1.trans k2;clear f1 k1 k2;nofun
 have tl:∀(u:Wd) (one:Pt),u.length<=many->GoodW a n u->Std U u->GoodP a n u.length one->fe U u u.length one=true->K [gV (.ref r),gV (.tup [.tup tx,.tup N,b0]),gV (.ref q),gV (.int many),gV (aA u),gV (aK one),td] S2:=by
  intro u one hul hu hst h1 h1m;show hK _ _ ?_;clear hK K;show st ?_;dsimp only[wS,wE,GX];nofun
  have tl2:∀(w:W) (S3:aa),(w=.non\/∃p,w=aK p/\GoodP a n u.length p/\fe U u u.length p=true)->Fl S3 r->Kp r S S3->K [gV (.ref r),gV (.tup [.tup tx,.tup N,b0]),gV (.ref q),gV (.int many),gV (aA u),gV (aK one),gV w] S3:=by
   intro w S3 hw f3 k3;show hK _ _ ?_;clear hK K;nofun
   dsimp only[wS,wT,wE,wV,wG];have ret:∀(p:Pt) (S4:aa),GoodP a n u.length p->fe U u u.length p=true->Fl S4 r->Kp r S S4->K [gV (.ref r),gV (.tup [.tup tx,.tup N,b0]),gV (.ref q),gV (.int many),gV (aA u),gV (aK one),gV (aK p)] S4:=λp S4 hp hpm f4 k4=>hK _ _ (st (by
    left;exact k u one p S4 hul hu hst h1 h1m hp hpm f4 k4))
   rcases hw with rfl|⟨p,rfl,hp,hpm⟩
   ·show ab (show bo .is .non .non S3=gV (.bl true,S3)from rfl) ?_
    dsimp only[wB];show ap (Q0:=Q') (λ_ Q2 hn _=>?_) (λz=>by cases z)
    show st ?_;left;exact Cz (d:=d+1) G P hM ha1 ha3 hN hn1 hn3 hu h1 h1m ∅ (k3.get _ _ hqr e) hqr f3 λp S4 hp hpm f4 k4=>bg (hn _ _ (ret p S4 hp hpm f4 (k3.trans k4)))
   ·show ab (show bo .is (aK p) .non S3=gV (.bl false,S3)from rfl) ?_
    dsimp only[wB];exact ap (Q0:=Q') (λz=>by cases z) (λ_ Q2 hn _=>bg (hn _ _ (ret p S3 hp hpm f3 k3)))
  dsimp only[wS,wT,wE,wA,wV,wG];show aR (d:=d+2) G.pick f2 #v[] #v[] λv S3 _ _ f3 k3=>?_
  dsimp only[ll,aM,wB];show ap (Q0:=Q') (λ_ Q2 hn _=>?_) (λ_ Q2 hn _=>bg (hn _ _ (tl2 .non S3 (.inl rfl) f3 (k12.trans k3))))
  show st ?_;left;show jr (d:=d) G P hM ha1 ha3 hN hn3 hu ∅ (k3.get _ _ hqr (k12.get _ _ hqr e)) hqr f3 λw S4 hw f4 k4=>bg (hn _ _ (tl2 w S4 ?_ f4 ((k12.trans k3).trans k4)))
  rcases hw with⟨h,_⟩|h
  ·exact .inl h
  ·exact .inr h
 dsimp only[wS,wT,wE,wV,wG];rcases hw with⟨rfl,hne⟩|⟨p,rfl,hp,hpm⟩
 ·show ab (show bo .is .non .non S2=gV (.bl true,S2)from rfl) ?_
  dsimp only[wB];show ap (Q0:=Q') (λ_ Q2 hn _=>?_) (λz=>by cases z)
  have hup:0 < u.length:=JP.mpr hne;have hlt:u.length - 1 < u.length:=∅
  have gl:=am (d:=(0,[])) hlt;show st ?_;dsimp only[wS,wE,wV,wG,wN,GX];have el:(u.map aK).getLastD (.int 0)=aK (u.getD (u.length - 1) (0,[])):=by
   rw[Ki,Lo,Gz,GM,gl]; rfl
  show ab (pA (xs:=u.map aK) (by simpa using hne)) ?_
  rw[el];show st ?_;dsimp only[wS,wE,wP,wV,wG,wN,GX];show ab (show mE (aA u) td (gV (-1)) S2=gV (aA u.dropLast,S2) by simp only[aA,mE,xn,List.map_dropLast]) ?_
  show bg (hn _ _ (tl u.dropLast (u.getD (u.length - 1) (0,[])) (by rw[JJ]; omega) (uj hu) hst.last.1 #[hu.mark _ _ gl,?_,hu.way _ _ gl] hst.last.2))
  rw[hu.len _ _ gl,JJ]
 ·show ab (show bo .is (aK p) .non S2=gV (.bl false,S2)from rfl) ?_
  dsimp only[wB];exact ap (Q0:=Q') (λz=>by cases z) (λ_ Q2 hn _=>bg (hn _ _ (tl u p hul hu hst hp hpm)))
end
abbrev pE (u:Wd)(one other:Pt)(b:G1)(p:GJ):Wd:=[((u.getD p (0,[])).1,[]),(one.1,[one.2.getD p 0]),(other.1,[other.2.getD p 0,b])]
def kP {bs:Gy G1}{a k:GJ}{u:Wd}{one other:Pt}{n p:GJ}(h1:GoodP a k u.length one)(h2:GoodP a k u.length other)(hp:p < u.length):dv (dk bs u one other n) p u.length (u.length+1)=pE u one other (bs.getD n 0) p:=by
 have l1:(u++[one]).length=u.length+1:=by rw[GQ]; rfl
 have g0:(dk bs u one other n).getD p (0,[])=u.getD p (0,[]):=by
  unfold dk;rw[bG ∅,bG hp]
 have g1:(dk bs u one other n).getD u.length (0,[])=one:=by
  unfold dk;rw[bG ∅,eZ]
 have g2:(dk bs u one other n).getD (u.length+1) (0,[])=(other.1,other.2++[bs.getD n 0]):=by
  unfold dk;rw[<- l1,eZ]
 unfold dv pE;rw[g0,g1,g2];dsimp only;rw[qE (by rw[h2.len]; exact hp)]
 have:(other.2++[bs.getD n 0]).getD u.length 0=bs.getD n 0:=by
  rw[<- h2.len,Ha,Ii (GY _),Nr]; rfl
 rw[this]
abbrev bC (X:Gy T)(bs:Gy G1)(u:Wd)(one other:Pt)(i p:GJ):Hi:=decide (aL (pE u one other (bs.getD i 0) p)∈X)
abbrev jL (one other:Pt)(s:GJ):Hi:=(one.1==other.1)&&(GL s).all λp=>one.2.getD p 0==other.2.getD p 0
abbrev dm (B:GJ->GJ->Hi)(sm:Hi)(n s:GJ):Gy G1:=((GL n).filter λi=>(GL s).all λp=>!B i p).map (λ(i:GJ)=>(i:G1))++(if sm then[-1]else[])
def eR {P:GJ->Hi}{s:GJ}:jK (aS P s)=(GL s).all λp=>!P p:=by
 rw[IE,G7];unfold aS;constructor
 ·intro h p hp;cases hf:(GL s).find? P with
  | none=>
   have:=Jr.mp hf p hp
   simpa using this
  | some i=>rw[hf]at h; cases h
 ·intro h;have:(GL s).find? P=td:=Jr.mpr λp hp=>by simpa using h p hp
  rw[this]; rfl
def jM {X:Gy T}{bs:Gy G1}{a:GJ}{u:Wd}{one other:Pt}(h1:GoodP a bs.length u.length one)(h2:GoodP a bs.length u.length other):pz (aT (PB X u.length) bs u one other) bs.length=dm (bC X bs u one other) (jL one other u.length) bs.length u.length:=by
 have hg:∀i,i < bs.length->(aT (PB X u.length) bs u one other).getD i (.int 0)=aS (bC X bs u one other i) u.length:=λi hi=>by
  unfold aT;rw[Ha,Hr (by rw[Gz,Hg]; exact hi),GM,IG hi]
  show jp λp hp=>?_
  change decide (aL (dv (dk bs u one other i) p u.length (u.length+1))∈X)=_;rw[kP h1 h2 hp]; rfl
 have hl:(aT (PB X u.length) bs u one other).getLastD (.int 0)=d3 one other:=by
  unfold aT;rw[Mq]
 unfold pz dm;rw[hl];congr 1
 ·congr 1;show Nt λi hi=>?_
  rw[hg i (G2.mp hi),eR]
 ·have:jK (d3 one other)=jL one other u.length:=by
   unfold d3 jL
   by_cases e:one.1=other.1
   ·rw[Hf e,eR,h1.len,e,Im,JM];congr 1
    funext p
    rw[OM]
   ·rw[Hl e,show(one.1==other.1)=false by simpa using e]; rfl
  rw[this]
def ma {B:GJ->GJ->Hi}{sm:Hi}{n s:GJ}{z:G1}:z∈dm B sm n s↔(∃i:GJ,z=i/\i < n/\∀p < s,B i p=false)\/(z = -1/\sm=true):=by
 unfold dm;rw[HF,G4];constructor
 ·rintro(⟨i,hi,rfl⟩|h)
  ·obtain⟨h1,h2⟩:=Ih.mp hi;exact .inl #[i,rfl,G2.mp h1,λp hp=>by simpa using G7.mp h2 p (G2.mpr hp)]
  ·cases sm with
   | true=>exact .inr #[G8.mp h,rfl]
   | false=>cases h
 ·rintro(⟨i,rfl,h1,h2⟩|⟨rfl,rfl⟩)
  ·exact .inl #[i,Ih.mpr #[G2.mpr h1,G7.mpr λp hp=>by simpa using h2 p (G2.mp hp)],rfl]
  ·exact .inr (G8.mpr rfl)
abbrev ay (p:Pt)(ps:Gy GJ):Pt:=(p.1,ps.map λk=>p.2.getD k 0)
def dL {a n s:GJ}{p:Pt}{ps:Gy GJ}(h:GoodP a n s p)(hps:∀k∈ps,k < s):GoodP a n ps.length (ay p ps):=by
 show#[h.mark,by unfold ay; rw[Gz],λw hw=>?_]
 unfold ay at hw;obtain⟨k,hk,rfl⟩:=G4.mp hw;exact h.way _ (GV (am (d:=0) (by rw[h.len]; exact hps k hk)))
def bv {p:Pt}{ps:Gy GJ}{i:GJ}(h:i < ps.length):(ay p ps).2.getD i 0=p.2.getD (ps.getD i 0) 0:=by
 unfold ay;rw[Ha,GM,am (d:=0) h]; rfl
abbrev bj:Ss:=
 #v[.set 2 (.bi .list #v[.v 1]),.set 3 (.lst .nil),.whl (.cmp .ne (.v 2) (.lst .nil)) #v[.ex (.me .append (.v 3) #v[.me .pop (.v 2) #v[.own "_law_pick" 2 #v[.v 0,.bi .len #v[.v 2]]]])],.ret (.v 3)]
def z5 {M:Hc->FF}{fuel:GJ}{Z:Fm}{S:aa}{K:Fm->aa->Prop}{Q:QO}{tg:Tg}{a:E}{b:Ss}(xs:Gy W)(I:GJ->Fm->aa->Prop)(oa:dq a=true)(ok:fM b=true)(he:wE M a Z S λp=>EK p.1=gV xs/\I 0 Z p.2)
  (hstep:∀(i:GJ) (x:W) (Z:Fm) (S:aa),xs[i]?=gV x->I i Z S->wO (fX tg (.tup [.int i,x]) Z S) λq=>tQ M fuel b q.1 q.2 (I (i+1)) Q) (hend:∀Z S,I xs.length Z S->K Z S):Wp (fB M fuel (.loop tg (.enu #v[a]) b) Z S) (oQ K Q):=by
 obtain⟨x,S1,e1,h1,h0⟩:=bE oa he;have hl:(iO xs).length=xs.length:=by simp[iO]
 show fN (mi:=.its (iO xs)) (S1:=S1) (xs:=iO xs) I ok (by simp only[iP,cR,dw,ib,vS,e1,h1]) (λ_ _ _ _=>rfl) rfl h0 (λi w Z S hw hI=>?_) λZ S hI=>hend Z S (hl ▸ hI)
 obtain⟨y,hy,rfl⟩:=ki hw;exact hstep i y Z S hy hI
def qN {S:aa}{i j:GJ}{c:Hi}(h:iE S 20 (.ref i) (.ref j)=gV c):bo .ne (.ref i) (.ref j) S=gV (.bl (!c),S):=by
 simp only[bo,dz,ut,h,Hv]
def Eu {S:aa}{i j:GJ}{xs:Gy W}(h1:S[i]?=gV (.lst xs))(h2:S[j]?=gV (.lst [])):bo .ne (.ref i) (.ref j) S=gV (.bl (!xs.isEmpty),S):=by
 show qN ?_;simp only[iE,bx h1,bx h2];cases xs with
 | nil=>rfl
 | cons x xs=>rfl
def CB {S:aa}{i j:GJ}{xs ys:Gy G1}(h1:S[i]?=gV (.lst (xs.map W.int)))(h2:S[j]?=gV (.lst (ys.map W.int)))(e:xs=ys):bo .ne (.ref i) (.ref j) S=gV (.bl false,S):=by
 subst e;show qN (c:=true) ?_;simp only[iE,bx h1,bx h2,i5];simp
def pG {z:G1}:∀xs:Gy G1,((ac xs).any λw=>nH w (.int z))=decide (z∈xs)
 | []=>by simp[ac]
 | x::xs=>by
  have:=pG (z:=z) xs;unfold ac at this ⊢;rw[HX,Jm,this];have:nH (.int x) (.int z)=(x==z):=rfl;rw[this]
  by_cases e:x=z
  ·simp[e]
  ·have:¬ z=x:=λh=>e h.symm
   simp[e,this]
def AC {S:aa}{l:GJ}{xs:Gy G1}{z:G1}(h:S[l]?=gV (.lst (ac xs))):bo .isin (.int z) (.ref l) S=gV (.bl (decide (z∈xs)),S):=by
 have hf:(aV (.int z)&&(ac xs).all aV)=true:=by
  simp only[aV,JM,G7];intro x hx;unfold ac at hx;obtain⟨y,_,rfl⟩:=G4.mp hx;rfl
 simp only[bo,gf h,dz,ut,yA,dc,aD h,hf,JE,Hv,pG]
abbrev pI (o:Gy GJ)(x:G1):G1:=((o.getD x.toNat 0:GJ):G1)
abbrev aX (pm pn:Gy GJ)(p:Pt):Pt:=(pI pm p.1,p.2.map (pI pn))
abbrev aQ (pm pn:Gy GJ)(u:Wd):Wd:=u.map (aX pm pn)
structure RnOk (a:GJ)(bs bs':Gy G1)(pm pn:Gy GJ):Prop where
 hm:Ord a pm
 lm:pm.length=a
 hn:Ord bs.length pn
 ln:pn.length=bs.length
 lb:bs'.length=bs.length
 gb:GoodB bs'
 back:∀w:GJ,w < bs.length->bs'.getD (pn.getD w 0) 0=pI pn (bs.getD w 0)
def AD {n:GJ}{o:Gy GJ}(h:Ord n o)(hl:o.length=n){x:G1}(h0:0<=x)(h1:x < n):0<=pI o x/\pI o x < n:=by
 have hx:x.toNat < o.length:=∅
 have:=h.lt _ (GV (am (d:=0) hx));unfold pI;omega
def nD {n:GJ}{o:Gy GJ}(h:Ord n o)(hl:o.length=n){x y:G1}(x0:0<=x)(x1:x < n)(y0:0<=y)(y1:y < n)(e:pI o x=pI o y):x=y:=by
 have hx:x.toNat < o.length:=∅
 have hy:y.toNat < o.length:=∅
 have e1:o[x.toNat]=o.getD x.toNat 0:=by simp[hx]
 have e2:o[y.toNat]=o.getD y.toNat 0:=by simp[hy]
 have:x.toNat=y.toNat:=(Iq h.nd).mp (by rw[e1,e2]; unfold pI at e; omega)
 omega
section
variable{a:GJ}{bs bs':Gy G1}{pm pn:Gy GJ}
def eS {u:Wd}{k:GJ}(hk:k < u.length):(aQ pm pn u).getD k (0,[])=aX pm pn (u.getD k (0,[])):=by
 unfold aQ;rw[Ha,GM,am (d:=(0,[])) hk]; rfl
def gr {p:Pt}{k:GJ}(hk:k < p.2.length):(aX pm pn p).2.getD k 0=pI pn (p.2.getD k 0):=by
 unfold aX;dsimp only;rw[Ha,GM,am (d:=0) hk]; rfl
def RnOk.pt (R:RnOk a bs bs' pm pn){k:GJ}{p:Pt}(h:GoodP a bs.length k p):GoodP a bs'.length k (aX pm pn p):=by
 show#[AD R.hm R.lm h.mark.1 h.mark.2,by unfold aX; rw[Gz]; exact h.len,λw hw=>?_]
 obtain⟨x,hx,rfl⟩:=G4.mp hw;rw[R.lb];exact AD R.hn R.ln (h.way x hx).1 (h.way x hx).2
def RnOk.wd (R:RnOk a bs bs' pm pn){u:Wd}(h:GoodW a bs.length u):GoodW a bs'.length (aQ pm pn u):=by
 have key:∀(k:GJ) (q:Pt),(aQ pm pn u)[k]?=gV q->GoodP a bs'.length k q:=λk q e=>by
  unfold aQ at e;rw[GM,GD]at e;obtain⟨p,hp,rfl⟩:=e;exact R.pt #[h.mark k p hp,h.len k p hp,h.way k p hp]
 exact#[λk q e=>(key k q e).mark,λk q e=>(key k q e).len,λk q e=>(key k q e).way]
def kQ {n:GJ}(h:Ord n pn)(hl:pn.length=n):∀ {xs ys:Gy G1},(∀x∈xs,0<=x/\x < (n:G1))->(∀x∈ys,0<=x/\x < (n:G1))->xs.map (pI pn)=ys.map (pI pn)->xs=ys
 | [],[],_,_,_=>rfl
 | [],_::_,_,_,e=>by cases e
 | _::_,[],_,_,e=>by cases e
 | x::xs,y::ys,hx,hy,e=>by
  rw[HX,HX]at e;injection e with e1 e2
  have a1:=hx x HU;have a2:=hy y HU;rw[nD h hl a1.1 a1.2 a2.1 a2.2 e1,kQ h hl (λz hz=>hx z (HC _ hz)) (λz hz=>hy z (HC _ hz)) e2]
def RnOk.inj (R:RnOk a bs bs' pm pn){u v:Wd}(hu:GoodW a bs.length u)(hv:GoodW a bs.length v)(e:aQ pm pn u=aQ pm pn v):u=v:=by
 have hl:u.length=v.length:=by
  have:=congrArg NO e;unfold aQ at this
  rwa [Gz,Gz]at this
 show Lu λk=>?_
 by_cases hk:k < u.length
 ·have h1:=am (d:=(0,[])) hk;have h2:=am (d:=(0,[])) (xs:=v) (by omega:k < v.length)
  rw[h1,h2];have e2:aX pm pn (u.getD k (0,[]))=aX pm pn (v.getD k (0,[])):=by rw[<- eS hk,<- eS ∅,e]
  unfold aX at e2;injection e2 with e3 e4
  have m1:=hu.mark k _ h1;have m2:=hv.mark k _ h2;congr 1;exact OS (nD R.hm R.lm m1.1 m1.2 m2.1 m2.2 e3) (kQ R.hn R.ln (hu.way k _ h1) (hv.way k _ h2) e4)
 ·rw[J2 ∅,J2 ∅]
def RnOk.btw (R:RnOk a bs bs' pm pn){u:Wd}{i j:GJ}(hu:GoodW a bs.length u)(hi:i < u.length)(hj:j < u.length)(hij:i≠j):bK bs' (aQ pm pn u) i j=pI pn (bK bs u i j):=by
 unfold bK;have li:=hu.len i _ (am (d:=(0,[])) hi);have lj:=hu.len j _ (am (d:=(0,[])) hj)
 by_cases h:j < i
 ·rw[Hf h,Hf h,eS hi,gr ∅]
 ·rw[Hl h,Hl h,eS hj,gr ∅]
  have hw:=hu.way j _ (am (d:=(0,[])) hj) _ (GV (am (d:=0) (by omega:i < (u.getD j (0,[])).2.length)))
  have:=R.back ((u.getD j (0,[])).2.getD i 0).toNat ∅
  rw[<- this];unfold pI;rw[G0]
def RnOk.part (R:RnOk a bs bs' pm pn){u:Wd}{ps:Gy GJ}(hu:GoodW a bs.length u)(hps:∀p∈ps,p < u.length)(hnd:ps.Nodup):ag bs' (aQ pm pn u) ps=aQ pm pn (ag bs u ps):=by
 unfold ag;change _=Oh (aX pm pn) _;rw[HL];show HH λk hk=>?_
 have hk:=G2.mp hk;have hm:=GV (am (d:=0) hk);have hku:=hps _ hm;show(((aQ pm pn u).getD (ps.getD k 0) (0,[])).1,_)=(pI pm (u.getD (ps.getD k 0) (0,[])).1,_);rw[eS hku];congr 1;change _=Oh (pI pn) _;rw[HL];show HH λj hj=>?_
 have hjm:=JH hj;show R.btw hu hku (hps j hjm) λz=>?_
 obtain⟨i,hi,e⟩:=Ji hj;rw[Hu]at hi;rw[JG]at e;have e2:ps[k]=ps.getD k 0:=by simp[hk]
 have:i=k:=(Iq hnd).mp (by rw[e,e2,z])
 omega
def fS {u:Wd}{t:Gy GJ}(hb:GoodB bs)(hu:GoodW a bs.length u)(h3:u.length=3)(ht:t∈ar):bz bs (ag bs u t)=bz bs u:=by
 obtain⟨t1,t2⟩:=cG.mp ht;rw[gq h3,gq (by rw[aI,t2]),kN hb hu (by rw[h3]; exact t1) (by rw[t2,h3])]
def pH {g:Wd}(hb:GoodB bs)(h:g∈aE a bs):bz bs g=g:=by
 unfold aE at h;rw[JZ]at h;obtain⟨u,hu,e⟩:=G4.mp h;obtain⟨gu,u3⟩:=gU hu;obtain⟨s,hs,es,_⟩:=ff (bs:=bs) (u:=u);rw[<- e]
 conv=>lhs; rw[es]
 exact fS hb gu u3 hs
def RnOk.fig (R:RnOk a bs bs' pm pn)(hb:GoodB bs){t g:Wd}(ht:GoodW a bs.length t)(t3:t.length=3)(hg:GoodW a bs.length g)(g3:g.length=3):bz bs' (aQ pm pn t)=bz bs' (aQ pm pn g)↔bz bs t=bz bs g:=by
 have rl:∀u:Wd,(aQ pm pn u).length=u.length:=λu=>Gz ..
 have rp:∀ {u:Wd} {s:Gy GJ},GoodW a bs.length u->u.length=3->s∈ar->ag bs' (aQ pm pn u) s=aQ pm pn (ag bs u s):=λhu h3 hs=>by
  obtain⟨s1,s2⟩:=cG.mp hs;exact R.part hu (λp hp=>by rw[h3]; exact s1.lt p hp) s1.nd
 have gp:∀ {u:Wd} {s:Gy GJ},GoodW a bs.length u->u.length=3->s∈ar->GoodW a bs.length (ag bs u s)/\(ag bs u s).length=3:=λhu h3 hs=>by
  obtain⟨s1,s2⟩:=cG.mp hs;exact#[i7 hb hu (λp hp=>by rw[h3]; exact s1.lt p hp) s1.nd,by rw[aI,s2]]
 constructor
 ·intro h;obtain⟨s,hs,es,_⟩:=ff (bs:=bs') (u:=aQ pm pn t);obtain⟨r,hr,er,_⟩:=ff (bs:=bs') (u:=aQ pm pn g);rw[es,er,rp ht t3 hs,rp hg g3 hr]at h;have:=R.inj (gp ht t3 hs).1 (gp hg g3 hr).1 h;rw[<- fS hb ht t3 hs,this,fS hb hg g3 hr]
 ·intro h;obtain⟨s,hs,es,_⟩:=ff (bs:=bs) (u:=t);obtain⟨r,hr,er,_⟩:=ff (bs:=bs) (u:=g);rw[es,er]at h;have h2:=congrArg (aQ pm pn) h;rw[<- rp ht t3 hs,<- rp hg g3 hr]at h2;rw[<- fS R.gb (R.wd ht) (by rw[rl,t3]) hs,h2,fS R.gb (R.wd hg) (by rw[rl,g3]) hr]
def RnOk.barred (R:RnOk a bs bs' pm pn)(hb:GoodB bs){gs gs':Gy Wd}{t:Wd}(hgs:∀g∈gs,g∈aE a bs)(hgs':∀x,x∈gs'↔∃g∈gs,x=bz bs' (aQ pm pn g))(ht:GoodW a bs.length t)(t3:t.length=3):aQ pm pn t∈aw bs' gs'↔t∈aw bs gs:=by
 have rl:∀u:Wd,(aQ pm pn u).length=u.length:=λu=>Gz ..
 rw[<- xz (a:=a) hb hgs ht t3,<- xz (a:=a) R.gb ?_ (R.wd ht) (by rw[rl,t3]),hgs']
 ·constructor
  ·rintro⟨g,hg,e⟩;obtain⟨gg,g3⟩:=c7 hb (hgs g hg);rw[(R.fig hb ht t3 gg g3).mp e,pH hb (hgs g hg)];exact hg
  ·intro h;show#[_,h,?_];obtain⟨s,hs,es,_⟩:=ff (bs:=bs) (u:=t);obtain⟨gg,g3⟩:=c7 hb (hgs _ h);exact(R.fig hb ht t3 gg g3).mpr (pH hb (hgs _ h)).symm
 ·intro x hx;obtain⟨g,hg,rfl⟩:=(hgs' x).mp hx;obtain⟨gg,g3⟩:=c7 hb (hgs g hg);exact jG (R.wd gg) (by rw[rl,g3])
def xA {u:Wd}{p q:Pt}{b:G1}{k:GJ}{n:GJ}(hu:GoodW a n u)(hp:GoodP a n u.length p)(hq:GoodP a n u.length q)(hk:k < u.length)(hbb:0<=b/\b < n):GoodW a n (pE u p q b k):=by
 have m0:=hu.mark k _ (am (d:=(0,[])) hk);have w1:=hp.way _ (GV (am (d:=0) (by rw[hp.len]; exact hk)))
 have w2:=hq.way _ (GV (am (d:=0) (by rw[hq.len]; exact hk)))
 show#[λi x hx=>?_,λi x hx=>?_,λi x hx=>?_] <;>
 ·match i,hx with
  | 0,hx=>cases hx; first|exact m0|rfl|exact λw hw=>nomatch hw
  | 1,hx=>cases hx; first|exact hp.mark|rfl|(intro w hw; cases G8.mp hw; exact w1)
  | 2,hx=>cases hx; first|exact hq.mark|rfl|(intro w hw; rcases Hj.mp hw with rfl|hw; exact w2; cases G8.mp hw; exact hbb)
  | (i+3),hx=>cases hx
def RnOk.bar (R:RnOk a bs bs' pm pn)(hb:GoodB bs){gs gs':Gy Wd}{u:Wd}{p q:Pt}{i k:GJ}(hgs:∀g∈gs,g∈aE a bs)(hgs':∀x,x∈gs'↔∃g∈gs,x=bz bs' (aQ pm pn g))(hu:GoodW a bs.length u)(hp:GoodP a bs.length u.length p)(hq:GoodP a bs.length u.length q)(hi:i < bs.length)(hk:k < u.length) :
  bC ((aw bs' gs').map aL) bs' (aQ pm pn u) (aX pm pn p) (aX pm pn q) (pn.getD i 0) k=bC ((aw bs gs).map aL) bs u p q i k:=by
 obtain⟨b,eb,b0,b1⟩:=hb.rng i hi;have eb':bs.getD i 0=b:=by rw[Ha,eb]; rfl
 have e:pE (aQ pm pn u) (aX pm pn p) (aX pm pn q) (bs'.getD (pn.getD i 0) 0) k=aQ pm pn (pE u p q (bs.getD i 0) k):=by
  unfold pE;rw[eS hk,gr (by rw[hp.len]; exact hk),gr (by rw[hq.len]; exact hk),R.back i hi]
  rfl
 have mem:∀ {L:Gy Wd} {t:Wd},aL t∈L.map aL↔t∈L:=λ{L t}=>#[λh=>by
  obtain⟨x,hx,ex⟩:=G4.mp h;rw[<- io ex]; exact hx,λh=>G4.mpr #[t,h,rfl]]
 unfold bC;rw[e,IE,Kz,Kz,mem,mem];show R.barred hb hgs hgs' (xA hu hp hq hk ?_) rfl;rw[eb']; exact#[b0,b1]
def RnOk.sm (R:RnOk a bs bs' pm pn){s:GJ}{p q:Pt}(hp:GoodP a bs.length s p)(hq:GoodP a bs.length s q):jL (aX pm pn p) (aX pm pn q) s=jL p q s:=by
 unfold jL;rw[IE,GK,GK,KA,KA,G7,G7];have w:∀k < s,((aX pm pn p).2.getD k 0=(aX pm pn q).2.getD k 0↔p.2.getD k 0=q.2.getD k 0):=λk hk=>by
  have k1:k < p.2.length:=by rw[hp.len]; exact hk
  have k2:k < q.2.length:=by rw[hq.len]; exact hk
  have w1:=hp.way _ (GV (am (d:=0) k1));have w2:=hq.way _ (GV (am (d:=0) k2));rw[gr k1,gr k2];exact#[λe=>nD R.hn R.ln w1.1 w1.2 w2.1 w2.2 e,λe=>by rw[e]]
 constructor
 ·rintro⟨h1,h2⟩;exact#[nD R.hm R.lm hp.mark.1 hp.mark.2 hq.mark.1 hq.mark.2 h1,λk hk=>KA.mpr ((w k (G2.mp hk)).mp (KA.mp (h2 k hk)))]
 ·rintro⟨h1,h2⟩;exact#[by unfold aX; rw[h1],λk hk=>KA.mpr ((w k (G2.mp hk)).mpr (KA.mp (h2 k hk)))]
def fT {X:Gy T}{u:Wd}{p q:Pt}{ps:Gy GJ}{i k:GJ}(hk:k < ps.length):bC X bs (ag bs u ps) (ay p ps) (ay q ps) i k=bC X bs u p q i (ps.getD k 0):=by
 unfold bC pE;rw[eP hk,bv hk,bv hk]; rfl
def um {X:Gy T}{u:Wd}{p q:Pt}{ps:Gy GJ}(h:Ord u.length ps)(hl:ps.length=u.length):dm (bC X bs (ag bs u ps) (ay p ps) (ay q ps)) (jL (ay p ps) (ay q ps) u.length) bs.length u.length=dm (bC X bs u p q) (jL p q u.length) bs.length u.length:=by
 have at':∀k < u.length,ps.getD k 0 < u.length:=λk hk=>h.lt _ (GV (am (d:=0) ∅))
 have of:∀k < u.length,∃j < u.length,ps.getD j 0=k:=λk hk=>by
  obtain⟨j,hj,e⟩:=Ji (dG h hl hk);exact#[j,∅,by rw[<- e]; simp[hj]]
 unfold dm;congr 1
 ·congr 1;show Nt λi hi=>?_
  rw[IE,G7,G7];constructor
  ·intro g k hk;obtain⟨j,hj,e⟩:=of k (G2.mp hk);have:=g j (G2.mpr hj);rw[fT ∅,e]at this; exact this
  ·intro g k hk;have hk:=G2.mp hk;rw[fT ∅]
   exact g _ (G2.mpr (at' k hk))
 ·have:jL (ay p ps) (ay q ps) u.length=jL p q u.length:=by
   unfold jL;rw[IE,GK,GK,G7,G7];show and_congr PC #[λg k hk=>?_,λg k hk=>?_]
   ·obtain⟨j,hj,e⟩:=of k (G2.mp hk);have:=g j (G2.mpr hj);rw[bv ∅,bv ∅,e]at this; exact this
   ·have hk:=G2.mp hk;rw[bv ∅,bv ∅]
    exact g _ (G2.mpr (at' k hk))
  rw[this]
end
abbrev nT (n:GJ):T:=.int (n:G1)
def AE (i j:GJ):fA (nT i) (nT j)=gV (decide ((i:G1) < (j:G1))):=by simp[nT,fA]
def xB:∀L:Gy GJ,T.depths (L.map nT)=0
 | []=>by simp[T.depths]
 | n::L=>by simp[T.depths,xB L,nT,T.depth]
def pJ {S:aa}{x:W}{L tx:Gy GJ}(h:cJ S x=gV (aj L))(h64:L.length < 64)(p:L.Perm tx)(hm:tx.Pairwise (· < ·)):eV [x] S=gV (.ref S.length,S++[.lst (aj tx)]):=by
 have al:eg (L.map nT)=true:=by
  unfold eg;rw[G7];intro a ha;rw[G7];intro b hb;obtain⟨i,_,rfl⟩:=G4.mp ha;obtain⟨j,_,rfl⟩:=G4.mp hb;rw[AE]; rfl
 have ok:iH (L.map nT)=true:=by
  unfold iH;simp only[GK,ID,Hm,Gz];show#[#[h64,by rw[xB]; exact IH _],.inr #[?_,al]]
  have:(L.map nT).all (λk=>eU k == "int")=true:=G7.mpr λk hk=>by
   obtain⟨i,_,rfl⟩:=G4.mp hk; rfl
  unfold xK;rw[Hf this]; rfl
 have ts:W.ts (aj L)=gV (L.map nT):=sv L;have nd:L.Nodup:=p.nodup_iff.mpr (hm.imp λh=>Ho h)
 have nt_inj:∀ {a b:GJ},nT a=nT b->a=b:=λe=>by unfold nT at e; injection e with e; omega
 have nice:Nice (L.map nT):=#[λx hx=>by
  obtain⟨i,_,rfl⟩:=G4.mp hx; rfl,al,by
  rw[Js,IT];exact nd.imp λhab e=>hab (nt_inj e)]
 have e:vt (L.map nT)=tx.map nT:=by
  show ox (λx hx=>?_) (hZ.trans (p.map nT)) (vw nice) ?_
  ·obtain⟨i,_,rfl⟩:=G4.mp (hZ.mem_iff.mp hx); rfl
  ·unfold Dv;rw[IT];show hm.imp λh=>?_
   rw[AE,HI ∅]
 simp only[eV,h,ts];rw[Hf ok];have nw:∀K:Gy GJ,aj K=(K.map nT).map T.w:=λK=>by rw[HL]; rfl
 rw[nw L,oU (d:=T.int 0),nw tx,<- e]; rfl
abbrev EO:Gy (Gy G1):=[[0],[0,1],[1,0],[0,1,2],[1,0,2],[0,2,1]]
def pK {bs:Gy G1}:GoodB bs↔bs∈EO:=by
 unfold GoodB EO;simp only[Hj,IF,KI]
abbrev aZ (bs:Gy G1)(pn:Gy GJ):Gy G1:=(GL bs.length).map λk=>pI pn (bs.getD (pn.idxOf k) 0)
abbrev md (bs:Gy G1)(pn:Gy GJ):Hi:=(GL bs.length).all λk=>decide ((((pn.getD k 0:GJ):G1) - pI pn (bs.getD k 0)).natAbs < 2)
def xC:∀bs∈EO,∀pn∈ue bs.length,(md bs pn||decide (pn=GL bs.length))=true->aZ bs pn∈EO/\∀w∈GL bs.length,(aZ bs pn).getD (pn.getD w 0) 0=pI pn (bs.getD w 0):=by decide +kernel
def Ev {a:GJ}{bs:Gy G1}{pm pn:Gy GJ}(hb:GoodB bs)(hm:Ord a pm)(lm:pm.length=a)(hn:Ord bs.length pn)(ln:pn.length=bs.length)(h:md bs pn=true\/pn=GL bs.length):RnOk a bs (aZ bs pn) pm pn:=by
 obtain⟨h1,h2⟩:=xC bs (pK.mp hb) pn (jJ.mpr #[hn,ln]) (by
  rw[ID];exact h.imp id λz=>HI z)
 exact#[hm,lm,hn,ln,by unfold aZ; rw[Gz,Hg],pK.mpr h1,λw hw=>h2 w (G2.mpr hw)]
section
variable{a:GJ}{bs bs':Gy G1}{pm pn:Gy GJ}
def RnOk.fill (R:RnOk a bs bs' pm pn)(hb:GoodB bs){gs gs':Gy Wd}{u:Wd}{p q:Pt}(hgs:∀g∈gs,g∈aE a bs)(hgs':∀x,x∈gs'↔∃g∈gs,x=bz bs' (aQ pm pn g))(hu:GoodW a bs.length u)(hp:GoodP a bs.length u.length p)(hq:GoodP a bs.length u.length q) :
  (((GL bs.length).filter λi=>(GL u.length).all λk=>!bC ((aw bs gs).map aL) bs u p q i k).map λi=>pn.getD i 0).Perm ((GL bs.length).filter λi=>(GL u.length).all λk=>!bC ((aw bs' gs').map aL) bs' (aQ pm pn u) (aX pm pn p) (aX pm pn q) i k)/\
  ((GL bs.length).filter λi=>(GL u.length).all λk=>!bC ((aw bs' gs').map aL) bs' (aQ pm pn u) (aX pm pn p) (aX pm pn q) i k).Pairwise (· < ·):=by
 have pw:(GL bs.length).Pairwise (· < ·):=List.pairwise_lt_range
 have key:∀i < bs.length,((GL u.length).all λk=>!bC ((aw bs' gs').map aL) bs' (aQ pm pn u) (aX pm pn p) (aX pm pn q) (pn.getD i 0) k)=(GL u.length).all λk=>!bC ((aw bs gs).map aL) bs u p q i k:=λi hi=>by
  rw[IE,G7,G7];constructor
  ·intro h k hk;rw[<- R.bar hb hgs hgs' hu hp hq hi (G2.mp hk)]; exact h k hk
  ·intro h k hk;rw[R.bar hb hgs hgs' hu hp hq hi (G2.mp hk)]; exact h k hk
 have inj:∀i < bs.length,∀j < bs.length,pn.getD i 0=pn.getD j 0->i=j:=λi hi j hj e=>by
  have e1:pn[i]'(by rw[R.ln]; exact hi)=pn.getD i 0:=by simp[R.ln,hi]
  have e2:pn[j]'(by rw[R.ln]; exact hj)=pn.getD j 0:=by simp[R.ln,hj]
  exact(Iq R.hn.nd).mp (by rw[e1,e2,e])
 show#[?_,pw.filter _];show(List.perm_ext_iff_of_nodup ?_ ((pw.imp λh=>Ho h).filter _)).mpr λj=>?_
 ·rw[Js,IT];show(Jw.mpr λi j hi hj hij e=>?_)
  have m1:=G2.mp (Ih.mp (HA hi)).1;have m2:=G2.mp (Ih.mp (HA hj)).1;have:=inj _ m1 _ m2 e;have nd:((GL bs.length).filter λi=>(GL u.length).all λk=>!bC ((aw bs gs).map aL) bs u p q i k).Nodup:=(pw.imp λh=>Ho h).filter _
  have:=(Iq nd).mp this;omega
 ·rw[G4,Ih,G2];constructor
  ·rintro⟨i,hi,rfl⟩;obtain⟨h1,h2⟩:=Ih.mp hi;have h1:=G2.mp h1;exact#[R.hn.lt _ (GV (am (d:=0) (by rw[R.ln]; exact h1))),by rw[key i h1]; exact h2]
  ·rintro⟨h1,h2⟩;obtain⟨i,hi,e⟩:=Ji (dG R.hn R.ln h1);have hi':i < bs.length:=by rw[<- R.ln]; exact hi
   have e':pn.getD i 0=j:=by rw[<- e]; simp[hi]
   show#[i,Ih.mpr #[G2.mpr hi',?_],e'];rw[<- key i hi',e']; exact h2
end
section
variable{defs:Gy (Hc×Df)}{fuel d:GJ}{S:aa}{r:GJ}{Q:QW}
def z6 {i:GJ}{xs:Gy W}(h:S[i]?=gV (.lst xs))(q:Q (.ref S.length,S++[.lst xs])):wO (Bi.list.fn [.ref i] S) Q:=by
 show ab ?_ q;have h1:sW S i=td:=by simp[sW,h]
 simp only[Bi.fn,B0,g8,h1,j4,gf h,gE,dc,aD h]
def qO (G:Gen defs)(hg:Is defs ("_law_shuffled" : Hc) 2 4 bj){l:GJ}{ls:Gy GJ}(hf:Fl S r)(e:S[l]?=gV (.lst (aj ls)))(hnd:ls.Nodup)(hl:ls.length<=900)(hfu:ls.length < fuel)
  (k:∀(q:GJ) (ps:Gy GJ) S',S'[q]?=gV (.lst (aj ps))->ps.Nodup->(∀p∈ps,p∈ls)->ps.length=ls.length->S.length<=q->Fl S' r->Kp r S S'->Q (.ref q,S')) :
  wO (aP (au defs fuel (d+2)) "_law_shuffled" 2 [.ref r,.ref l] S) Q:=by
 show az hg rfl rfl λQ' hR=>?_
 replace k:∀(q:GJ) (ps:Gy GJ) S',S'[q]?=gV (.lst (aj ps))->ps.Nodup->(∀p∈ps,p∈ls)->ps.length=ls.length->S.length<=q->Fl S' r->Kp r S S'->Q' (.rt (.ref q),S'):=λa b c e f g h i j m=>hR _ _ (k a b c e f g h i j m)
 clear hR;change wZ _ _ bj [gV (.ref r),gV (.ref l),td,td] S Q';have hrt:=hf.lt;have nl:∀xs:Gy GJ,(aj xs).length=xs.length:=λxs=>Gz ..
 dsimp only[bj];show st ?_;left;show z6 e ?_;show st ?_;dsimp only[wS,wE,wA,GX];have l1:(S++[O.lst (aj ls)]).length=S.length+1:=by simp
 nofun
 show Aw (λm Z S'=>Z=[gV (.ref r),gV (.ref l),gV (.ref S.length),gV (.ref (S++[O.lst (aj ls)]).length)]/\∃xs ps:Gy GJ,S'[S.length]?=gV (.lst (aj xs))/\S'[(S++[O.lst (aj ls)]).length]?=gV (.lst (aj ps))/\(xs++ps).Nodup/\(∀p∈xs++ps,p∈ls)/\xs.length+ps.length=ls.length/\xs.length=m/\Fl S' r/\Kp r S S') ls.length rfl rfl hfu #[rfl,ls,[],aq ak,ak,by rw[Iv]; exact hnd,λp hp=>by rw[Iv]at hp; exact hp,by simp,rfl,(hf.ka .push).ka .push,Kp.push.trans .push] ?_
 rintro m Z S2 ⟨rfl,xs,ps,e2,e3,nd,lt,hsz,hm,f2,k2⟩;rw[l1]at e3;rw[l1];have h2:=bP e2;have h3:=bP e3;dsimp only[wT,wE,wA,wV,wG];show ab (Eu (aq e2) ak) ?_;dsimp only[wB];have e2':=aq (u:=O.lst []) e2;have e3':=aq (u:=O.lst []) e3;have f2':=f2.ka (Ka.push (o:=O.lst []));have k2':=k2.trans (Kp.push (o:=O.lst []));clear e2 e3 f2 k2 h2 h3;generalize S2++[O.lst []]=S2 at e2' e3' f2' k2';show#[λh=>?_,λh=>?_]
 ·have hx:xs≠[]:=λz=>by rw[z]at h; simp[aj]at h
  have hx0:0 < xs.length:=JP.mpr hx;show#[m - 1,∅,λQ2 hn _=>?_]
  clear hK k;show st ?_;left;show#[cg e3',cg e2',gI e2' ?_];rw[nl];show aR (d:=d) G.pick f2' ∅ ∅ λv S3 v0 v1 f3 k3=>?_
  have e2'':=k3.get _ _ ∅ e2'
  have e3'':=k3.get _ _ ∅ e3'
  have hv:v.toNat < xs.length:=∅
  show En e2'' v0 (eX (G5 hv)) (by rw[nl]; omega) ?_
  have e3s:(S3.set S.length (.lst ((aj xs).eraseIdx v.toNat)))[S.length+1]?=gV (.lst (aj ps)):=by rw[bn ∅]; exact e3''
  have pm:(xs.eraseIdx v.toNat++(ps++[xs[v.toNat]])).Perm (xs++ps):=by
   have h1:xs.Perm (xs[v.toNat]::xs.eraseIdx v.toNat):=(nS hv).symm;have h2:(ps++[xs[v.toNat]]).Perm (xs[v.toNat]::ps):=List.perm_append_singleton ..;show(OO _ h2).trans (LJ.trans ?_);exact(ON ps h1).symm
  show jl e3s (by rw[nl]; omega) (bg (hn _ _ #[rfl,xs.eraseIdx v.toNat,ps++[xs[v.toNat]],?_,?_,pm.nodup_iff.mpr nd,λp hp=>lt p (pm.mem_iff.mp hp),?_,?_,(f3.own ∅).own ∅,((k2'.trans k3).late ∅).late ∅]))
  ·rw[bn ∅,br e2'',pb]
  ·rw[br e3s]; unfold aj; rw[Hk]; rfl
  ·rw[Mr,Hf hv,GQ,Ij]; omega
  ·rw[Mr,Hf hv]; omega
 ·have hx:xs=[]:=by
   cases xs with
   | nil=>rfl
   | cons x xs=>simp[aj]at h
  subst hx;show hK _ _ (st ?_);dsimp only[wS,wE,wV,wG];rw[LZ]at nd lt;exact k _ ps S2 e3' nd lt (by simpa using hsz) ∅ f2' k2'
end
section
variable{defs:Gy (Hc×Df)}{fuel d:GJ}{S:aa}{Q:QW}
def z7 (G:Gen defs){m0 b0:W}{ns:Gy Hc}{bs:Gy G1}{a l:GJ}{u:Wd}{ps:Gy GJ}(hb:GoodB bs)(hl:ns.length=bs.length)(hu:GoodW a bs.length u)(hps:∀p∈ps,p < u.length)(hnd:ps.Nodup)(hsz:ps.length < 1000)(el:S[l]?=gV (.lst (aj ps)))(k:∀S',Ka S S'->Q (aA (ag bs u ps),S')) :
  wO (aP (au defs fuel (d+2)) "_law_part" 3 [.tup [m0,.tup (G3 aF ns bs),b0],aA u,.ref l] S) Q:=by
 show az G.part rfl rfl λQ' hR=>?_
 replace k:∀S',Ka S S'->Q' (.rt (aA (ag bs u ps)),S'):=λS' a=>hR _ _ (k S' a)
 clear hR;change wZ _ _ cW [gV (.tup [m0,.tup (G3 aF ns bs),b0]),gV (aA u),gV (.ref l),td,td,td] S Q';generalize hR0:W.tup [m0,.tup (G3 aF ns bs),b0]=R;have hlS:=bP el;dsimp only[cW];show st ?_;dsimp only[wS,wE,wA,GX];nofun
 have nl:(aj ps).length=ps.length:=Gz ..;show cu (ps.length:G1) (λk Z S'=>(∃a4 a5,Z=[gV R,gV (aA u),gV (.ref l),gV (.ref S.length),a4,a5])/\S'[S.length]?=gV (.lst (((ag bs u ps).take k).map aK))/\S'[l]?=gV (.lst (aj ps))/\Ka S S') rfl rfl ∅ ?_ ?_ ?_
 ·dsimp only[wE,wA,wV,wG];show gI (aq el) ?_;rw[nl];exact#[rfl,#[td,td,rfl],ak,aq el,.push]
 ·rintro i Z S1 hi ⟨⟨a4,a5,rfl⟩,e1,l1,k1⟩ Q2 hn _;clear hK;have hi':i < ps.length:=∅
  have hp:ps[i]?=gV ps[i]:=G5 hi';have hpu:ps[i] < u.length:=hps _ (HA hi');dsimp only[GX];show st ?_;dsimp only[wS,wE,wV,wG,GX];show dE l1 (eX hp) ?_;show st ?_;left;show#[cg e1,ah (GR _) (cM hpu) (ah #v[] rfl ?_)]
  show qD (ps.take i) (λ(q:GJ)=>W.int (q:G1)) (λ_=>true) (λq=>W.int (bK bs u ps[i] q)) [gV (.int ps[i]),gV R,gV (aA u)] rfl rfl rfl rfl (by rw[Hu]; omega) ?_ (λq hq S2 k2=>?_) λS2 k2=>?_
  ·dsimp only[wE,wP,wV,wG,wN];show ab (a:=(.ref S1.length,S1++[.lst (aj (ps.take i))])) ?_ #[_,rfl,ak,.push];simp only[mE,aD l1,eL];unfold aj;rw[Kr]
  ·dsimp only[fu,wC,wE,wA,wV,wG];subst hR0;have hqm:=JH hq;show#[λ_=>lX (d:=d) G hb hl hu hpu (hps _ hqm) (λe=>?_) #[rfl,rfl,.refl],λz=>by cases z]
   obtain⟨j,hj,ej⟩:=JI.mp hq;rw[Hu]at hj;rw[JG]at ej;have:=(Iq hnd).mp (ej.trans e.symm);omega
  ·rw[cm];show cF ak ?_;have e2:=aq (u:=O.lst ((ps.take i).map λq=>W.int (bK bs u ps[i] q))) (k2.get _ _ e1)
   have l2:=aq (u:=O.lst ((ps.take i).map λq=>W.int (bK bs u ps[i] q))) (k2.get _ _ l1)
   show jl e2 (by rw[Gz,Hu]; omega) (bg (hn _ _ #[#[_,_,rfl],?_,?_,((k1.trans k2).trans .push).late (GY _)]))
   ·rw[br e2];have ep:(ag bs u ps)[i]?=gV ((u.getD ps[i] (0,[])).1,(ps.take i).map λq=>bK bs u ps[i] q):=by
     unfold ag;rw[GM,IG hi',Hv,getD_some hp]
    rw[HK,ep];simp[aK,Ls]
   ·rw[bn ∅]; exact l2
 ·rintro Z S1 ⟨⟨a4,a5,rfl⟩,e1,_,k1⟩;rw[G0,<- aI bs u ps,HY]at e1;show hK _ _ (st ?_);left;exact cF e1 (k _ k1)
end
abbrev bM:Ss:=
 #v[.ret (.bi .tuple #v[.comp (.tup #v[.ix (.v 3) (.v 1),.bi .tuple #v[.comp (.ix (.v 2) (.v 1)) (.nm 1) (.seq (.v 2)) .nil [td,td,gV 4]]]) (.tp [1,2]) (.seq (.v 1)) .nil [td,td,td,gV 2,gV 3]])]
abbrev cp:Ss:=
 #v[.set 2 (.own "_law_shuffled" 2 #v[.v 0,.bi .list #v[.bi .range #v[.bi .len #v[.ix (.v 1) (.c (.int 0))]]]]),.set 3 (.own "_law_shuffled" 2 #v[.v 0,.bi .list #v[.bi .range #v[.bi .len #v[.ix (.v 1) (.c (.int 1))]]]]),.ite (.not (.bi .all #v[.comp (.cmp .lt (.bi .abs #v[.op .sub (.ix (.v 2) (.v 1)) (.ix (.v 2) (.ix (.ix (.ix (.v 3) (.c (.int 1))) (.v 1)) (.c (.int 1))))]) (.c (.int 2))) (.nm 1) (.rng #v[.bi .len #v[.v 3]]) .nil [td,td,gV 3,gV 1]])) #v[.set 3 (.bi .list #v[.bi .range #v[.bi .len #v[.v 3]]])] .nil,.set 5 (.bi .tuple #v[.comp (.ix (.ix (.v 3) (.c (.int 0))) (.me .index (.v 2) #v[.v 1])) (.nm 1) (.rng #v[.bi .len #v[.v 2]]) .nil [td,td,gV 2,gV 1]]),.set 6 (.lst .nil),.loop (.nm 4) (.rng #v[.bi .len #v[.v 3]]) #v[.asg [7,8] (.ix (.ix (.v 1) (.c (.int 1))) (.me .index (.v 3) #v[.v 4])),.ex (.me .append (.v 6) #v[.tup #v[.v 7,.ix (.v 3) (.v 8)]])],.set 9 (.tup #v[.v 5,.bi .tuple #v[.v 6],.tup .nil]),.set 10 (.comp (.own "_law_figure" 2 #v[.v 4,.own "_law_renamed" 4 #v[.v 5,.v 1,.v 2,.v 3]]) (.nm 1) (.seq (.ix (.v 1) (.c (.int 2)))) .nil [td,td,gV 2,gV 3,gV 9,gV 1]),.ret (.tup #v[.op .add (.sl (.v 9) .no (.yes (.c (.int 2)))) (.tup #v[.bi .tuple #v[.bi .sorted #v[.v 10]]]),.v 2,.v 3])]
section
variable{M:Hc->FF}{Z:Fm}{S:aa}
def CC {α:Type}{elt e:E}{cs:Es}{cap:Gy (GH GJ)}{Q:QW}(L:Gy α)(f1 f2:α->W)(p:α->Hi)(g:α->W)(R:Fm)(oi:dq e=true)(oe:dq elt=true)(oc:lU cs=true)(hc:d7 cap Z=td::td::td::R)(hl:L.length<=1000000)
  (he:wE M e Z S λq=>q.1=.tup (L.map λx=>W.tup [f1 x,f2 x])/\Ka S q.2)
  (hstep:∀x∈L,∀S',Ka S S'->fu M elt cs (td::gV (f1 x)::gV (f2 x)::R) S' (λy _ S2=>p x=true/\y=g x/\Ka S' S2) (λ_ S2=>p x=false/\Ka S' S2))
  (k:∀S',Ka S S'->Q (.ref S'.length,S'++[.lst ((L.filter p).map g)])):Wp (aC M (.comp elt (.tp [1,2]) (.seq e) cs cap) Z S) Q:=by
 obtain⟨w,S1,e1,rfl,k1⟩:=bE oi he;exact xt (mi:=.its (L.map λx=>W.tup [f1 x,f2 x])) L (λx=>W.tup [f1 x,f2 x]) p g (λZ=>∃a b,Z=td::a::b::R) (λx=>td::gV (f1 x)::gV (f2 x)::R) (λx Z S h=>by
  obtain⟨a,b,rfl⟩:=h;exact#[rfl,_,_,rfl]) oe oc (by rw[hc]; exact#[_,_,rfl]) hl (by simp only[iP,eu,e1]) k1 (λ_ _ _=>rfl) rfl hstep k
def kR {e:E}{n:GJ}{m:G1}{Q:QW}(hm:m=n)(he:∀Q:QW,Q (.int m,S)->wE M e Z S Q)(hn:n<=1000)(k:∀(t:GJ) S',S'[t]?=gV (.lst (aj (GL n)))->S.length<=t->Ka S S'->Q (.ref t,S')):wE M (.bi .list #v[.bi .range #v[e]]) Z S Q:=by
 have e1:Bi.range.fn [.int m] S=gV (.ref S.length,S++[.rng 0 m]):=by
  simp only[Bi.fn,mI];rw[Hf #[∅,∅]]
 have h:wO (Bi.list.fn [.ref S.length] (S++[O.rng 0 m])) Q:=by
  subst hm;exact zV ak hn (k _ _ ak (by simp) (Ka.push.trans .push))
 have g:wO (Bi.range.fn [.int m] S) λp=>wO (Bi.list.fn [p.1] p.2) Q:=by
  rw[e1];exact h
 rw[wE,wA];rw[wE,wA];exact he _ g
def Gs {fuel:GJ}{e:E}{i n:GJ}{z:G1}{ss:Ss}{Q:QO}(hz:z=n)(hn:n<=8)(he:∀Q:QW,Q (.int z,S)->wE M e Z S Q)(k:∀(t:GJ) S',S'[t]?=gV (.lst (aj (GL n)))->S.length<=t->Ka S S'->wZ M fuel ss (Z.set i (gV (.ref t))) S' Q) :
  wZ M fuel (.cons (.set i (.bi .list #v[.bi .range #v[e]])) ss) Z S Q:=by
 have hx:∀Q:QW,(∀(t:GJ) S',S'[t]?=gV (.lst (aj (GL n)))->S.length<=t->Ka S S'->Q (.ref t,S'))->wE M (.bi .list #v[.bi .range #v[e]]) Z S Q:=λQ h=>kR hz he ∅ h
 generalize E.bi .list #v[.bi .range #v[e]]=c at hx ⊢;show st ?_;dsimp only[wS];exact hx _ k
end
def kS {ps:Gy GJ}{x:G1}(h1:x.toNat < ps.length):(aj ps)[x.toNat]?=gV (.int (pI ps x)):=eX (am (d:=0) h1)
def AF {S:aa}{l:GJ}{ps:Gy GJ}{k:GJ}{Q:QW}(e:S[l]?=gV (.lst (aj ps)))(hk:k∈ps)(hl:ps.length<=1000)(q:Q (.int (ps.idxOf k:GJ),S)):wO (Me.index.fn (.ref l) [.int (k:G1)] S) Q:=by
 show ab ?_ q;have hf:(aV (.int (k:G1))&&(aj ps).all aV)=true:=by
  rw[GK];show#[rfl,G7.mpr λx hx=>?_]
  obtain⟨i,_,rfl⟩:=G4.mp hx; rfl
 have hd:decide ((aj ps).length<=1000000)=true:=HI (by rw[show(aj ps).length=ps.length from Gz ..]; omega)
 have ef:(aj ps).findIdx? (λz=>nH z (.int (k:G1)))=gV (ps.idxOf k):=by
  unfold aj;rw[List.findIdx?_map];rw[IR];have hlt:=Io hk;show#[hlt,?_,λj hj=>?_]
  ·change nH (.int ((ps[ps.idxOf k]:GJ):G1)) (.int (k:G1))=true;rw[Ky];show((k:G1)==(k:G1))=true;exact Im _
  ·change ¬ nH (.int ((ps[j]:GJ):G1)) (.int (k:G1))=true;intro z;have z:(((ps[j]:GJ):G1)==(k:G1))=true:=z;have z:ps[j]=k:=by have:=eq_of_beq z; omega
   have hn:=List.not_of_lt_findIdx (p:=λy=>y==k) (xs:=ps) (i:=j) hj
   simp[z]at hn
 change kg (.ref l) (.int (k:G1)) S=_;unfold kg;rw[show dc S (.ref l)=gV (aj ps)from aD e]
 dsimp only;rw[hf,hd,ef]; rfl
section
variable{defs:Gy (Hc×Df)}{fuel d:GJ}{S:aa}{r:GJ}{Q:QW}
def F1 (G:Gen defs)(hs:Is defs ("_law_shuffled" : Hc) 2 4 bj){Z:Fm}{S:aa}{ss:Ss}{Q:QO}{r n i j:GJ}{z:G1}{e:E}(hz:z=n)(hn:n<=8)(hfu:20 < fuel)(hf:Fl S r)(hj:∀P:W->Prop,P (.ref r)->wV Z j P)(he:∀Q:QW,Q (.int z,S)->wE (au defs fuel (d+2)) e Z S Q)
  (k:∀(l:GJ) (ps:Gy GJ) S',S'[l]?=gV (.lst (aj ps))->Ord n ps->ps.length=n->S.length<=l->Fl S' r->Kp r S S'->wZ (au defs fuel (d+2)) fuel ss (Z.set i (gV (.ref l))) S' Q) :
  wZ (au defs fuel (d+2)) fuel (.cons (.set i (.own "_law_shuffled" 2 #v[.v j,.bi .list #v[.bi .range #v[e]]])) ss) Z S Q:=by
 have hx:∀Q:QW,(∀(t:GJ) S',S'[t]?=gV (.lst (aj (GL n)))->S.length<=t->Ka S S'->Q (.ref t,S'))->wE (au defs fuel (d+2)) (.bi .list #v[.bi .range #v[e]]) Z S Q:=λQ h=>kR hz he ∅ h
 clear he;generalize E.bi .list #v[.bi .range #v[e]]=c at hx ⊢;show st ?_;dsimp only[wS,wE,wA];show hj _ (hx _ λt S1 e1 _ k1=>?_)
 dsimp only;show qO (d:=d) G hs (hf.ka k1) e1 Kd (by rw[Hg]; omega) (by rw[Hg]; omega) λq ps S2 e2 nd mem hl hq f2 k2=>?_
 rw[Hg]at hl;exact k q ps S2 e2 #[nd,λp hp=>G2.mp (mem p hp)] hl (HB k1.len hq) f2 ((k1.kp r).trans k2)
def jc (hg:Is defs ("_law_renamed" : Hc) 4 4 bM){R0:W}{lm ln:GJ}{pm pn:Gy GJ}{xs:Gy Pt}(em:S[lm]?=gV (.lst (aj pm)))(en:S[ln]?=gV (.lst (aj pn)))(hl:xs.length<=900)(hx:∀p∈xs,(0<=p.1/\p.1 < pm.length)/\p.2.length<=900/\∀w∈p.2,0<=w/\w < (pn.length:G1))
  (k:∀S',Ka S S'->Q (.tup ((xs.map (aX pm pn)).map aK),S')) :
  wO (aP (au defs fuel (d+1)) "_law_renamed" 4 [R0,.tup (xs.map aK),.ref lm,.ref ln] S) Q:=by
 show az hg rfl rfl λQ' hR=>?_
 replace k:∀S',Ka S S'->Q' (.rt (.tup ((xs.map (aX pm pn)).map aK)),S'):=λS' a=>hR _ _ (k S' a)
 clear hR;change wZ _ _ bM [gV R0,gV (.tup (xs.map aK)),gV (.ref lm),gV (.ref ln)] S Q';dsimp only[bM];show st ?_;dsimp only[wS,wE,wA];show CC xs (λp=>.int p.1) (λp=>.tup (p.2.map W.int)) (λ_=>true) (λp=>aK (aX pm pn p)) [gV (.ref lm),gV (.ref ln)] rfl rfl rfl rfl ∅ #[rfl,.refl] (λp hp S2 k2=>?_) λS2 k2=>?_
 ·obtain⟨hm,hl2,hw⟩:=hx p hp;dsimp only[fu,wC,wE,wA,wV,wG];show#[λ_=>eD (k2.get _ _ em) hm.1 (kS ∅) ?_,λz=>by cases z]
  show nB p.2 W.int (λ_=>true) (λw=>.int (pI pn w)) [gV (.ref ln)] rfl rfl rfl rfl ∅ #[rfl,.refl] (λw hww S3 k3=>?_) λS3 k3=>?_
  ·dsimp only[fu,wC,wE,wV,wG];have:=hw w hww;exact#[λ_=>eD ((k2.trans k3).get _ _ en) this.1 (kS ∅) #[rfl,rfl,.refl],λz=>by cases z]
  ·rw[cm];show cF ak #[rfl,?_,k3.trans .push];unfold aK aX;rw[HL]; rfl
 ·rw[cm];show cF ak ?_;have:=k _ (k2.trans (Ka.push (o:=O.lst (xs.map λp=>aK (aX pm pn p)))))
  rw[HL]at this;exact this
end
def qP (L:Gy Hi):gQ (L.map W.bl)=gV L:=by
 induction L with
 | nil=>rfl
 | cons b L ih=>rw[HX]; dsimp only[gQ]; rw[ih]; rfl
def CD {S:aa}{l:GJ}{L:Gy Hi}{Q:QW}(h:S[l]?=gV (.lst (L.map W.bl)))(q:Q (.bl (L.all id),S)):wO (Bi.all.fn [.ref l] S) Q:=by
 show ab ?_ q;simp only[Bi.fn,Bz,aD h,qP,Hv]
def Ew {S:aa}{x:G1}{Q:QW}(q:Q (.int ((x.natAbs:GJ):G1),S)):wO (Bi.abs.fn [.int x] S) Q:=by
 show ab (show Bi.abs.fn [.int x] S=gV (.int (if x < 0 then -x else x),S)from rfl) ?_
 have e:(if x < 0 then -x else x)=((x.natAbs:GJ):G1):=by split <;> omega
 rw[e]; exact q
def mf {S:aa}{l:GJ}{xs:Gy W}(e:S[l]?=gV (.lst xs)):cJ S (.ref l)=gV xs:=by simp[cJ,aD e,gf e,dc]
def kU {ps:Gy GJ}:(aj ps).length=ps.length:=Gz ..
section
variable{defs:Gy (Hc×Df)}{fuel d:GJ}{S:aa}{r:GJ}{Q:QW}
def nE (hfu:20 < fuel)(G:Gen defs)(hsh:Is defs ("_law_shuffled" : Hc) 2 4 bj)(hrn:Is defs ("_law_renamed" : Hc) 4 4 bM)(hg:Is defs ("_law_other_rule" : Hc) 2 11 cp){ms ns:Gy Hc}{bs:Gy G1}{a:GJ}{gs:Gy Wd}(hb:GoodB bs)(hnl:ns.length=bs.length)(hml:ms.length=a)(ha3:a<=3)(hgs:∀g∈gs,g∈aE a bs)(h64:gs.length < 64)(hf:Fl S r)
  (k:∀(pm pn:Gy GJ) (ms':Gy W) (ns':Gy Hc) (gs':Gy Wd) (lm ln:GJ) S',RnOk a bs (aZ bs pn) pm pn->ms'.length=a->ns'.length=bs.length->gs'.length < 64->(∀x,x∈gs'↔∃g∈gs,x=bz (aZ bs pn) (aQ pm pn g))->S'[lm]?=gV (.lst (aj pm))->S'[ln]?=gV (.lst (aj pn))->S.length<=lm->S.length<=ln->Fl S' r->Kp r S S'->Q (.tup [.tup [.tup ms',.tup (G3 aF ns' (aZ bs pn)),.tup (gs'.map aA)],.ref lm,.ref ln],S')) :
  wO (aP (au defs fuel (d+4)) "_law_other_rule" 2 [.ref r,.tup [.tup (ms.map W.str),.tup (G3 aF ns bs),.tup (gs.map aA)]] S) Q:=by
 show az hg rfl rfl λQ' hR=>?_
 replace k:∀(pm pn:Gy GJ) (ms':Gy W) (ns':Gy Hc) (gs':Gy Wd) (lm ln:GJ) S',RnOk a bs (aZ bs pn) pm pn->ms'.length=a->ns'.length=bs.length->gs'.length < 64->(∀x,x∈gs'↔∃g∈gs,x=bz (aZ bs pn) (aQ pm pn g))->S'[lm]?=gV (.lst (aj pm))->S'[ln]?=gV (.lst (aj pn))->S.length<=lm->S.length<=ln->Fl S' r->Kp r S S'->Q' (.rt (.tup [.tup [.tup ms',.tup (G3 aF ns' (aZ bs pn)),.tup (gs'.map aA)],.ref lm,.ref ln]),S'):=λa1 a2 a3 a4 a5 a6 a7 a8 a9 b1 b2 b3 b4 b5 b6 b7 b8 b9 b10=>hR _ _ (k a1 a2 a3 a4 a5 a6 a7 a8 a9 b1 b2 b3 b4 b5 b6 b7 b8 b9 b10)
 clear hR;have hb3:bs.length<=3:=by rcases hb with rfl|rfl|rfl|rfl|rfl|rfl <;> decide
 have zl:(G3 aF ns bs).length=bs.length:=by rw[Jh,hnl,JY]
 have i0:∀(S:aa) (Q:QW),Q (.tup (ms.map W.str),S)->wO (jy (.tup [.tup (ms.map W.str),.tup (G3 aF ns bs),.tup (gs.map aA)]) (.int 0) S) Q:=λS Q q=>ah #v[] rfl q
 have i1:∀(S:aa) (Q:QW),Q (.tup (G3 aF ns bs),S)->wO (jy (.tup [.tup (ms.map W.str),.tup (G3 aF ns bs),.tup (gs.map aA)]) (.int 1) S) Q:=λS Q q=>ah #v[] rfl q
 have i2:∀(S:aa) (Q:QW),Q (.tup (gs.map aA),S)->wO (jy (.tup [.tup (ms.map W.str),.tup (G3 aF ns bs),.tup (gs.map aA)]) (.int 2) S) Q:=λS Q q=>ah #v[] rfl q
 have ways:∀x:GJ,x < bs.length->(G3 aF ns bs)[((x:GJ):G1).toNat]?=gV (aF (ns.getD x ("" : Hc)) (bs.getD x 0)):=λx hx=>by
  rw[G0];exact iX (am (d:=("" : Hc)) ∅) (am (d:=0) hx)
 change wZ _ _ cp [gV (.ref r),gV (.tup [.tup (ms.map W.str),.tup (G3 aF ns bs),.tup (gs.map aA)]),td,td,td,td,td,td,td,td,td] S Q';generalize W.tup [.tup (ms.map W.str),.tup (G3 aF ns bs),.tup (gs.map aA)]=R at i0 i1 i2;have hrt:=hf.lt;dsimp only[cp];show F1 (d:=d+1) G hsh (n:=a) (z:=(a:G1)) rfl ∅ hfu hf (λ_ h=>h) (λQ q=>by
  dsimp only[wE,wA,wV,wG];show i0 _ _ (aY ?_);rw[Gz,hml]; exact q) λlm pm S1 e1 om lm1 hl1 f1 k1=>?_
 dsimp only[GX];show F1 (d:=d+1) G hsh (n:=bs.length) (z:=(bs.length:G1)) rfl ∅ hfu f1 (λ_ h=>h) (λQ q=>by
  dsimp only[wE,wA,wV,wG];show i1 _ _ (aY ?_);rw[zl]; exact q) λln pn S2 e2 on ln1 hl2 f2 k2=>?_
 dsimp only[GX];have em:=k2.get _ _ ∅ e1
 have hl2':S.length<=ln:=HB k1.len hl2;replace k1:=k1.trans k2;clear k2 f1 e1 hl2;nofun
 have tl:∀(pn:Gy GJ) (ln:GJ) (S3:aa),S3[lm]?=gV (.lst (aj pm))->S3[ln]?=gV (.lst (aj pn))->S.length<=ln->Ord bs.length pn->pn.length=bs.length->(md bs pn=true\/pn=GL bs.length)->Fl S3 r->Kp r S S3->K [gV (.ref r),gV R,gV (.ref lm),gV (.ref ln),td,td,td,td,td,td,td] S3:=by
  clear e2 on ln1 f2 hl2' em k1;clear pn ln S2;intro pn ln S3 em en hln on ln1 hside f3 k3;have RN:RnOk a bs (aZ bs pn) pm pn:=Ev hb om lm1 on ln1 hside;have bl:(aZ bs pn).length=bs.length:=RN.lb;show hK _ _ ?_;clear hK K;show st ?_;dsimp only[wS,wE,wA];show kK a (λ_=>true) (λx=>W.str (ms.getD (pm.idxOf x) ("" : Hc))) [gV (.ref lm),gV R] rfl rfl rfl rfl ∅ ?_ (λx hx S4 k4=>?_) λS4 k4=>?_
  ·dsimp only[wE,wA,wV,wG];show gI em #[?_,.refl];rw[kU,lm1]
  ·dsimp only[fu,wC,wE,wA,wV,wG];have hm:=dG om lm1 hx;have hi:=Io hm;show#[λ_=>i0 _ _ #[cg (k4.get _ _ em),AF (k4.get _ _ em) hm ∅ (ah (GR _) ?_ #[rfl,rfl,.refl])],λz=>by cases z]
   rw[G0,GM,am (d:=("" : Hc)) ∅]; rfl
  rw[cm];show cF ak ?_;dsimp only[GX];have k4':=k4.trans (Ka.push (o:=O.lst ((GL a).map λx=>W.str (ms.getD (pm.idxOf x) ("" : Hc)))))
  have ml5:((GL a).map λx=>W.str (ms.getD (pm.idxOf x) ("" : Hc))).length=a:=by rw[Gz,Hg]
  generalize S4++[O.lst ((GL a).map λx=>W.str (ms.getD (pm.idxOf x) ("" : Hc)))]=S5 at k4'
  generalize(GL a).map (λx=>W.str (ms.getD (pm.idxOf x) ("" : Hc)))=ms' at ml5
  clear k4;have em5:=k4'.get _ _ em;have en5:=k4'.get _ _ en;have f5:=f3.ka k4';replace k3:=k3.trans (k4'.kp r);clear em en f3 k4';show st ?_;dsimp only[wS,wE,wA,GX];nofun
  have l5m:=bP em5;have l5n:=bP en5;show cu (bs.length:G1) (λi Z S'=>(∃a4 a7 a8,Z=[gV (.ref r),gV R,gV (.ref lm),gV (.ref ln),a4,gV (.tup ms'),gV (.ref S5.length),a7,a8,td,td])/\S'[S5.length]?=gV (.lst ((GL i).map λx=>aF (ns.getD (pn.idxOf x) ("" : Hc)) (pI pn (bs.getD (pn.idxOf x) 0))))/\Ka S5 S') rfl rfl ∅ ?_ ?_ ?_
  ·dsimp only[wE,wA,wV,wG];show gI (aq en5) #[?_,#[_,_,_,rfl],ak,.push];rw[kU,ln1]
  ·rintro i Z S6 hi ⟨⟨a4,a7,a8,rfl⟩,e6,k6⟩ Q2 hn2 _;clear hK;have hi':i < bs.length:=∅
   have hm:=dG on ln1 hi';have hx:=Io hm;have hxb:pn.idxOf i < bs.length:=∅
   obtain⟨b,eb,b0,b1⟩:=hb.rng _ hxb;have eb':bs.getD (pn.idxOf i) 0=b:=by rw[Ha,eb]; rfl
   have en6:=k6.get _ _ en5;dsimp only[GX];show st ?_;left;show i1 _ _ #[cg en6,AF en6 hm ∅ (ah (GR _) (ways _ hxb) ?_)]
   dsimp only[wU,aF];show ab (show cf [7,8] [.str (ns.getD (pn.idxOf i) ("" : Hc)),.int (bs.getD (pn.idxOf i) 0)] [gV (.ref r),gV R,gV (.ref lm),gV (.ref ln),gV (.int (i:G1)),gV (.tup ms'),gV (.ref S5.length),a7,a8,td,td]=gV [gV (.ref r),gV R,gV (.ref lm),gV (.ref ln),gV (.int (i:G1)),gV (.tup ms'),gV (.ref S5.length),gV (.str (ns.getD (pn.idxOf i) ("" : Hc))),gV (.int (bs.getD (pn.idxOf i) 0)),td,td]from rfl) ?_
   show st ?_;left;show#[cg e6,eD en6 (by rw[eb']; exact b0) (kS ∅) (jl e6 (by rw[Gz,Hg]; omega) (bg (hn2 _ _ #[#[_,_,_,rfl],?_,k6.late (GY _)])))]
   rw[br e6,Jg,Hk]; rfl
  ·rintro Z S6 ⟨⟨a4,a7,a8,rfl⟩,e6,k6⟩;rw[G0]at e6;show hK _ _ ?_;clear hK K;have ez:((GL bs.length).map λx=>aF (ns.getD (pn.idxOf x) ("" : Hc)) (pI pn (bs.getD (pn.idxOf x) 0)))=G3 aF ((GL bs.length).map λx=>ns.getD (pn.idxOf x) ("" : Hc)) (aZ bs pn):=by
    unfold aZ;rw[List.zipWith_map,List.zipWith_self]
   have nl':((GL bs.length).map λx=>ns.getD (pn.idxOf x) ("" : Hc)).length=bs.length:=by rw[Gz,Hg]
   rw[ez]at e6;generalize(GL bs.length).map (λx=>ns.getD (pn.idxOf x) ("" : Hc))=ns' at e6 nl'
   have em6:=k6.get _ _ em5;have en6:=k6.get _ _ en5;have f6:=f5.ka k6;replace k3:=k3.trans (k6.kp r);clear ez em5 en5 f5 k6;show st ?_;left;show cF e6 ?_;dsimp only;show st ?_;dsimp only[wS,wE];have gg:∀g∈gs,GoodW a bs.length g/\g.length=3:=λg hg=>c7 hb (hgs g hg)
   show nB gs aA (λ_=>true) (λg=>aA (bz (aZ bs pn) (aQ pm pn g))) [gV (.ref lm),gV (.ref ln),gV (.tup [.tup ms',.tup (G3 aF ns' (aZ bs pn)),.tup []]),gV R] rfl rfl rfl rfl ∅ ?_ (λg hgm S7 k7=>?_) λS7 k7=>?_
   ·dsimp only[wE,wV,wG];exact i2 _ _ #[rfl,.refl]
   ·obtain⟨g1,g3⟩:=gg g hgm;dsimp only[fu,wC,wE,wA,wV,wG];show#[λ_=>?_,λz=>by cases z]
    show jc (d:=d+2) (xs:=g) hrn (k7.get _ _ em6) (k7.get _ _ en6) ∅ (λp hp=>?_) λS8 k8=>?_
    ·obtain⟨i,hi,e⟩:=Ji hp;have hp':g[i]?=gV p:=by rw[G5 hi,e]
     show#[by rw[lm1]; exact g1.mark i p hp',by rw[g1.len i p hp']; omega,by rw[ln1]; exact g1.way i p hp']
    exact fQ (d:=d) G RN.gb (by rw[nl',bl]) (RN.wd g1) (by show(g.map _).length=3; rw[Gz]; exact g3) λS9 k9=>#[rfl,rfl,k8.trans k9]
   rw[cm];dsimp only[GX];have k7':=k7.trans (Ka.push (o:=O.lst (gs.map λg=>aA (bz (aZ bs pn) (aQ pm pn g)))))
   have e7:(S7++[O.lst (gs.map λg=>aA (bz (aZ bs pn) (aQ pm pn g)))])[S7.length]?=gV (.lst ((gs.map λg=>bz (aZ bs pn) (aQ pm pn g)).map aA)):=by rw[HL]; exact ak
   generalize S7++[O.lst (gs.map λg=>aA (bz (aZ bs pn) (aQ pm pn g)))]=S8 at k7' e7
   generalize S7.length=l7 at e7;show st ?_;dsimp only[wS,wE,wA,wP,wV,wG,wN];show ab (show mE (.tup [.tup ms',.tup (G3 aF ns' (aZ bs pn)),.tup []]) td (gV 2) S8=gV (.tup [.tup ms',.tup (G3 aF ns' (aZ bs pn))],S8)from rfl) ?_
   dsimp only;have fm:∀x∈gs.map (λg=>bz (aZ bs pn) (aQ pm pn g)),x∈aE a (aZ bs pn):=λx hx=>by
    obtain⟨g,hg,rfl⟩:=G4.mp hx;obtain⟨g1,g3⟩:=gg g hg;exact jG (RN.wd g1) (by unfold aQ; rw[Gz]; exact g3)
   show qw (us:=gs.map λg=>bz (aZ bs pn) (aQ pm pn g)) (mf e7) (by rw[Gz]; exact h64) (λx hx=>kF (fm x hx)) (cF ak ?_)
   dsimp only;show ab (dY (i6 (J3 rfl))) ?_;dsimp only[LI,LZ];have ks:=k7'.trans (Ka.push (o:=O.lst ((ft (gs.map λg=>bz (aZ bs pn) (aQ pm pn g))).map aA)))
   have sp:(ft (gs.map λg=>bz (aZ bs pn) (aQ pm pn g))).Perm (gs.map λg=>bz (aZ bs pn) (aQ pm pn g)):=hZ
   show k pm pn ms' ns' (ft (gs.map λg=>bz (aZ bs pn) (aQ pm pn g))) lm ln _ RN ml5 nl' (by rw[sp.length_eq,Gz]; exact h64) (λx=>?_) (ks.get _ _ em6) (ks.get _ _ en6) hl1 hln (f6.ka ks) (k3.trans (ks.kp r))
   rw[sp.mem_iff,G4];exact#[λ#[g,hg,e]=>#[g,hg,e.symm],λ#[g,hg,e]=>#[g,hg,e.symm]]
 dsimp only[wS,wT,wE,wA];show kK bs.length (λ_=>true) (λx=>.bl (decide ((((pn.getD x 0:GJ):G1) - pI pn (bs.getD x 0)).natAbs < 2))) [gV (.ref ln),gV R] rfl rfl rfl rfl ∅ ?_ (λx hx S4 k4=>?_) λS4 k4=>?_
 ·dsimp only[wE,wA,wV,wG];show gI e2 #[?_,.refl];rw[kU,ln1]
 ·obtain⟨b,eb,b0,b1⟩:=hb.rng x hx;have eb':bs.getD x 0=b:=by rw[Ha,eb]; rfl
  have e4:=k4.get _ _ e2;dsimp only[fu,wC,wE,wA,wV,wG];show#[λ_=>eD (w:=.int ((pn.getD x 0:GJ):G1)) e4 (GR x) (by rw[G0]; exact eX (am (d:=0) ∅)) ?_,λz=>by cases z]
  show i1 _ _ (ah (GR x) (ways x hx) (ah #v[] rfl (eD e4 (by rw[eb']; exact b0) (kS ∅) (ab kA (Ew (ab qr #[rfl,?_,.refl]))))))
  have:decide ((((((pn.getD x 0:GJ):G1) - pI pn (bs.getD x 0)).natAbs:GJ):G1) < 2)=decide ((((pn.getD x 0:GJ):G1) - pI pn (bs.getD x 0)).natAbs < 2):=by
   rw[IE,Kz,Kz]; omega
  rw[this]
 rw[cm];show CD (L:=(GL bs.length).map λx=>decide ((((pn.getD x 0:GJ):G1) - pI pn (bs.getD x 0)).natAbs < 2)) (by rw[HL]; exact ak) ?_
 have k4':=k4.trans (Ka.push (o:=O.lst ((GL bs.length).map λx=>W.bl (decide ((((pn.getD x 0:GJ):G1) - pI pn (bs.getD x 0)).natAbs < 2)))))
 generalize S4++[O.lst ((GL bs.length).map λx=>W.bl (decide ((((pn.getD x 0:GJ):G1) - pI pn (bs.getD x 0)).natAbs < 2)))]=S5 at k4'
 have es:((GL bs.length).map λx=>decide ((((pn.getD x 0:GJ):G1) - pI pn (bs.getD x 0)).natAbs < 2)).all id=md bs pn:=by rw[Ni]; rfl
 rw[es];show ab (show eE S5 (.bl (md bs pn))=gV (md bs pn)from rfl) ?_
 have em5:=k4'.get _ _ em;have en5:=k4'.get _ _ e2;show ap (Q0:=Q') (λ_ Q2 hn _=>?_) (λz Q2 hn _=>bg (hn _ _ (tl pn ln S5 em5 en5 hl2' on ln1 (.inl (by simpa using z)) (f2.ka k4') (k1.trans (k4'.kp r)))))
 show Gs (n:=bs.length) (z:=(bs.length:G1)) rfl ∅ (λQ q=>by
  dsimp only[wE,wA,wV,wG];show gI en5 ?_;rw[kU,ln1]; exact q) λt S6 e6 ht k6=>?_
 dsimp only[GX];have k56:=k4'.trans k6;exact bg (hn _ _ (tl (GL bs.length) t S6 (k56.get _ _ em) e6 (HB k1.len (HB k4'.len ht)) #[Kd,λp hp=>G2.mp hp] Hg (.inr rfl) (f2.ka k56) (k1.trans (k56.kp r))))
end
abbrev bB:Ss:=
 #v[.loop (.tp [6,7]) (.enu #v[.v 1]) #v[.ite (.and (.cmp .isnot (.v 7) (.c .non)) (.cmp .ge (.v 7) (.c (.int 0)))) #v[.set 7 (.ix (.v 5) (.v 7)),.set 8 (.tup #v[.tup #v[.ix (.ix (.v 2) (.v 7)) (.c (.int 0)),.tup .nil]]),.set 9 (.own "fillings" 4 #v[.v 0,.v 8,.tup #v[.ix (.v 3) (.c (.int 0)),.tup #v[.ix (.ix (.v 3) (.c (.int 1))) (.v 7)]],.tup #v[.ix (.v 4) (.c (.int 0)),.tup #v[.ix (.ix (.v 4) (.c (.int 1))) (.v 7)]]]),.ite (.cmp .isin (.ite (.cmp .lt (.v 6) (.bi .len #v[.ix (.v 0) (.c (.int 1))])) (.v 6) (.neg (.c (.int 1)))) (.v 9)) #v[.ret (.c (.bl false))] .nil] .nil],.ret (.c (.bl true))]
def js (P:GJ->Hi)(s:GJ):(aS P s=.non/\∀i < s,P i=false)\/∃i:GJ,i < s/\aS P s=.int (i:G1)/\P i=true:=by
 unfold aS;cases h:(GL s).find? P with
 | none=>exact .inl #[rfl,λi hi=>by have:=Jr.mp h i (G2.mpr hi); simpa using this]
 | some i=>exact .inr #[i,G2.mp (Lm h),rfl,KZ h]
def kW {X:Gy T}{bs:Gy G1}{a:GJ}{u:Wd}{p q:Pt}(h1:GoodP a bs.length u.length p)(h2:GoodP a bs.length u.length q):aT (PB X u.length) bs u p q=(GL bs.length).map (λi=>aS (bC X bs u p q i) u.length)++[d3 p q]:=by
 unfold aT;congr 1;show HH λi hi=>jp λk hk=>?_
 change decide (aL (dv (dk bs u p q i) k u.length (u.length+1))∈X)=_;rw[kP h1 h2 hk]; rfl
def pL {p q:Pt}{s:GJ}(h:p.2.length=s):jK (d3 p q)=jL p q s:=by
 unfold d3 jL
 by_cases e:p.1=q.1
 ·rw[Hf e,eR,h,KA.mpr e,JM];congr 1
  funext k
  rw[OM]
 ·rw[Hl e,Kj.mpr e]; rfl
def pM {u:Wd}{ps:Gy GJ}(h:Ord u.length ps)(hl:ps.length=u.length)(P:GJ->Hi):((GL u.length).all λk=>P (ps.getD k 0))=(GL u.length).all P:=by
 rw[IE,G7,G7];constructor
 ·intro g k hk;obtain⟨j,hj,e⟩:=Ji (dG h hl (G2.mp hk));have:=g j (G2.mpr ∅)
  rw[show ps.getD j 0=k by rw[<- e]; simp[hj]]at this; exact this
 ·intro g k hk;have hk:=G2.mp hk;exact g _ (G2.mpr (h.lt _ (GV (am (d:=0) ∅))))
def uq {X:Gy T}{bs:Gy G1}{a:GJ}{u:Wd}{p q:Pt}{ps:Gy GJ}(hb:GoodB bs)(hu:GoodW a bs.length u)(h1:GoodP a bs.length u.length p)(h2:GoodP a bs.length u.length q)(h:Ord u.length ps)(hl:ps.length=u.length) :
  (aT (PB X (ag bs u ps).length) bs (ag bs u ps) (ay p ps) (ay q ps)).map jK=(aT (PB X u.length) bs u p q).map jK:=by
 have pl:(ag bs u ps).length=u.length:=by rw[aI,hl]
 have o1:GoodP a bs.length (ag bs u ps).length (ay p ps):=by rw[pl,<- hl]; exact dL h1 h.lt
 have o2:GoodP a bs.length (ag bs u ps).length (ay q ps):=by rw[pl,<- hl]; exact dL h2 h.lt
 rw[kW o1 o2,kW h1 h2,Hk,Hk,HL,HL];congr 1
 ·show HH λi hi=>?_
  change jK (aS _ _)=jK (aS _ _);rw[eR,eR,pl,<- pM h hl λk=>!bC X bs u p q i k,IE,G7,G7]
  exact#[λg k hk=>by rw[<- fT (bs:=bs) (u:=u) (by have:=G2.mp hk; omega)]; exact g k hk,λg k hk=>by rw[fT (by have:=G2.mp hk; omega)]; exact g k hk]
 ·show[jK _]=[jK _];rw[pL o1.len,pL h1.len,pl];congr 1;unfold jL;show(p.1==q.1&&_)=(p.1==q.1&&_);congr 1;rw[<- pM h hl λk=>p.2.getD k 0==q.2.getD k 0,IE,G7,G7]
  exact#[λg k hk=>by have hk':=G2.mp hk; have:=g k hk; rw[bv ∅,bv ∅]at this; exact this,λg k hk=>by have hk':=G2.mp hk; rw[bv ∅,bv ∅]; exact g k hk]
section
variable{defs:Gy (Hc×Df)}{fuel d:GJ}{S:aa}{r:GJ}{Q:QW}
def nF (hfu:20 < fuel)(F:Fil defs)(hby:Is defs ("barred_by" : Hc) 4 4 bU)(hfi:Is defs ("fillings" : Hc) 4 6 c8)(hg:Is defs ("_law_bars_there" : Hc) 6 10 bB){m0:W}{ns:Gy Hc}{bs:Gy G1}{a l:GJ}{gs:Gy Wd}{u:Wd}{p q:Pt}{ps:Gy GJ}(hb:GoodB bs)(hnl:ns.length=bs.length)(hgs:∀g∈gs,GoodW a bs.length g/\g.length=3)(h64:gs.length<=100)(hu:GoodW a bs.length u)(h1:GoodP a bs.length u.length p)(h2:GoodP a bs.length u.length q)(hul:u.length<=100)(ho:Ord u.length ps)(hl:ps.length=u.length)(e:S[l]?=gV (.lst (aj ps)))
  (k:∀S',Ka S S'->Q (.bl true,S')) :
  wO (aP (au defs fuel (d+7)) "_law_bars_there" 6 [.tup [m0,.tup (G3 aF ns bs),.tup (gs.map aA)],.tup (aT (PB ((aw bs gs).map aL) (ag bs u ps).length) bs (ag bs u ps) (ay p ps) (ay q ps)),aA u,aK p,aK q,.ref l] S) Q:=by
 show az hg rfl rfl λQ' hR=>?_
 replace k:∀S',Ka S S'->Q' (.rt (.bl true),S'):=λS' a=>hR _ _ (k S' a)
 clear hR;have pl:(ag bs u ps).length=u.length:=by rw[aI,hl]
 have o1:GoodP a bs.length (ag bs u ps).length (ay p ps):=by rw[pl,<- hl]; exact dL h1 ho.lt
 have o2:GoodP a bs.length (ag bs u ps).length (ay q ps):=by rw[pl,<- hl]; exact dL h2 ho.lt
 have zl:(G3 aF ns bs).length=bs.length:=by rw[Jh,hnl,JY]
 have hb3:1<=bs.length/\bs.length<=3:=by rcases hb with rfl|rfl|rfl|rfl|rfl|rfl <;> decide
 change wZ _ _ bB [gV (.tup [m0,.tup (G3 aF ns bs),.tup (gs.map aA)]),gV (.tup (aT (PB ((aw bs gs).map aL) (ag bs u ps).length) bs (ag bs u ps) (ay p ps) (ay q ps))),gV (aA u),gV (aK p),gV (aK q),gV (.ref l),td,td,td,td] S Q';have fl:=λ(S:aa) (Q:QW) (v:Wd) (x y:Pt) (gv:GoodW a bs.length v) (gx:GoodP a bs.length v.length x) (gy:GoodP a bs.length v.length y) (hv:v.length<=800)=>gW (defs:=defs) (fuel:=fuel) (d:=d) (S:=S) (Q:=Q) (m0:=m0) hfu F hby hfi hb hnl hgs h64 gv gx gy hv
 have ln:∀(S:aa) (Q:QW),Q (.int (bs.length:G1),S)->wO (jy (.tup [m0,.tup (G3 aF ns bs),.tup (gs.map aA)]) (.int 1) S) λp=>wO (Bi.len.fn [p.1] p.2) Q:=λS Q z=>by
  show ah #v[] rfl (aY ?_)
  rw[zl]; exact z
 generalize W.tup [m0,.tup (G3 aF ns bs),.tup (gs.map aA)]=R at fl ln;have at':∀(i:GJ) (w:W),(aT (PB ((aw bs gs).map aL) (ag bs u ps).length) bs (ag bs u ps) (ay p ps) (ay q ps))[i]?=gV w->w=.non\/(∃x:G1,w=.int x/\x < 0)\/∃j:GJ,j < u.length/\w=.int (j:G1)/\((i < bs.length/\bC ((aw bs gs).map aL) bs u p q i (ps.getD j 0)=true)\/(¬ i < bs.length/\p.2.getD (ps.getD j 0) 0≠q.2.getD (ps.getD j 0) 0)):=by
  intro i w hw;rw[kW o1 o2]at hw
  by_cases hi:i < bs.length
  ·rw[Hr (by rw[Gz,Hg]; exact hi),GM,IG hi]at hw
   cases hw;rcases js (bC ((aw bs gs).map aL) bs (ag bs u ps) (ay p ps) (ay q ps) i) (ag bs u ps).length with⟨e1,_⟩|⟨j,hj,e1,e2⟩
   ·exact .inl e1
   ·rw[fT ∅]at e2
    exact .inr (.inr #[j,∅,e1,.inl #[hi,e2]])
  ·rw[Ii (by rw[Gz,Hg]; omega),Gz,Hg]at hw
   have hw2:w=d3 (ay p ps) (ay q ps):=by
    cases hd:i - bs.length with
    | zero=>rw[hd]at hw; cases hw; rfl
    | succ m=>rw[hd]at hw; cases hw
   subst hw2;unfold d3;split
   ·rcases js (λk=>!((ay p ps).2.getD k 0==(ay q ps).2.getD k 0)) (ay p ps).2.length with⟨e1,_⟩|⟨j,hj,e1,e2⟩
    ·exact .inl e1
    ·rw[o1.len,pl]at hj;rw[bv ∅,bv ∅]at e2
     exact .inr (.inr #[j,hj,e1,.inr #[hi,by simpa using e2]])
   ·exact .inr (.inl #[-1,rfl,#v[]])
 generalize aT (PB ((aw bs gs).map aL) (ag bs u ps).length) bs (ag bs u ps) (ay p ps) (ay q ps)=Yq at at';dsimp only[bB];nofun
 show z5 Yq (λi Z S'=>(∃a6 a7 a8 a9,Z=[gV R,gV (.tup Yq),gV (aA u),gV (aK p),gV (aK q),gV (.ref l),a6,a7,a8,a9])/\Ka S S') rfl rfl #[rfl,#[_,_,_,_,rfl],.refl] ?_ ?_
 ·rintro i w Z S1 hw ⟨⟨a6,a7,a8,a9,rfl⟩,k1⟩;clear hK;show ab (show fX (.tp [6,7]) (.tup [.int i,w]) [gV R,gV (.tup Yq),gV (aA u),gV (aK p),gV (aK q),gV (.ref l),a6,a7,a8,a9] S1=gV ([gV R,gV (.tup Yq),gV (aA u),gV (aK p),gV (aK q),gV (.ref l),gV (.int i),gV w,a8,a9],S1)from rfl) ?_
  intro Q2 hn2 _;nofun
  dsimp only[wS,wT,wE,wA,wV,wG];have stay:∀(a7 a8 a9:GH W) (S':aa),Ka S S'->K [gV R,gV (.tup Yq),gV (aA u),gV (aK p),gV (aK q),gV (.ref l),gV (.int i),a7,a8,a9] S':=λa7 a8 a9 S' k'=>hK _ _ (bg (hn2 _ _ #[#[_,_,_,_,rfl],k']))
  clear hK hn2;rcases at' i w hw with rfl|⟨x,rfl,hx⟩|⟨j,hj,rfl,hcase⟩
  ·show ab (show bo .isnot .non .non S1=gV (.bl false,S1)from rfl) #[λz=>(by cases z),λ_=>?_]
   exact ap (Q0:=Q2) (λz=>by cases z) λ_ Q3 hn3 _=>bg (hn3 _ _ (stay _ _ _ _ k1))
  ·show ab (show bo .isnot (.int x) .non S1=gV (.bl true,S1)from rfl) #[λ_=>ab zB ?_,λz=>by cases z]
   dsimp only[wB];rw[Hs ∅]
   exact ap (Q0:=Q2) (λz=>by cases z) λ_ Q3 hn3 _=>bg (hn3 _ _ (stay _ _ _ _ k1))
  ·show ab (show bo .isnot (.int (j:G1)) .non S1=gV (.bl true,S1)from rfl) #[λ_=>ab zB ?_,λz=>by cases z]
   dsimp only[wB];rw[HI ∅]
   show ap (Q0:=Q2) (λ_ Q3 hn3 hr3=>?_) λz=>by cases z
   have ht:ps.getD j 0 < u.length:=ho.lt _ (GV (am (d:=0) ∅))
   generalize htt:ps.getD j 0=t at ht hcase;show st ?_;dsimp only[wS,wE,wV,wG,GX];show eD (w:=.int (t:G1)) (k1.get _ _ e) (GR j) (by rw[G0,<- htt]; exact eX (am (d:=0) ∅)) ?_
   show st ?_;left;show ah (GR t) (cM ht) (ah #v[] rfl ?_)
   show st ?_;left;have tp:t < p.2.length:=by rw[h1.len]; exact ht
   have tq:t < q.2.length:=by rw[h2.len]; exact ht
   show ah #v[] rfl (ah #v[] rfl (ah (w:=.int (p.2.getD t 0)) (GR t) (by rw[G0,GM,am (d:=0) tp]; rfl) ?_))
   show ah #v[] rfl (ah #v[] rfl (ah (w:=.int (q.2.getD t 0)) (GR t) (by rw[G0,GM,am (d:=0) tq]; rfl) ?_))
   have mk:=hu.mark t _ (am (d:=(0,[])) ht);have gv:GoodW a bs.length [((u.getD t (0,[])).1,[])]:=by
    show#[λk x hx=>?_,λk x hx=>?_,λk x hx=>?_] <;>
    ·cases k with
     | zero=>cases hx; first|exact mk|rfl|exact λw hw=>nomatch hw
     | succ k=>cases hx
   have gx:GoodP a bs.length 1 (p.1,[p.2.getD t 0]):=#[h1.mark,rfl,λw hw=>by cases G8.mp hw; exact h1.way _ (GV (am (d:=0) tp))]
   have gy:GoodP a bs.length 1 (q.1,[q.2.getD t 0]):=#[h2.mark,rfl,λw hw=>by cases G8.mp hw; exact h2.way _ (GV (am (d:=0) tq))]
   show fl _ _ [((u.getD t (0,[])).1,[])] (p.1,[p.2.getD t 0]) (q.1,[q.2.getD t 0]) gv gx gy (by change 1<=800; decide) λl9 S2 e9 _ k2=>?_
   rw[jM (a:=a) gx gy]at e9;show aJ λK2 hK2=>?_
   dsimp only[wS,wT,wE,wA,wV,wG];show ln _ _ (ab qr ?_);have hno:∀z:G1,z=(if i < bs.length then(i:G1)else -1)->decide (z∈dm (bC ((aw bs gs).map aL) bs [((u.getD t (0,[])).1,[])] (p.1,[p.2.getD t 0]) (q.1,[q.2.getD t 0])) (jL (p.1,[p.2.getD t 0]) (q.1,[q.2.getD t 0]) 1) bs.length 1)=false:=by
    intro z hz;rw[KD,ma];rcases hcase with⟨hi,hbar⟩|⟨hi,hne⟩
    ·rw[Hf hi]at hz;rintro(⟨i',e1,_,e3⟩|⟨e1,_⟩)
     ·obtain rfl:i=i':=∅
      have h3:bC ((aw bs gs).map aL) bs u p q i t=false:=e3 0 O0;rw[hbar]at h3;cases h3
     ·omega
    ·rw[Hl hi]at hz;rintro(⟨i',e1,_,_⟩|⟨_,e2⟩)
     ·omega
     ·unfold jL at e2;rw[GK,G7]at e2;have:=e2.2 0 (G2.mpr O0);exact hne (KA.mp this)
   by_cases hi:i < bs.length
   ·show#[λ_=>ab (AC e9) ?_,λz=>by rw[HI ∅]at z; cases z]
    dsimp only[wB];have h5:=hno i (by rw[Hf hi])
    exact ap (Q0:=Q3) (λz=>absurd (h5.symm.trans z) He) λ_ Q4 hn4 _=>bg (hn4 _ _ (hK2 _ _ (bg (hn3 _ _ (stay _ _ _ _ (k1.trans k2))))))
   ·show#[λz=>(by rw[Hs ∅]at z; cases z),λ_=>?_]
    dsimp only[wN];show ab (AC e9) ?_;dsimp only[wB];have h5:=hno (-1) (by rw[Hl hi])
    exact ap (Q0:=Q3) (λz=>absurd (h5.symm.trans z) He) λ_ Q4 hn4 _=>bg (hn4 _ _ (hK2 _ _ (bg (hn3 _ _ (stay _ _ _ _ (k1.trans k2))))))
 ·rintro Z S1 ⟨⟨a6,a7,a8,a9,rfl⟩,k1⟩;show hK _ _ (st ?_);dsimp only[wS,wE];exact k _ k1
end
abbrev jN:Ss:=
 #v[.set 1 (.own "_law_flow" 1 #v[.v 0]),.set 2 (.own "_law_some_rule" 1 #v[.v 1]),.set 3 (.own "_law_bad" 1 #v[.v 2]),.asg [4,5,6] (.own "_law_pair" 4 #v[.v 1,.v 2,.v 3,.own "_law_pick" 2 #v[.v 1,.c (.int 9)]]),.set 7 (.own "fillings" 4 #v[.v 2,.v 4,.v 5,.v 6]),.set 8 (.own "_law_shuffled" 2 #v[.v 1,.bi .list #v[.bi .range #v[.bi .len #v[.v 4]]]]),.set 9 (.own "_law_part" 3 #v[.v 2,.v 4,.v 8]),.set 10 (.tup #v[.ix (.v 5) (.c (.int 0)),.bi .tuple #v[.comp (.ix (.ix (.v 2) (.c (.int 1))) (.v 1)) (.nm 1) (.seq (.v 8)) .nil [td,td,gV 5]]]),.set 11 (.tup #v[.ix (.v 6) (.c (.int 0)),.bi .tuple #v[.comp (.ix (.ix (.v 2) (.c (.int 1))) (.v 1)) (.nm 1) (.seq (.v 8)) .nil [td,td,gV 6]]]),.ite (.cmp .ne (.own "fillings" 4 #v[.v 2,.v 9,.v 10,.v 11]) (.v 7)) #v[.ret (.c (.bl false))] .nil,.set 12 (.own "barred_by" 4 #v[.v 2,.v 9,.v 10,.v 11]),.ite (.cmp .ne (.comp (.cmp .is (.v 1) (.c .non)) (.nm 1) (.seq (.v 12)) .nil [td,td]) (.comp (.cmp .is (.v 1) (.c .non)) (.nm 1) (.seq (.own "barred_by" 4 #v[.v 2,.v 4,.v 5,.v 6])) .nil [td,td])) #v[.ret (.c (.bl false))] .nil,.ite (.not (.own "_law_bars_there" 6 #v[.v 2,.v 12,.v 4,.v 5,.v 6,.v 8])) #v[.ret (.c (.bl false))] .nil,.asg [13,14,15] (.own "_law_other_rule" 2 #v[.v 1,.v 2]),.set 16 (.own "_law_renamed" 4 #v[.v 2,.v 4,.v 14,.v 15]),.asg [17,18] (.own "_law_renamed" 4 #v[.v 2,.tup #v[.v 5,.v 6],.v 14,.v 15]),.set 19 (.op .add (.bi .sorted #v[.comp (.ix (.v 2) (.v 1)) (.nm 1) (.seq (.v 7)) #v[.cmp .ge (.v 1) (.c (.int 0))] [td,td,gV 15]]) (.op .mul (.lst #v[.neg (.c (.int 1))]) (.me .count (.v 7) #v[.neg (.c (.int 1))]))),.ret (.cmp .eq (.own "fillings" 4 #v[.v 13,.v 16,.v 17,.v 18]) (.v 19))]
structure Lw26 (defs:Gy (Hc×Df)):Prop where
 gen:Gen defs
 fil:Fil defs
 by':Is defs ("barred_by" : Hc) 4 4 bU
 fill:Is defs ("fillings" : Hc) 4 6 c8
 pai:Pai defs
 shuf:Is defs ("_law_shuffled" : Hc) 2 4 bj
 ren:Is defs ("_law_renamed" : Hc) 4 4 bM
 oth:Is defs ("_law_other_rule" : Hc) 2 11 cp
 there:Is defs ("_law_bars_there" : Hc) 6 10 bB
 flow:Is defs ("_law_flow" : Hc) 1 1 dZ
 bad:Is defs ("_law_bad" : Hc) 1 4 eO
 law:Is defs ("law" : Hc) 1 20 jN
def sA {S:aa}{d:GJ}:∀xs:Gy Hi,jv (iE S (d+1)) (xs.map W.bl) (xs.map W.bl)=gV true
 | []=>rfl
 | x::xs=>by
  have e:iE S (d+1) (.bl x) (.bl x)=gV true:=by simp[iE]
  rw[HX];simp only[jv,e,sA xs];rfl
def Ex {S:aa}{i j:GJ}{xs ys:Gy Hi}(h1:S[i]?=gV (.lst (xs.map W.bl)))(h2:S[j]?=gV (.lst (ys.map W.bl)))(e:xs=ys):bo .ne (.ref i) (.ref j) S=gV (.bl false,S):=by
 subst e;show qN (c:=true) ?_;simp only[iE,bx h1,bx h2];have:=sA (S:=S) (d:=18) xs;simp[this]
def pN:∀xs:Gy G1,sV (ac xs)=gV xs
 | []=>rfl
 | x::xs=>by
  unfold ac;rw[HX];dsimp only[sV];have:=pN xs;unfold ac at this;rw[this]; rfl
def Ey {S:aa}{l:GJ}{xs:Gy G1}{z:G1}{Q:QW}(e:S[l]?=gV (.lst (ac xs)))(q:Q (.int (xs.count z:GJ),S)):wO (Me.count.fn (.ref l) [.int z] S) Q:=by
 show ab ?_ q;change jX (.ref l) [.int z] S=_;unfold jX;simp only[bx e,pN]
def qQ {B:GJ->GJ->Hi}{sm:Hi}{n s:GJ}:(dm B sm n s).count (-1)=if sm then 1 else 0:=by
 unfold dm;rw[List.count_append];have:(((GL n).filter λi=>(GL s).all λp=>!B i p).map λ(i:GJ)=>(i:G1)).count (-1)=0:=List.count_eq_zero.mpr λh=>by
  obtain⟨i,_,e⟩:=G4.mp h;omega
 rw[this];cases sm <;> rfl
def xD {B:GJ->GJ->Hi}{sm:Hi}{n s:GJ}:(dm B sm n s).filter (λx=>decide (x>=0))=((GL n).filter λi=>(GL s).all λp=>!B i p).map λ(i:GJ)=>(i:G1):=by
 unfold dm;rw[Kx];have e1:(((GL n).filter λi=>(GL s).all λp=>!B i p).map λ(i:GJ)=>(i:G1)).filter (λx=>decide (x>=0))=((GL n).filter λi=>(GL s).all λp=>!B i p).map λ(i:GJ)=>(i:G1):=MD.mpr λx hx=>by
  obtain⟨i,_,rfl⟩:=G4.mp hx;exact HI ∅
 rw[e1];cases sm <;> simp
section
variable{defs:Gy (Hc×Df)}{fuel d:GJ}
def xE {M:Hc->FF}{Z:Fm}{S:aa}{Q:QW}{a n s l i:GJ}{p:Pt}{ps:Gy GJ}(hi:∀P:W->Prop,P (aK p)->wV Z i P)(h8:∀P:W->Prop,P (.ref l)->wV Z 8 P)(hc:d7 [td,td,gV i] Z=[td,td,gV (aK p)])(hp:GoodP a n s p)(hps:∀k∈ps,k < s)(hl:ps.length<=900)(e:S[l]?=gV (.lst (aj ps)))(k:∀S',Ka S S'->Q (aK (ay p ps),S')) :
  wE M (.tup #v[.ix (.v i) (.c (.int 0)),.bi .tuple #v[.comp (.ix (.ix (.v 2) (.c (.int 1))) (.v 1)) (.nm 1) (.seq (.v 8)) .nil [td,td,gV i]]]) Z S Q:=by
 dsimp only[wE,wA];show hi _ (ah #v[] rfl ?_)
 show qD ps (λ(x:GJ)=>W.int (x:G1)) (λ_=>true) (λx=>W.int (p.2.getD x 0)) [gV (aK p)] rfl rfl rfl hc ∅ (h8 _ #[l,rfl,e,.refl]) (λx hx S2 k2=>?_) λS2 k2=>?_
 ·dsimp only[fu,wC,wE,wV,wG];show#[λ_=>ah #v[] rfl (ah (GR x) ?_ #[rfl,rfl,.refl]),λz=>by cases z]
  rw[G0,GM,am (d:=0) (by rw[hp.len]; exact hps x hx)]; rfl
 ·rw[cm];show cF ak ?_;have:=k _ (k2.trans (Ka.push (o:=O.lst (ps.map λx=>W.int (p.2.getD x 0)))))
  unfold ay aK at this;rw[HL]at this;exact this
def xF (hfu:50 < fuel)(L:Lw26 defs){zs:Gy G1}:∃S',au defs fuel (d+9) "law" [.ref 0] [.fro (zs.map W.int)]=gV (.bl true,S'):=by
 suffices h:wO (aP (au defs fuel (d+9)) "law" 1 [.ref 0] [.fro (zs.map W.int)]) (λp=>p.1=.bl true) by
  obtain⟨⟨v,S'⟩,e,q⟩:=bJ h;cases(show v=.bl true from q)
  exact#[S',e]
 have G:=L.gen;show az L.law rfl rfl λQ' hR=>?_
 change wZ _ _ jN [gV (.ref 0),td,td,td,td,td,td,td,td,td,td,td,td,td,td,td,td,td,td,td] [.fro (zs.map W.int)] Q';unfold jN;nofun
 left;show Cu (d:=d+7) L.flow (ns:=zs) rfl λr S1 _ f1=>hK _ _ ?_
 clear hK K;nofun
 left;show pB (d:=d) ∅ G L.pai f1 λw S2 hw f2 _=>hK _ _ ?_
 clear hK K f1;obtain⟨a,bs,ms,ns,gs0,rfl,hr⟩:=hw;have hb:=hr.size.good;have hnl:=hr.nl;have hml:=hr.ml;have hpos:=hr.size.pos;have ha3:=hr.size.a3;have pm0:(ft gs0).Perm gs0:=hZ;have hgF:∀g∈ft gs0,g∈aE a bs:=λg hg=>hr.mem g (pm0.mem_iff.mp hg)
 have h64:(ft gs0).length < 64:=by
  have h1:=iV gs0 _ hr.nd hr.mem;have h2:=ny hr.size;rw[pm0.length_eq]; omega
 clear hr pm0;unfold bY;generalize ft gs0=gs at hgF h64;clear gs0;have hgs:∀g∈gs,GoodW a bs.length g/\g.length=3:=λg hg=>c7 hb (hgF g hg)
 have hb3:1<=bs.length/\bs.length<=3:=by rcases hb with rfl|rfl|rfl|rfl|rfl|rfl <;> decide
 have ml:(ms.map W.str).length=a:=by rw[Gz,hml]
 have zl:(G3 aF ns bs).length=bs.length:=by rw[Jh,hnl,JY]
 nofun
 left;show Eo (d:=d+5) G L.bad hb hnl hgs ∅ λq U S3 e3 h3 hq k3=>hK _ _ ?_
 clear hK K;have f3:=f2.ka k3;have hqr:q≠r:=by have:=f2.lt; omega
 clear k3 hq f2;have fl:=λ(S:aa) (Q:QW) (v:Wd) (x y:Pt) (gv:GoodW a bs.length v) (gx:GoodP a bs.length v.length x) (gy:GoodP a bs.length v.length y) (hv:v.length<=800)=>gW (defs:=defs) (fuel:=fuel) (d:=d+2) (S:=S) (Q:=Q) (m0:=.tup (ms.map W.str)) ∅ L.fil L.by' L.fill hb hnl hgs ∅ gv gx gy hv
 have bb:=λ(S:aa) (Q:QW) (v:Wd) (x y:Pt) (gv:GoodW a bs.length v) (gx:GoodP a bs.length v.length x) (gy:GoodP a bs.length v.length y) (hv:v.length<=800)=>jq (defs:=defs) (fuel:=fuel) (d:=d+3) (S:=S) (Q:=Q) (m0:=.tup (ms.map W.str)) ∅ L.fil L.by' hb hnl hgs ∅ gv gx gy hv
 have bt:=λ(S:aa) (Q:QW) (l:GJ) (u:Wd) (x y:Pt) (ps:Gy GJ) (gv:GoodW a bs.length u) (gx:GoodP a bs.length u.length x) (gy:GoodP a bs.length u.length y) (hv:u.length<=100)=>nF (defs:=defs) (fuel:=fuel) (d:=d+1) (S:=S) (Q:=Q) (l:=l) (ps:=ps) (m0:=.tup (ms.map W.str)) ∅ L.fil L.by' L.fill L.there hb hnl hgs ∅ gv gx gy hv
 have pk:=λ(S:aa) (Q:QW) (l:GJ) (u:Wd) (ps:Gy GJ) (hu:GoodW a bs.length u)=>z7 (defs:=defs) (fuel:=fuel) (d:=d+6) (S:=S) (Q:=Q) (l:=l) (u:=u) (ps:=ps) (m0:=.tup (ms.map W.str)) (b0:=.tup (gs.map aA)) G hb hnl hu
 have ot:=λ(S:aa) (Q:QW) (hf:Fl S r)=>nE (defs:=defs) (fuel:=fuel) (d:=d+4) (S:=S) (r:=r) (Q:=Q) ∅ G L.shuf L.ren L.oth hb hnl hml ha3 hgF h64 hf
 have pr:=λ(S:aa) (Q:QW) (many:GJ) (hm:many<=800) (e:S[q]?=gV (.dic U)) (hf:Fl S r)=>CA (defs:=defs) (fuel:=fuel) (d:=d+4) (S:=S) (r:=r) (Q:=Q) (many:=many) (b0:=.tup (gs.map aA)) G L.pai ml hpos ha3 zl hb3.1 hb3.2 hm e hqr hf
 generalize W.tup [.tup (ms.map W.str),.tup (G3 aF ns bs),.tup (gs.map aA)]=R at fl bb bt pk ot pr;nofun
 left;show aR (d:=d+7) G.pick f3 #v[] #v[] λv S4 v0 v1 f4 k4=>?_
 obtain⟨m,rfl⟩ : ∃m:GJ,v=m:=#[v.toNat,∅]
 show pr _ _ m ∅ (k4.get _ _ hqr e3) f4 λu p p2 S5 hul hu _ hp _ hp2 _ f5 k5=>?_
 dsimp only[wU];show ab (show cf [4,5,6] [aA u,aK p,aK p2] [gV (.ref 0),gV (.ref r),gV R,gV (.ref q),td,td,td,td,td,td,td,td,td,td,td,td,td,td,td,td]=gV [gV (.ref 0),gV (.ref r),gV R,gV (.ref q),gV (aA u),gV (aK p),gV (aK p2),td,td,td,td,td,td,td,td,td,td,td,td,td]from rfl) (hK _ _ ?_)
 clear hK K pr k5 f4 k4 e3 f3;have hul:u.length<=8:=∅
 have ul:(u.map aK).length=u.length:=Gz ..;nofun
 left;show fl _ _ u p p2 hu hp hp2 ∅ λl7 S6 e7 hl7 k6=>hK _ _ ?_
 clear hK K;rw[jM (a:=a) hp hp2]at e7;have l7r:l7≠r:=by have h5:=f5.lt; omega
 have f6:=f5.ka k6;clear f5 k6 hl7;show F1 (d:=d+6) G L.shuf (n:=u.length) (z:=(u.length:G1)) rfl ∅ ∅ f6 (λ_ h=>h) (λQ z=>by
  dsimp only[wE,wA,wV,wG];show aY ?_;rw[ul]; exact z) λl8 ps S7 e8 ho lps hl8 f7 k7=>?_
 dsimp only[GX];replace e7:=k7.get _ _ l7r e7;have l8r:l8≠r:=by
  have h6:r < S6.length:=f6.lt;have h8:S6.length<=l8:=hl8;omega
 clear k7 f6 hl8;nofun
 left;show pk _ _ l8 u ps hu ho.lt ho.nd ∅ e8 λS8 k8=>hK _ _ ?_
 clear hK K;replace e7:=k8.get _ _ e7;replace e8:=k8.get _ _ e8;replace f7:=f7.ka k8;clear k8;have pl:(ag bs u ps).length=u.length:=by rw[aI,lps]
 have gt:=i7 hb hu ho.lt ho.nd;have o1:GoodP a bs.length (ag bs u ps).length (ay p ps):=by rw[pl,<- lps]; exact dL hp ho.lt
 have o2:GoodP a bs.length (ag bs u ps).length (ay p2 ps):=by rw[pl,<- lps]; exact dL hp2 ho.lt
 show st ?_;dsimp only[wS];show xE (λ_ h=>h) (λ_ h=>h) rfl hp ho.lt ∅ e8 λS9 k9=>?_
 dsimp only[GX];replace e7:=k9.get _ _ e7;replace e8:=k9.get _ _ e8;replace f7:=f7.ka k9;clear k9;show st ?_;dsimp only[wS];show xE (λ_ h=>h) (λ_ h=>h) rfl hp2 ho.lt ∅ e8 λS10 k10=>?_
 dsimp only[GX];replace e7:=k10.get _ _ e7;replace e8:=k10.get _ _ e8;replace f7:=f7.ka k10;clear k10;nofun
 dsimp only[wS,wT,wE,wA,wV,wG];show fl _ _ (ag bs u ps) (ay p ps) (ay p2 ps) gt o1 o2 ∅ λl9 S11 e9 hl9 k11=>?_
 rw[jM (a:=a) o1 o2,pl,um ho lps]at e9;replace e7:=k11.get _ _ e7;replace e8:=k11.get _ _ e8;replace f7:=f7.ka k11;show ab (CB e9 e7 rfl) ?_;dsimp only[wB];show ap (Q0:=Q') (λz=>by cases z) (λ_ Q2 hn2 _=>bg (hn2 _ _ (hK _ _ ?_)))
 clear hn2 hK K k11 hl9 e9;nofun
 left;show bb _ _ (ag bs u ps) (ay p ps) (ay p2 ps) gt o1 o2 ∅ λS12 k12=>hK _ _ ?_
 clear hK K;replace e7:=k12.get _ _ e7;replace e8:=k12.get _ _ e8;replace f7:=f7.ka k12;clear k12;nofun
 dsimp only[wS,wT,wE];have nt:=uq (X:=(aw bs gs).map aL) hb hu hp hp2 ho lps;have nY:∀w∈aT (PB ((aw bs gs).map aL) (ag bs u ps).length) bs (ag bs u ps) (ay p ps) (ay p2 ps),NI w:=nC;have lY:(aT (PB ((aw bs gs).map aL) (ag bs u ps).length) bs (ag bs u ps) (ay p ps) (ay p2 ps)).length<=10:=by rw[jb]; omega
 show nB (aT (PB ((aw bs gs).map aL) (ag bs u ps).length) bs (ag bs u ps) (ay p ps) (ay p2 ps)) id (λ_=>true) (λw=>.bl (jK w)) [] rfl rfl rfl rfl ∅ #[by rw[NS],.refl] (λw hw S13 k13=>?_) λS13 k13=>?_
 ·dsimp only[fu,wC,wE,wV,wG];exact#[λ_=>ab (sy (nY w hw)) #[rfl,rfl,.refl],λz=>by cases z]
 rw[cm];dsimp only;have e13:(S13++[O.lst ((aT (PB ((aw bs gs).map aL) (ag bs u ps).length) bs (ag bs u ps) (ay p ps) (ay p2 ps)).map λw=>W.bl (jK w))])[S13.length]?=gV (.lst (((aT (PB ((aw bs gs).map aL) u.length) bs u p p2).map jK).map W.bl)):=by
  rw[<- nt,HL]; exact ak
 have k13':=k13.trans (Ka.push (o:=O.lst ((aT (PB ((aw bs gs).map aL) (ag bs u ps).length) bs (ag bs u ps) (ay p ps) (ay p2 ps)).map λw=>W.bl (jK w))))
 generalize S13++[O.lst ((aT (PB ((aw bs gs).map aL) (ag bs u ps).length) bs (ag bs u ps) (ay p ps) (ay p2 ps)).map λw=>W.bl (jK w))]=S14 at e13 k13'
 generalize S13.length=l13 at e13;show nB (aT (PB ((aw bs gs).map aL) u.length) bs u p p2) id (λ_=>true) (λw=>.bl (jK w)) [] rfl rfl rfl rfl (by rw[jb]; omega) ?_ (λw hw S15 k15=>?_) λS15 k15=>?_
 ·dsimp only[wE,wA,wV,wG];exact bb _ _ u p p2 hu hp hp2 ∅ λS15 k15=>#[by rw[NS],k15]
 ·dsimp only[fu,wC,wE,wV,wG];exact#[λ_=>ab (sy (nC w hw)) #[rfl,rfl,.refl],λz=>by cases z]
 rw[cm];dsimp only;show ab (Ex (aq (k15.get _ _ e13)) (by rw[HL]; exact ak) rfl) ?_
 dsimp only[wB];have k16:=k13'.trans (k15.trans (Ka.push (o:=O.lst ((aT (PB ((aw bs gs).map aL) u.length) bs u p p2).map λw=>W.bl (jK w)))))
 generalize S15++[O.lst ((aT (PB ((aw bs gs).map aL) u.length) bs u p p2).map λw=>W.bl (jK w))]=S16 at k16
 replace e7:=k16.get _ _ e7;replace e8:=k16.get _ _ e8;replace f7:=f7.ka k16;show ap (Q0:=Q') (λz=>by cases z) (λ_ Q2 hn2 _=>bg (hn2 _ _ (hK _ _ ?_)))
 clear hn2 hK K k16 k15 e13 k13' k13 nt nY lY;nofun
 dsimp only[wS,wT,wE,wA,wV,wG];show bt _ _ l8 u p p2 ps hu hp hp2 ∅ ho lps e8 λS17 k17=>?_
 show ab (show eE S17 (.bl true)=gV true from rfl) ?_
 replace e7:=k17.get _ _ e7;replace f7:=f7.ka k17;show ap (Q0:=Q') (λz=>by cases z) (λ_ Q2 hn2 _=>bg (hn2 _ _ (hK _ _ ?_)))
 clear hn2 hK K k17 e8 bt bb pk;nofun
 left;show ot _ _ f7 λpm pn ms' ns' gs' lm ln S18 RN ml' nl' g64 hg' em en hlm hln f18 k18=>?_
 replace e7:=k18.get _ _ l7r e7;clear ot k18 hlm hln f7;dsimp only[wU];show ab (show cf [13,14,15] [.tup [.tup ms',.tup (G3 aF ns' (aZ bs pn)),.tup (gs'.map aA)],.ref lm,.ref ln] [gV (.ref 0),gV (.ref r),gV R,gV (.ref q),gV (aA u),gV (aK p),gV (aK p2),gV (.ref l7),gV (.ref l8),gV (aA (ag bs u ps)),gV (aK (ay p ps)),gV (aK (ay p2 ps)),gV (.tup (aT (PB ((aw bs gs).map aL) (ag bs u ps).length) bs (ag bs u ps) (ay p ps) (ay p2 ps))),td,td,td,td,td,td,td]=gV [gV (.ref 0),gV (.ref r),gV R,gV (.ref q),gV (aA u),gV (aK p),gV (aK p2),gV (.ref l7),gV (.ref l8),gV (aA (ag bs u ps)),gV (aK (ay p ps)),gV (aK (ay p2 ps)),gV (.tup (aT (PB ((aw bs gs).map aL) (ag bs u ps).length) bs (ag bs u ps) (ay p ps) (ay p2 ps))),gV (.tup [.tup ms',.tup (G3 aF ns' (aZ bs pn)),.tup (gs'.map aA)]),gV (.ref lm),gV (.ref ln),td,td,td,td]from rfl) (hK _ _ ?_)
 clear hK K;generalize gV (W.tup (aT (PB ((aw bs gs).map aL) (ag bs u ps).length) bs (ag bs u ps) (ay p ps) (ay p2 ps)))=A12;generalize gV (aK (ay p2 ps))=A11;generalize gV (aK (ay p ps))=A10;generalize gV (aA (ag bs u ps))=A9;have hpt:∀ {s:GJ} {x:Pt},s<=8->GoodP a bs.length s x->(0<=x.1/\x.1 < (pm.length:G1))/\x.2.length<=900/\∀w∈x.2,0<=w/\w < (pn.length:G1):=λhs g=>#[by rw[RN.lm]; exact g.mark,by rw[g.len]; omega,by rw[RN.ln]; exact g.way]
 nofun
 left;show jc (d:=d+7) (xs:=u) L.ren em en ∅ (λx hx=>?_) λS19 k19=>hK _ _ ?_
 ·obtain⟨i,hi,ex⟩:=Ji hx;have hx':u[i]?=gV x:=by rw[G5 hi,ex]
  exact hpt (s:=i) ∅ #[hu.mark i x hx',hu.len i x hx',hu.way i x hx']
 clear hK K;replace e7:=k19.get _ _ e7;replace em:=k19.get _ _ em;replace en:=k19.get _ _ en;clear k19;nofun
 left;show jc (d:=d+7) (xs:=[p,p2]) L.ren em en (J3 rfl) (λx hx=>?_) λS20 k20=>?_
 ·rcases Hj.mp hx with rfl|hx
  ·exact hpt hul hp
  ·cases G8.mp hx; exact hpt hul hp2
 replace e7:=k20.get _ _ e7;replace en:=k20.get _ _ en;clear k20 em;dsimp only[wU];show ab (show cf [17,18] [aK (aX pm pn p),aK (aX pm pn p2)] [gV (.ref 0),gV (.ref r),gV R,gV (.ref q),gV (aA u),gV (aK p),gV (aK p2),gV (.ref l7),gV (.ref l8),A9,A10,A11,A12,gV (.tup [.tup ms',.tup (G3 aF ns' (aZ bs pn)),.tup (gs'.map aA)]),gV (.ref lm),gV (.ref ln),gV (.tup ((u.map (aX pm pn)).map aK)),td,td,td]=gV [gV (.ref 0),gV (.ref r),gV R,gV (.ref q),gV (aA u),gV (aK p),gV (aK p2),gV (.ref l7),gV (.ref l8),A9,A10,A11,A12,gV (.tup [.tup ms',.tup (G3 aF ns' (aZ bs pn)),.tup (gs'.map aA)]),gV (.ref lm),gV (.ref ln),gV (aA (aQ pm pn u)),gV (aK (aX pm pn p)),gV (aK (aX pm pn p2)),td]from rfl) (hK _ _ ?_)
 clear hK K;have rl:(aQ pm pn u).length=u.length:=Gz ..;have gp':GoodP a (aZ bs pn).length (aQ pm pn u).length (aX pm pn p):=by rw[rl]; exact RN.pt hp
 have gq':GoodP a (aZ bs pn).length (aQ pm pn u).length (aX pm pn p2):=by rw[rl]; exact RN.pt hp2
 obtain⟨fp,fw⟩:=RN.fill hb hgF hg' hu hp hp2;have gg':∀g∈gs',GoodW a (aZ bs pn).length g/\g.length=3:=λx hx=>by
  obtain⟨g,hg,rfl⟩:=(hg' x).mp hx;show c7 RN.gb (jG (RN.wd (hgs g hg).1) ?_);show(g.map _).length=3;rw[Gz]; exact(hgs g hg).2
 show st ?_;dsimp only[wS,wE,wA,wN];show qD (dm (bC ((aw bs gs).map aL) bs u p p2) (jL p p2 u.length) bs.length u.length) W.int (λx=>decide (x>=0)) (λx=>.int (pI pn x)) [gV (.ref ln)] rfl rfl rfl rfl ?_ #[l7,rfl,e7,.refl] (λx hx S21 k21=>?_) λS21 k21=>?_
 ·unfold dm;rw[GQ,Gz];have:=IX (λi=>(GL u.length).all λp_1=>!bC ((aw bs gs).map aL) bs u p p2 i p_1) (GL bs.length)
  rw[Hg]at this;split <;> simp <;> omega
 ·dsimp only[fu,wC,wT,wE,wV,wG];show ab zB ?_;dsimp only[wB];show#[λz=>?_,λz=>#[z,.refl]]
  have hx0:0<=x:=HS z;have hxn:x < bs.length:=by
   rcases ma.mp hx with⟨i,e1,e2,_⟩|⟨e1,_⟩ <;> omega
  exact eD (k21.get _ _ en) hx0 (kS (by rw[RN.ln]; omega)) #[z,rfl,.refl]
 have ec:((dm (bC ((aw bs gs).map aL) bs u p p2) (jL p p2 u.length) bs.length u.length).filter (λx=>decide (x>=0))).map (λx=>W.int (pI pn x))=aj (((GL bs.length).filter λi=>(GL u.length).all λk=>!bC ((aw bs gs).map aL) bs u p p2 i k).map λi=>pn.getD i 0):=by
  rw[xD];unfold aj;rw[HL,HL];show HH λi hi=>?_
  change W.int (pI pn (i:G1))=W.int ((pn.getD i 0:GJ):G1);unfold pI;rw[G0]
 rw[ec];dsimp only;have lf:(((GL bs.length).filter λi=>(GL u.length).all λk=>!bC ((aw bs gs).map aL) bs u p p2 i k).map λi=>pn.getD i 0).length<=3:=by
  rw[Gz];have:=IX (λi=>(GL u.length).all λk=>!bC ((aw bs gs).map aL) bs u p p2 i k) (GL bs.length)
  rw[Hg]at this;omega
 show ab (show Bi.sorted.fn [.ref S21.length] _=_ from pJ (mf ak) ∅ fp fw) ?_
 have lM:=fp.length_eq;rw[Gz]at lf lM;have k22:=k21.trans ((Ka.push (o:=O.lst (aj (((GL bs.length).filter λi=>(GL u.length).all λk=>!bC ((aw bs gs).map aL) bs u p p2 i k).map λi=>pn.getD i 0)))).trans (Ka.push (o:=O.lst (aj ((GL bs.length).filter λi=>(GL u.length).all λk=>!bC ((aw (aZ bs pn) gs').map aL) (aZ bs pn) (aQ pm pn u) (aX pm pn p) (aX pm pn p2) i k)))))
 have e22:(S21++[O.lst (aj (((GL bs.length).filter λi=>(GL u.length).all λk=>!bC ((aw bs gs).map aL) bs u p p2 i k).map λi=>pn.getD i 0))]++[O.lst (aj ((GL bs.length).filter λi=>(GL u.length).all λk=>!bC ((aw (aZ bs pn) gs').map aL) (aZ bs pn) (aQ pm pn u) (aX pm pn p) (aX pm pn p2) i k))])[(S21++[O.lst (aj (((GL bs.length).filter λi=>(GL u.length).all λk=>!bC ((aw bs gs).map aL) bs u p p2 i k).map λi=>pn.getD i 0))]).length]?=gV (O.lst (aj ((GL bs.length).filter λi=>(GL u.length).all λk=>!bC ((aw (aZ bs pn) gs').map aL) (aZ bs pn) (aQ pm pn u) (aX pm pn p) (aX pm pn p2) i k))):=ak
 generalize S21++[O.lst (aj (((GL bs.length).filter λi=>(GL u.length).all λk=>!bC ((aw bs gs).map aL) bs u p p2 i k).map λi=>pn.getD i 0))]++[O.lst (aj ((GL bs.length).filter λi=>(GL u.length).all λk=>!bC ((aw (aZ bs pn) gs').map aL) (aZ bs pn) (aQ pm pn u) (aX pm pn p) (aX pm pn p2) i k))]=S22 at k22 e22
 generalize(S21++[O.lst (aj (((GL bs.length).filter λi=>(GL u.length).all λk=>!bC ((aw bs gs).map aL) bs u p p2 i k).map λi=>pn.getD i 0))]).length=l22 at e22
 dsimp only[wV,wG];have e7':=k22.get _ _ e7;show#[cg (aq e7'),Ey (aq e7') ?_];rw[qQ];have hg1:(if jL p p2 u.length then 1 else 0:GJ)<=1:=by split <;> omega
 have er:ac (if jL p p2 u.length then[-1]else[])=Hy (if jL p p2 u.length then 1 else 0) (W.int (-1)):=by cases jL p p2 u.length <;> rfl
 generalize hgen:(if jL p p2 u.length then 1 else 0:GJ)=g at hg1 er
 show AA ak ∅ ?_
 show ab (qp (aq (aq e22)) ak (i6 (by rw[GQ,L8,kU]; omega))) ?_
 have e19:∀(S0:aa) (t:GJ),S0[t]?=gV (.lst (aj ((GL bs.length).filter λi=>(GL u.length).all λk=>!bC ((aw (aZ bs pn) gs').map aL) (aZ bs pn) (aQ pm pn u) (aX pm pn p) (aX pm pn p2) i k)++Hy g (W.int (-1))))->S0[t]?=gV (.lst (ac (dm (bC ((aw (aZ bs pn) gs').map aL) (aZ bs pn) (aQ pm pn u) (aX pm pn p) (aX pm pn p2)) (jL (aX pm pn p) (aX pm pn p2) u.length) (aZ bs pn).length u.length))):=λS0 t h=>by
  rw[h,<- er,RN.sm hp hp2,RN.lb];unfold dm aj ac;rw[Hk,HL]; rfl
 have e20:=e19 _ _ (ak (S:=S22++[O.lst [W.int (-1)]]++[O.lst (Hy g (W.int (-1)))]));generalize S22++[O.lst [W.int (-1)]]++[O.lst (Hy g (W.int (-1)))]++[O.lst (aj ((GL bs.length).filter λi=>(GL u.length).all λk=>!bC ((aw (aZ bs pn) gs').map aL) (aZ bs pn) (aQ pm pn u) (aX pm pn p) (aX pm pn p2) i k)++Hy g (W.int (-1)))]=S23 at e20
 generalize(S22++[O.lst [W.int (-1)]]++[O.lst (Hy g (W.int (-1)))]).length=l23 at e20;dsimp only[GX];show st ?_;left;show gW (d:=d+2) ∅ L.fil L.by' L.fill RN.gb (by rw[nl',RN.lb]) gg' ∅ (RN.wd hu) gp' gq' (by rw[rl]; omega) λl24 S24 e24 _ k24=>?_
 rw[jM (a:=a) gp' gq',rl]at e24;show ab (Cr e24 (k24.get _ _ e20)) ?_;rw[HI rfl];exact hR _ _ rfl
end
abbrev AG:Df:=#[["_law_script"],["_law_script","_law_flow_here","_law_rule","_law_bad_here","_law_base","_law_one","_law_other","_law_found","_law_points","_law_turned_base","_law_mine","_law_yours","_law_told","_law_again","_law_marks","_law_numbers","_law_new_base","_law_new_one","_law_new_other","_law_due"],jN]
noncomputable abbrev Tw:=Hc×GJ×Df×GJ
noncomputable abbrev tw (x:Hc)(i:GJ)(d:Df)(a:GJ):Tw:=(x,i,d,a)
abbrev TL:Gy Tw:=[tw "way" 1 #[["rule","world","i","j"],["rule","world","i","j"],su] 21,tw "part" 3 #[["rule","world","points"],["rule","world","points"],i4] 26,tw "point_over" 4 #[["rule","world","ahead","point"],["rule","world","ahead","point"],dF] 31,tw "longer_orders" 5 #[["orders","size"],["orders","size","longer","order"],bu] 36,tw "back" 7 #[["rule","way"],["rule","way"],ja] 43,tw "barred_threes" 9 #[["rule"],["rule","orders","barred","figure","order"],bL] 50,tw "three_at" 10 #[["world","i","j","k"],["world","i","j","k","one","two"],cZ] 57,tw "first_bar" 11 #[["barred","world"],["barred","world","last","point"],di] 64,tw "fillings" 13 #[["rule","base","one","other"],["rule","base","one","other","bars","found"],c8] 69,tw "barred_by" 14 #[["rule","base","one","other"],["rule","base","one","other"],bU] 76,tw "all_bars" 15 #[["rule","barred","base","one","other"],["rule","barred","base","one","other","bars"],fg] 81,tw "with_both" 16 #[["rule","base","one","other","number"],["rule","base","one","other","number"],dj] 88,tw "same_bar" 17 #[["one","other"],["one","other","apart"],d0] 93,tw "_law_flow" 19 #[["_law_script"],["_law_script"],dZ] 100,tw "_law_pick" 20 #[["_law_flow_here","_law_many"],["_law_flow_here","_law_many","_law_cell","_law_digit"],cz] 107,tw "_law_shuffled" 21 #[["_law_flow_here","_law_things"],["_law_flow_here","_law_things","_law_left","_law_told"],bj] 114,tw "_law_names" 22 #[["_law_flow_here","_law_many"],["_law_flow_here","_law_many"],eC] 119,tw "_law_between" 23 #[["_law_rule","_law_world_here","_law_i","_law_j"],["_law_rule","_law_world_here","_law_i","_law_j"],da] 126,tw "_law_part" 24 #[["_law_rule","_law_world_here","_law_points"],["_law_rule","_law_world_here","_law_points","_law_told","_law_k","_law_i"],cW] 131,tw "_law_turns" 25 #[[],[],fO] 138,tw "_law_figure" 26 #[["_law_rule","_law_three"],["_law_rule","_law_three"],dB] 143,tw "_law_bad" 27 #[["_law_rule"],["_law_rule","_law_bad_here","_law_three","_law_points"],eO] 150,tw "_law_last_may" 28 #[["_law_rule","_law_bad_here","_law_world_here","_law_k"],["_law_rule","_law_bad_here","_law_world_here","_law_k","_law_mark","_law_to","_law_j","_law_i"],bT] 157,tw "_law_backs" 29 #[["_law_flow_here","_law_many"],["_law_flow_here","_law_many","_law_menu"],eA] 164,tw "_law_rule_of" 30 #[["_law_flow_here","_law_marks","_law_backs_here","_law_barred"],["_law_flow_here","_law_marks","_law_backs_here","_law_barred","_law_names_here","_law_ways"],db] 169,tw "_law_free_three" 31 #[["_law_flow_here","_law_marks","_law_ways"],["_law_flow_here","_law_marks","_law_ways","_law_told","_law_k"],bX] 174,tw "_law_sizes" 32 #[["_law_flow_here"],["_law_flow_here","_law_menu"],eB] 181,tw "_law_any_rule" 33 #[["_law_flow_here"],["_law_flow_here","_law_marks","_law_ways","_law_rule","_law_barred","_law_k"],cL] 188,tw "_law_laying_kind" 34 #[["_law_flow_here"],["_law_flow_here","_law_menu"],bQ] 195,tw "_law_breaks" 35 #[["_law_backs_here","_law_must","_law_to_one","_law_to_two","_law_between_here"],["_law_backs_here","_law_must","_law_to_one","_law_to_two","_law_between_here","_law_to","_law_pair_here","_law_x","_law_y","_law_z"],dC] 202,tw "_law_numbered" 36 #[["_law_flow_here","_law_backs_here","_law_must"],["_law_flow_here","_law_backs_here","_law_must","_law_many","_law_menu","_law_some","_law_numbers","_law_told","_law_k","_law_other","_law_u","_law_v"],bh] 207,tw "_law_laying_rule" 37 #[["_law_flow_here"],["_law_flow_here","_law_form","_law_backs_here","_law_must","_law_most","_law_marks","_law_rule","_law_barred","_law_many","_law_at","_law_one","_law_two","_law_between_here","_law_some","_law_first"],bR] 214,tw "_law_rising" 38 #[["_law_marks"],["_law_marks","_law_told","_law_i","_law_j"],dD] 219,tw "_law_free_rule" 39 #[["_law_flow_here"],["_law_flow_here","_law_marks","_law_ways","_law_rule","_law_k","_law_own","_law_free","_law_barred","_law_three"],cv] 224,tw "_law_one_way_rule" 40 #[["_law_flow_here"],["_law_flow_here","_law_marks","_law_barred"],bF] 229,tw "_law_unlaying_rule" 41 #[["_law_flow_here"],["_law_flow_here","_law_form","_law_rule","_law_barred","_law_some","_law_one","_law_two","_law_between_here","_law_first","_law_marks"],bc] 234,tw "_law_new_ways" 42 #[["_law_flow_here","_law_rule","_law_bad_here","_law_world_here","_law_mark","_law_to"],["_law_flow_here","_law_rule","_law_bad_here","_law_world_here","_law_mark","_law_to","_law_k","_law_left","_law_w","_law_seen","_law_i"],aN] 241,tw "_law_world" 43 #[["_law_flow_here","_law_rule","_law_bad_here","_law_many"],["_law_flow_here","_law_rule","_law_bad_here","_law_many","_law_world_here","_law_k","_law_mark","_law_to"],dh] 248,tw "_law_some_rule" 44 #[["_law_flow_here"],["_law_flow_here","_law_form"],cw] 255,tw "_law_new_point" 45 #[["_law_flow_here","_law_rule","_law_bad_here","_law_base"],["_law_flow_here","_law_rule","_law_bad_here","_law_base","_law_first","_law_k","_law_mark","_law_to"],cx] 262,tw "_law_near" 46 #[["_law_flow_here","_law_rule","_law_bad_here","_law_base","_law_point"],["_law_flow_here","_law_rule","_law_bad_here","_law_base","_law_point","_law_mark","_law_to","_law_kind","_law_at"],fj] 269,tw "_law_pair" 47 #[["_law_flow_here","_law_rule","_law_bad_here","_law_many"],["_law_flow_here","_law_rule","_law_bad_here","_law_many","_law_base","_law_one","_law_other"],fq] 276,tw "_law_renamed" 48 #[["_law_rule","_law_world_here","_law_marks","_law_numbers"],["_law_rule","_law_world_here","_law_marks","_law_numbers"],bM] 281,tw "_law_other_rule" 49 #[["_law_flow_here","_law_rule"],["_law_flow_here","_law_rule","_law_marks","_law_numbers","_law_k","_law_names_here","_law_lines","_law_name","_law_there","_law_other","_law_barred"],cp] 286,tw "_law_bars_there" 50 #[["_law_rule","_law_told","_law_base","_law_one","_law_other","_law_points"],["_law_rule","_law_told","_law_base","_law_one","_law_other","_law_points","_law_number","_law_at","_law_alone","_law_few"],bB] 293,tw "law" 51 AG 298]
abbrev jt:Gy (Hc×Df):=TL.map λp=>(p.1,p.2.2.1)
abbrev F2:Gy (Hc×GJ):=TL.map λp=>(p.1,p.2.2.1.ps.length)
abbrev z8:Gy Hc:=["range","len","list","tuple","int","sorted","isinstance","bool","str","all","min","enumerate","abs"]
abbrev CN:Md:=#[F2,z8]
abbrev BD (x:Hc)(st:JN)(df:Df):Prop:=∀(kV doc pm:GC) (an:GH GP) (cdv ct:GC) (us:Gy GC),us.length=df.ps.length->bindArgs (IZ x x (dy st) (cq st) (aU st) .none kV doc pm an cdv ct) #[us,[]]=pure (df.ps.zip us)
def Gd {us:Gy GC}(h:us.length=0):us=[]:=JT.mp h
def uc {us:Gy GC}{n:GJ}(h:us.length=n+1):∃a t,us=a::t/\t.length=n:=by
 cases us with
 | nil=>cases h
 | cons a t=>exact#[a,t,rfl,PF h]
def Ge {us:Gy GC}(h:us.length=1):∃a,us=[a]:=by obtain⟨a,t,rfl,g⟩:=uc h; cases Gd g; exact#[a,rfl]
def Gf {us:Gy GC}(h:us.length=2):∃a b,us=[a,b]:=by obtain⟨a,t,rfl,g⟩:=uc h; obtain⟨b,rfl⟩:=Ge g; exact#[a,b,rfl]
def Gg {us:Gy GC}(h:us.length=3):∃a b c,us=[a,b,c]:=by obtain⟨a,t,rfl,g⟩:=uc h; obtain⟨b,c,rfl⟩:=Gf g; exact#[a,b,c,rfl]
def Gh {us:Gy GC}(h:us.length=4):∃a b c d,us=[a,b,c,d]:=by obtain⟨a,t,rfl,g⟩:=uc h; obtain⟨b,c,d,rfl⟩:=Gg g; exact#[a,b,c,d,rfl]
def Gi {us:Gy GC}(h:us.length=5):∃a b c d e,us=[a,b,c,d,e]:=by obtain⟨a,t,rfl,g⟩:=uc h; obtain⟨b,c,d,e,rfl⟩:=Gh g; exact#[a,b,c,d,e,rfl]
def Gu {us:Gy GC}(h:us.length=6):∃a b c d e f,us=[a,b,c,d,e,f]:=by obtain⟨a,t,rfl,g⟩:=uc h; obtain⟨b,c,d,e,f,rfl⟩:=Gi g; exact#[a,b,c,d,e,f,rfl]
abbrev DG (p:Tw):Prop:=DN CN (lE p.2.1) p.2.2.1/\FnScope p.2.2.1.N p.2.2.1.ps (aU (lE p.2.1))/\BD p.1 (lE p.2.1) p.2.2.1
def gc {α:Type}{F:α->Prop}{p:α}{L:Gy α}(a:F p)(b:∀q∈L,F q):∀q∈p::L,F q:=List.forall_mem_cons.mpr #[a,b]
def gn {α:Type}{F:α->Prop}:∀q∈([]:Gy α),F q:=λ_ h=>nomatch h
def Gv {p:Tw}(a:rX (cS 20 (wc CN (lE p.2.1) p.2.2.1.N)) (cq (lE p.2.1))=gV p.2.2.1.body)(b:FnScope p.2.2.1.N p.2.2.1.ps (aU (lE p.2.1)))(c:BD p.1 (lE p.2.1) p.2.2.1):DG p:=#[a,b,c]
set_option maxHeartbeats 0 in
def AH:∀p∈TL,DG p:=by
 unfold TL
 repeat show gc (Gv (by kernel_rfl) #[rfl,rfl,rfl,by decide +kernel,rfl,by decide +kernel,by decide +kernel] λ_ _ _ _ _ _ us h=>by
  first
   | (obtain⟨a,rfl⟩:=Ge h; rfl)
   | (obtain⟨a,b,rfl⟩:=Gf h; rfl)
   | (obtain⟨a,b,c,rfl⟩:=Gg h; rfl)
   | (obtain⟨a,b,c,d,rfl⟩:=Gh h; rfl)
   | (obtain⟨a,b,c,d,e,rfl⟩:=Gi h; rfl)
   | (obtain⟨a,b,c,d,e,f,rfl⟩:=Gu h; rfl)
   | (obtain rfl:=Gd h; rfl)) ?_
 exact gn
def Gw {f:Hc}{m n:GJ}{b:Ss}(h:((jt.lookup f).map λd=>(d.ps.length,d.N.length,d.body))=gV (m,n,b)):Is jt f m n b:=by
 rw[GD]at h;obtain⟨d,h1,h2⟩:=h;rw[OC,OC]at h2;exact#[d,h1,h2.1,h2.2.1,h2.2.2]
set_option maxHeartbeats 0 in
def Ez:Lw26 jt:=by
 repeat' first
  | exact Gw (by kernel_rfl)
  | constructor
def kX:∀(L:Gy Tw) (x:Hc) (n:GJ),(L.map λp=>(p.1,p.2.2.1.ps.length)).lookup x=gV n->∃p∈L,p.1=x/\p.2.2.1.ps.length=n/\(L.map λp=>(p.1,p.2.2.1)).lookup x=gV p.2.2.1
 | [],x,n,h=>by cases h
 | p::L,x,n,h=>by
  rw[HX,Ig]at h;rw[HX,Ig];cases e:x==p.1 with
  | true=>
   rw[e]at h;cases h;exact#[p,HU ..,(eq_of_beq e).symm,rfl,rfl]
  | false=>
   rw[e]at h;obtain⟨q,h1,h2,h3,h4⟩:=kX L x n h;exact#[q,HC _ h1,h2,h3,h4]
section
variable{P:Ht}{w:HD}{K:GZ}{mg:Hc->GH GC}{base:HP}
abbrev xG (K:GZ)(mg:Hc->GH GC)(x:Hc)(st:JN)(df:Df):Prop:=∃(f:GP) (fd:Jp),Fun K x x st f fd/\mg x=gV (.ref f)/\Iw K (.ref f)=true/\Binds K fd df.ps []
def CF {h:HP}{x:Hc}{st:JN}{df:Df}{f:GP}{oc:GC}{od an:GH GP}{osl:HE (GH GC)}{kV doc pm cdv ct:GC}(X:K.In h)(G:h.Ns mainGlobals mg)
  (b:BD x st df)
  (a:Kf K mainGlobals x=gV (gV (.ref f))) (l:K.lookup f=gV #[oc,od,.func (IZ x x (dy st) (cq st) (aU st) .none kV doc pm an cdv ct),osl]) (c:JQ K cdv x=true) (k:Iw K (.ref f)=true):xG K mg x st df:=
 have F:=uV (st:=st) l c k
 #[f,_,F,OD X G a,k,F.binds b]
def xH {fuel:GJ}(hb:MdOk w K mg CN)(D:∀p∈TL,xG K mg p.1 (lE p.2.1) p.2.2.1):∀d,Al P w K mg base CN jt fuel d
 | 0=>λf n h=>by
  obtain⟨p,h1,rfl,h2,h3⟩:=kX TL f n h;obtain⟨fa,fd,F,m,kp,b⟩:=D p h1;show#[fa,fd,p.2.2.1.ps,#[λvs H Q E z=>?_,λA outer s H args us vs Q E hr he hbd hv z=>?_],m,kp,b]
  all_goals
   obtain⟨_,_,_,_,_,_,_,_,z,_⟩:=z;cases z
 | d+1=>λf n h=>by
  obtain⟨p,h1,rfl,h2,h3⟩:=kX TL f n h;obtain⟨g1,g2,_⟩:=AH p h1;obtain⟨fa,fd,F,m,kp,b⟩:=D p h1;show#[fa,fd,p.2.2.1.ps,?_,m,kp,b];rw[<- h2];exact Am F g2 h3 g1 hb (xH hb D d)
def EA {h:HP}(X:K.In h)(G:h.Ns mainGlobals mg)(z:∀y∈z8,Kf K mainGlobals y=gV td):MdOk w K mg CN:=#[λy hy=>PySem.W.mg_none_of X G (z y hy)]
end
def CG {l:L0}{w:HD}{K:GZ}{h:HP}{mg:Hc->GH GC}{fa f:GP}(X:K.In h)(G:h.Ns mainGlobals mg)(hfa:mg "law" = gV (.ref fa))(hb:MdOk w K mg CN)(D:∀p∈TL,xG K mg p.1 (lE p.2.1) p.2.2.1)
  {oc:GC} {od an:GH GP} {osl:HE (GH GC)} {kV doc pm cdv ct:GC} (a:Kf K mainGlobals "law" = gV (gV (.ref f))) (l':K.lookup f=gV #[oc,od,.func (IZ "law" "law" (dy (lE 51)) (cq (lE 51)) (aU (lE 51)) .none kV doc pm an cdv ct),osl]) (c:JQ K cdv "law" = true) (k:Iw K (.ref f)=true) :
  ∃fd:Jp,(∀(s:GF) (v:GC),M8 s fd #[[v],[]] [("_law_script",v)])/\∀base:HP,K.In base->base.Ns mainGlobals mg->FnOk l.prog w K mg base ur 9 fa fd ["_law_script"] (spF w K 1 (au jt 100 9 "law")):=by
 have e:=hfa.symm.trans (OD X G a);cases e;have F:=uV (st:=lE 51) l' c k;exact#[IZ "law" "law" (dy (lE 51)) (cq (lE 51)) (aU (lE 51)) .none kV doc pm an cdv ct,λs v=>.of_eq rfl,λbase _ _=>Am (df:=AG) F #[rfl,rfl,rfl,by decide +kernel,rfl,by decide +kernel,by decide +kernel] (by rfl) (by rfl) hb (xH hb D 8)]
def F3 {l:L0}{q:Ht}{loose:Gy Hc}{XP:(Hc->GH GC)->HP->Prop}{YP:HD->HP->Prop}{d:DefRec}{K:MV->GZ}(hn:l.most=gV 63)(hdf:d.params.defaults=[])
  (hY:∀(w:HD) (h:HP),YP w h->(K w.params).In h)
  (F:∀(w:HD) (mg:Hc->GH GC) (fa:GP) (h:HP),(K w.params).In h->h.Ns mainGlobals mg->mg d.name=gV (.ref fa)->
   ∃fd:Jp,(∀(s:GF) (u:GC),M8 s fd #[[u],[]] [("_law_script",u)])/\∀base:HP,(K w.params).In base->base.Ns mainGlobals mg->FnOk l.prog w (K w.params) mg base ur 9 fa fd ["_law_script"] (spF w (K w.params) 1 (au jt 100 9 "law"))) :
  Ou q loose XP YP l.row.toRowW d [] (λf vs=>N9 f vs):=
 L2.yk (n:=63) (k:=9) (x:="_law_script") (CX:=λ_=>ur) (sp:=λw=>spF w (K w.params) 1 (au jt 100 9 "law")) hn #v[] hdf #[rfl,#v[],#v[]] hY F
  (λw H a ns hl hO hS=>B3 (xF (defs:=jt) (fuel:=100) (d:=0) #v[] Ez) hO hS) λ_ _ _ _ _ z=>z
end Mi
open PySem PySem.W PyProof.Rows L2
namespace Mi
section
abbrev EL (K:GZ)(p:Tw):Prop:=Kf K mainGlobals p.1=gV (gV (.ref p.2.2.2))/\K.lookup p.2.2.2=gV (kf p.2.2.2 (lE p.2.1) p.1 (Fs p.2.1) (.ref (p.2.2.2 - 1))).2/\JQ K (.ref (p.2.2.2 - 1)) p.1=true/\Iw K (.ref p.2.2.2)=true
def Gx {K:GZ}{p:Tw}(e:Kf K mainGlobals p.1=gV (gV (.ref p.2.2.2)))(l:K.lookup p.2.2.2=gV (kf p.2.2.2 (lE p.2.1) p.1 (Fs p.2.1) (.ref (p.2.2.2 - 1))).2)(c:JQ K (.ref (p.2.2.2 - 1)) p.1=true)(k:Iw K (.ref p.2.2.2)=true):EL K p:=#[e,l,c,k]
def EB (P:MV):∀p∈TL,EL (K0 P) p:=by
 unfold TL
 repeat show gc (Gx (by kernel_rfl) (by kernel_rfl) (by kernel_rfl) (by kernel_rfl)) ?_
 exact gn
def EC (P:MV):∀y∈z8,Kf (K0 P) mainGlobals y=gV td:=by
 unfold z8
 repeat show gc (F:=λy=>Kf (K0 P) mainGlobals y=gV td) (by kernel_rfl) ?_
 exact gn
end
end Mi
end
end ZZ.Lean
open ZZ.Lean
theorem PySem.Challenge.cw_layworld_k26_bases_told_otherwise_holds : PySem.Challenge.rw_layworld_k26_bases_told_otherwise.Holds := by
 w_on
 show PySem.W.holds_law (HG (HG (HG (HG (HG (HG (HG (HG (HG (HG (HG (HG (HG (HG (HG (HG (HG (HG (Mi.s0) (by kernel_rfl)) (by kernel_rfl)) (by kernel_rfl)) (by kernel_rfl)) (by kernel_rfl)) (by kernel_rfl)) (by kernel_rfl)) (by kernel_rfl)) (by kernel_rfl)) (by kernel_rfl)) (by kernel_rfl)) (by kernel_rfl)) (by kernel_rfl)) (by kernel_rfl)) (by kernel_rfl)) (by kernel_rfl)) (by kernel_rfl)) (by kernel_rfl)) (λsaid=>?_)
 show PySem.W.holds_open (q:=Mi.vq) (loose:=Mi.lo) (Xt:=λs=>OJ Mi.vq [] s&&Ov [] s) (XP:=PySem.W.XL Mi.vq []) (Yf:=Mi.hk.obs) (Ya:=Mi.hk.val) (YP:=Mi.hk.says) (N:=3030) Mi.hl Mi.hk.of Mi.hk.keeps (λs e=>PySem.W.xl_of s (Ms.mp e).1) Pp (by rfl) (by rfl) (by rfl) (λs e=>PySem.W.recFacts_of (Ms.mp e).2) (by rfl) said (by decide +kernel) #[rfl,rfl,rfl,rfl,rfl,by decide +kernel] ?hw ?hc
 case hw=>w_witness2
 case hc=>
 show Mi.F3 (l:=K8) (K:=Mi.K0) rfl rfl (λw h Yq=>PySem.W.kIn_of Yq) ?F
 case F=>
  intro w mg fa h KX G hmg;exact Mi.CG KX G hmg (Mi.EA KX G (Mi.EC w.params)) (λp hp=>let ⟨e,l,c,k⟩:=Mi.EB w.params p hp; Mi.CF KX G (Mi.AH p hp).2.2 e l c k)
   (f:=298) (oc:=.type "function") (od:=td) (an:=td) (osl:=#[]) (kV:=.none) (doc:=.none) (pm:=(.str "law_layworld_k26_bases_told_otherwise" 305)) (cdv:=.ref 297) (ct:=.none) (by kernel_rfl) (by kernel_rfl) (by kernel_rfl) (by kernel_rfl)
